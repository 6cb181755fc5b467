/-
  DivMod where the divisor is 0.
-/
import Derived.Test.YtfjaboolfjgleaaAddb
namespace Go.Proofs.Ytfjaboolfjgleaa
open Go.RowKit

/-- Two zeros, and an error. -/
def Ret00 (k : Int) (w : World) (e : Ending) (w' : World) : Prop :=
  ∃ v1 v2, e = .returned (.tuple #[v1, v2, .int .i64 k]) ∧ IsInt w' v1 0 ∧ IsInt w' v2 0 ∧ Ext w w'

set_option maxRecDepth 100000 in
set_option maxHeartbeats 800000 in
theorem divMod_zero (w : World) (v1 v2 : Value) (z1 : Int) (h : IsInt w v1 z1) (k : IsInt w v2 0) :
    Calls Try.prog 33 #[v1, v2] w (Ret00 6 w) := by
  obtain ⟨ao, cap, s, n, rfl, h1, h2, h3, H4, H5, H6⟩ := h.open_
  obtain ⟨ao', cap', s', n', rfl, k1, k2, k3, K4, K5, K6⟩ := k.open_
  obtain ⟨W, hW, eW, c0, c1, d0, d1, ⟨q0, q1, fq0, fq1⟩, r0, r1, fr0, fr1⟩ := boxes2rr w (.bool s) (.slice ao (limbs n).length cap) (.bool s') (.slice ao' (limbs n').length cap') 24
  have hn : n' = 0 := by have := K4.out; simpa using this
  have hl : (limbs n').length = 0 := by rw [hn]; rfl
  rw [hl] at hW d1
  rw [hl]
  clear hl h1 h2 h3 k1 k2 k3 h k
  go_enter Try.func33, Try.ntmps33
  go_wp2
  have ge2 : w.heap.size ≤ w.heap.size + 2 := Nat.le_add_right _ 2
  have ge3 : w.heap.size ≤ w.heap.size + 3 := Nat.le_add_right _ 3
  exact bodyPost_ret (v := .tuple #[.agg #[.bool false, .slice none 0 0], .agg #[.bool false, .slice none 0 0], .int .i64 6]) (by simp [results, Try.results33, go_sem, q0, q1, r0, r1]) rfl
    ⟨_, _, rfl, isInt_zero _, isInt_zero _, (((eW.setCell (p := ⟨w.heap.size + 2, 0, none⟩) ge2 _).setCell (p := ⟨w.heap.size + 2, 1, none⟩) ge2 _).setCell (p := ⟨w.heap.size + 3, 0, none⟩) ge3 _).setCell (p := ⟨w.heap.size + 3, 1, none⟩) ge3 _⟩

end Go.Proofs.Ytfjaboolfjgleaa
