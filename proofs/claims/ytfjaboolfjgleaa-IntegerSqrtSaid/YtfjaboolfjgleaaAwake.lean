/-
  The examples of the document: awake returns true.
-/
import Derived.Test.YtfjaboolfjgleaaGcds
import Derived.Test.YtfjaboolfjgleaaSqrts
namespace Go.Proofs.Ytfjaboolfjgleaa
open Go.RowKit

set_option maxRecDepth 100000 in
set_option maxHeartbeats 800000 in
theorem cut_0 (w : World) : Calls Try.prog 64 #[.string ⟨#[45, 48]⟩, .string ⟨#[45]⟩] w fun e w' => e = .returned (.tuple #[.string ⟨#[48]⟩, .bool true]) ∧ Ext w w' := by
  have h0 : (((⟨#[45, 48]⟩ : ByteArray).extract 0 1).toList == [45]) = true := by kernel_rfl
  have h1 : ((⟨#[45, 48]⟩ : ByteArray).extract 1 2) = ⟨#[48]⟩ := by kernel_rfl
  go_enter Try.func64, Try.ntmps64
  go_wp2
  go_ret2
  exact ⟨rfl, Ext.refl w⟩

set_option maxRecDepth 100000 in
set_option maxHeartbeats 800000 in
theorem cut_01 (w : World) : Calls Try.prog 64 #[.string ⟨#[48, 49]⟩, .string ⟨#[45]⟩] w fun e w' => e = .returned (.tuple #[.string ⟨#[48, 49]⟩, .bool false]) ∧ Ext w w' := by
  have h0 : (((⟨#[48, 49]⟩ : ByteArray).extract 0 1).toList == [45]) = false := by kernel_rfl
  go_enter Try.func64, Try.ntmps64
  go_wp2
  go_ret2
  exact ⟨rfl, Ext.refl w⟩

set_option maxRecDepth 100000 in
set_option maxHeartbeats 800000 in
theorem num_01 (w : World) : Calls Try.prog 65 #[.string ⟨#[48, 49]⟩] w fun e w' => e = .returned (.bool false) ∧ Ext w w' := by
  go_enter Try.func65, Try.ntmps65
  go_wp2
  go_ret
  exact ⟨rfl, Ext.refl w⟩

set_option maxRecDepth 100000 in
set_option maxHeartbeats 800000 in
theorem num_0 (w : World) : Calls Try.prog 65 #[.string ⟨#[48]⟩] w fun e w' => e = .returned (.bool true) ∧ Ext w w' := by
  have h0 : (⟨#[48]⟩ : ByteArray)[0].toNat = 48 := by kernel_rfl
  go_enter Try.func65, Try.ntmps65
  go_wp2
  refine wp_loop_rounds 2 ?_
  rw [rounds_succ]
  go_wp2
  rw [rounds_succ]
  go_wp2
  go_ret
  exact ⟨rfl, Ext.refl w⟩

set_option maxRecDepth 100000 in
set_option maxHeartbeats 800000 in
theorem parse_0 (w : World) : Calls Try.prog 39 #[.string ⟨#[45, 48]⟩] w fun e w' => e = .returned (.tuple #[.agg #[.bool false, .slice none 0 0], .int .i64 2]) ∧ Ext w w' := by
  obtain ⟨W, hW, eW, _, r0, r1, f0, f1⟩ := res_new w 24
  go_enter Try.func39, Try.ntmps39
  go_wp2_with fail
  clear hW
  refine (cut_0 _).mono ?_
  rintro e w1 ⟨rfl, e1⟩
  go_wp2_with fail
  refine (num_0 _).mono ?_
  rintro e w2 ⟨rfl, e2⟩
  have eA := e1.trans e2
  have r02 := eA.cell r0
  have r12 := eA.cell r1
  have f02 := eA.frozen (lt_of_cell r0) f0
  have f12 := eA.frozen (lt_of_cell r1) f1
  clear r0 r1 f0 f1
  go_wp2
  exact bodyPost_ret (v := .tuple #[.agg #[.bool false, .slice none 0 0], .int .i64 2]) (by simp [results, Try.results39, go_sem, r02, r12]) rfl
    ⟨rfl, ((eW.trans eA).setCell (p := ⟨w.heap.size, 0, none⟩) (Nat.le_refl _) _).setCell (p := ⟨w.heap.size, 1, none⟩) (Nat.le_refl _) _⟩

set_option maxRecDepth 100000 in
set_option maxHeartbeats 800000 in
theorem parse_01 (w : World) : Calls Try.prog 39 #[.string ⟨#[48, 49]⟩] w fun e w' => e = .returned (.tuple #[.agg #[.bool false, .slice none 0 0], .int .i64 2]) ∧ Ext w w' := by
  obtain ⟨W, hW, eW, _, r0, r1, f0, f1⟩ := res_new w 24
  go_enter Try.func39, Try.ntmps39
  go_wp2_with fail
  clear hW
  refine (cut_01 _).mono ?_
  rintro e w1 ⟨rfl, e1⟩
  go_wp2_with fail
  refine (num_01 _).mono ?_
  rintro e w2 ⟨rfl, e2⟩
  have eA := e1.trans e2
  have r02 := eA.cell r0
  have r12 := eA.cell r1
  have f02 := eA.frozen (lt_of_cell r0) f0
  have f12 := eA.frozen (lt_of_cell r1) f1
  clear r0 r1 f0 f1
  go_wp2
  exact bodyPost_ret (v := .tuple #[.agg #[.bool false, .slice none 0 0], .int .i64 2]) (by simp [results, Try.results39, go_sem, r02, r12]) rfl
    ⟨rfl, ((eW.trans eA).setCell (p := ⟨w.heap.size, 0, none⟩) (Nat.le_refl _) _).setCell (p := ⟨w.heap.size, 1, none⟩) (Nat.le_refl _) _⟩

set_option maxHeartbeats 800000 in
theorem is_calls (w : World) (v : Value) (z n : Int) (h : IsInt w v z) (h1 : -9223372036854775808 ≤ n) (h2 : n ≤ 9223372036854775807) :
    Calls Try.prog 34 #[v, .int .i64 n] w fun e w' => e = .returned (.bool (decide (z = n))) ∧ Ext w w' := by
  have hI := h
  obtain ⟨ao, cap, s, m, rfl, k1, k2, k3, H4, H5, H6⟩ := h.open_
  obtain ⟨W, hW, eW, c0, c1⟩ := box1 w (.bool s) (.slice ao (limbs m).length cap) 24
  have HF := Lib.hid (rfromInt64_calls W.drew n h1 h2)
  have c0d : W.drew.cell? ⟨w.heap.size, 0, none⟩ = some (.bool s) := c0
  have c1d : W.drew.cell? ⟨w.heap.size, 1, none⟩ = some (.slice ao (limbs m).length cap) := c1
  clear h1 h2 h
  go_enter Try.func34, Try.ntmps34
  go_wp2_with fail
  clear hW
  go_region_held3 (fun w' => w'.cell? ⟨w.heap.size, 0, none⟩ = some (.bool s) ∧ w'.cell? ⟨w.heap.size, 1, none⟩ = some (.slice ao (limbs m).length cap))
    (first | with_reducible exact ⟨c0d, c1d⟩ | with_reducible exact ⟨c01, c11⟩ | with_reducible exact ⟨c02, c12⟩) ((first
      | (go_at_call 20; ((with_reducible refine HF.out.mono ?_)); rintro e w1 ⟨v1, rfl, hJ, e1⟩; have c01 := e1.of_drew.cell c0; have c11 := e1.of_drew.cell c1)
      | (go_at_call 19; refine (same_calls _ _ _ z n (hI.ext (eW.trans e1.of_drew)) hJ).mono ?_; rintro e w2 ⟨rfl, e2⟩; have c02 := e2.cell c01; have c12 := e2.cell c11)))
  go_wp2
  go_ret
  exact ⟨rfl, (eW.trans e1.of_drew).trans e2⟩

end Go.Proofs.Ytfjaboolfjgleaa
