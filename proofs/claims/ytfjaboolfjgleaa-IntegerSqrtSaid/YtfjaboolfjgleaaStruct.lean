/-
  A struct's block: two cells of it, as it is made, and as it is written.
-/
import Derived.Test.YtfjaboolfjgleaaValid
import Derived.Test.YtfjaboolfjgleaaLim
namespace Go.Proofs.Ytfjaboolfjgleaa
open Go.RowKit

/-- A struct's block as it is made: two cells, not frozen. -/
def Fresh (w : World) (b : Nat) : Prop :=
  w.cell? ⟨b, 0, none⟩ = some (.bool false) ∧ w.cell? ⟨b, 1, none⟩ = some (.slice none 0 0) ∧ w.frozen? ⟨b, 0, none⟩ = false ∧ w.frozen? ⟨b, 1, none⟩ = false
theorem Fresh.ext {w w' : World} {b : Nat} (h : Fresh w b) (e : Ext w w') : Fresh w' b :=
  ⟨e.cell h.1, e.cell h.2.1, e.frozen (lt_of_cell h.1) h.2.2.1, e.frozen (lt_of_cell h.2.1) h.2.2.2⟩
theorem fresh_new (w : World) (t : TypeId) : Fresh (w.alloc (.cells #[.bool false, .slice none 0 0] t)) w.heap.size := by
  obtain ⟨W, hW, _, _, h1, h2, h3, h4⟩ := res_new w t
  rw [hW]
  exact ⟨h1, h2, h3, h4⟩
theorem fresh_snd (w : World) (o : Obj) (t : TypeId) : Fresh ((w.alloc o).alloc (.cells #[.bool false, .slice none 0 0] t)) (w.heap.size + 1) := by
  have := fresh_new (w.alloc o) t
  rw [World.size_alloc] at this
  exact this
theorem Fresh.alloc {w : World} {b : Nat} (h : Fresh w b) (o : Obj) : Fresh (w.alloc o) b := h.ext ((Ext.refl w).alloc o)

theorem Raw.set {w : World} {v : Value} {neg : Bool} {xs : List Nat} (h : Raw w v neg xs) {p : Addr} {u : Value} (hp : w.cell? p = some u) (hu : ∀ x, u ≠ .int .u32 x) (u' : Value) : Raw (w.setCell p u') v neg xs := by
  obtain ⟨ao, cap, h1, h2, h3, h4⟩ := h
  exact ⟨ao, cap, h1, h2, h3, h4.store hp hu u'⟩
/-- A struct's block: what its two cells hold. -/
def Struct (w : World) (b : Nat) (u0 u1 : Value) : Prop := w.cell? ⟨b, 0, none⟩ = some u0 ∧ w.cell? ⟨b, 1, none⟩ = some u1
theorem Struct.ext {w w' : World} {b : Nat} {u0 u1 : Value} (h : Struct w b u0 u1) (e : Ext w w') : Struct w' b u0 u1 := ⟨e.cell h.1, e.cell h.2⟩
theorem Struct.set {w : World} {b b' : Nat} {u0 u1 : Value} (h : Struct w b u0 u1) (hb : b' ≠ b) (j : Nat) (u : Value) : Struct (w.setCell ⟨b', j, none⟩ u) b u0 u1 :=
  ⟨by rw [World.cell?_setCell_far _ _ _ _ hb]; exact h.1, by rw [World.cell?_setCell_far _ _ _ _ hb]; exact h.2⟩
theorem Fresh.set {w : World} {b b' : Nat} (h : Fresh w b) (hb : b' ≠ b) (j : Nat) (u : Value) : Struct (w.setCell ⟨b', j, none⟩ u) b (.bool false) (.slice none 0 0) :=
  Struct.set ⟨h.1, h.2.1⟩ hb j u
theorem Struct.put {w : World} {b : Nat} {u0 u1 v0 v1 : Value} (h : Struct w b u0 u1) : Struct ((w.setCell ⟨b, 0, none⟩ v0).setCell ⟨b, 1, none⟩ v1) b v0 v1 := by
  constructor
  · rw [World.cell?_setCell_other _ _ _ _ (by simp)]
    exact World.cell?_setCell_same _ _ _ h.1
  · refine World.cell?_setCell_same _ _ _ (u := u1) ?_
    rw [World.cell?_setCell_other _ _ _ _ (by simp)]
    exact h.2
theorem Raw.put {w : World} {v : Value} {neg : Bool} {xs : List Nat} {b : Nat} (h : Raw w v neg xs) (k : Struct w b (.bool false) (.slice none 0 0)) (v0 v1 : Value) : Raw ((w.setCell ⟨b, 0, none⟩ v0).setCell ⟨b, 1, none⟩ v1) v neg xs := by
  refine (h.set k.1 (by simp) v0).set (u := .slice none 0 0) ?_ (by simp) v1
  rw [World.cell?_setCell_other _ _ _ _ (by simp)]
  exact k.2
theorem Ext.put {a w : World} (h : Ext a w) {b : Nat} (hb : a.heap.size ≤ b) (v0 v1 : Value) : Ext a ((w.setCell ⟨b, 0, none⟩ v0).setCell ⟨b, 1, none⟩ v1) :=
  (h.setCell (p := ⟨b, 0, none⟩) hb v0).setCell (p := ⟨b, 1, none⟩) hb v1
theorem struct_new (w : World) (u0 u1 : Value) (t : TypeId) : Struct (w.alloc (.cells #[u0, u1] t)) w.heap.size u0 u1 := ⟨by simp, by simp⟩

end Go.Proofs.Ytfjaboolfjgleaa
