/-
  Words on memory for the walks of this seat: a slice of uint32 that reads as a list, a block of the call's own, and worlds that only grow.
-/
import Derived.Test.YtfjaboolfjgleaaNum
import Derived.WalkKit
import Derived.Deep.OwnRows
import Derived.Deep.QuietTactic
import Derived.Lib.Hide
namespace Go.Proofs.Ytfjaboolfjgleaa
open Go.RowKit

/-- The world w' is w with new blocks: nothing that was there has turned. -/
def Ext (w w' : World) : Prop := Below w.heap.size w w'
theorem Ext.refl (w : World) : Ext w w := Below.refl _ _
theorem Ext.trans {a b c : World} (h : Ext a b) (k : Ext b c) : Ext a c := Below.trans h (Below.mono k h.size)
theorem Ext.alloc {a w : World} (h : Ext a w) (o : Obj) : Ext a (w.alloc o) := Below.alloc h h.size o
theorem Ext.drew {a w : World} (h : Ext a w) : Ext a w.drew := Below.drew h
theorem Ext.drewN {a w : World} (h : Ext a w) (n : Nat) : Ext a (w.drewN n) := ⟨h.os, h.tape, h.output, h.size, h.block⟩
theorem Ext.setCell {a w : World} (h : Ext a w) {p : Addr} (hp : a.heap.size ≤ p.block) (u : Value) : Ext a (w.setCell p u) := Below.setCell h hp u
theorem Ext.size {a w : World} (h : Ext a w) : a.heap.size ≤ w.heap.size := Below.size h

theorem lt_of_cell {w : World} {p : Addr} {v : Value} (h : w.cell? p = some v) : p.block < w.heap.size := by
  rcases Nat.lt_or_ge p.block w.heap.size with hlt | hge
  · exact hlt
  · simp [World.cell?, Array.getElem?_eq_none hge] at h
theorem Ext.cell {w w' : World} (h : Ext w w') {p : Addr} {v : Value} (hc : w.cell? p = some v) : w'.cell? p = some v :=
  (Below.cell h (lt_of_cell hc)).trans hc
theorem Ext.frozen {w w' : World} (h : Ext w w') {p : Addr} (hp : p.block < w.heap.size) (hc : w.frozen? p = false) : w'.frozen? p = false :=
  (Below.frozen h hp).trans hc

/-- The slice at this address reads as this list of uint32. -/
def Cells (w : World) (ao : Option Addr) (xs : List Nat) : Prop :=
  xs = [] ∨ ∃ b off, ao = some ⟨b, off, none⟩ ∧ ∀ i, i < xs.length → w.cell? ⟨b, off + i, none⟩ = some (.int .u32 ((xs.getD i 0 : Nat) : Int))
theorem Cells.nil (w : World) (ao : Option Addr) : Cells w ao [] := .inl rfl
theorem Cells.ext {w w' : World} {ao : Option Addr} {xs : List Nat} (h : Cells w ao xs) (e : Ext w w') : Cells w' ao xs := by
  rcases h with h | ⟨b, off, rfl, h⟩
  · exact .inl h
  · exact .inr ⟨b, off, rfl, fun i hi => e.cell (h i hi)⟩
theorem Cells.drew {w : World} {ao : Option Addr} {xs : List Nat} (h : Cells w ao xs) : Cells w.drew ao xs := h
theorem Cells.take {w : World} {ao : Option Addr} {xs : List Nat} (h : Cells w ao xs) (k : Nat) : Cells w ao (xs.take k) := by
  rcases h with h | ⟨b, off, rfl, h⟩
  · subst h; simp [Cells]
  · refine .inr ⟨b, off, rfl, fun i hi => ?_⟩
    rw [List.length_take] at hi
    rw [h i (by omega)]
    simp only [List.getD_eq_getElem?_getD, List.getElem?_take]
    rw [if_pos (by omega)]
theorem Cells.at_ {w : World} {ao : Option Addr} {xs : List Nat} (h : Cells w ao xs) (hne : 0 < xs.length) :
    ∃ b off, ao = some ⟨b, off, none⟩ ∧ ∀ i, i < xs.length → w.cell? ⟨b, off + i, none⟩ = some (.int .u32 ((xs.getD i 0 : Nat) : Int)) := by
  rcases h with h | h
  · subst h; simp at hne
  · exact h

/-- A list of uint32 as values. -/
def u32s (xs : List Nat) : Array Value := (xs.map fun x => Value.int .u32 ((x : Nat) : Int)).toArray
/-- Block g begins with just this list of uint32, and is not frozen; behind it there may be spare places. -/
def Blk (w : World) (g : Nat) (xs : List Nat) : Prop := ∃ sp : Array Value, w.heap[g]? = some (.cells (u32s xs ++ sp) 46 (0, 0))
section
variable {w w' : World} {g : Nat} {xs : List Nat}
theorem Blk.lt (h : Blk w g xs) : g < w.heap.size := by
  obtain ⟨sp, h⟩ := h
  rcases Nat.lt_or_ge g w.heap.size with hlt | hge
  · exact hlt
  · rw [Array.getElem?_eq_none hge] at h; cases h
theorem size_u32s (xs : List Nat) : (u32s xs).size = xs.length := by simp [u32s]
theorem u32s_at (xs : List Nat) (i : Nat) (hi : i < xs.length) : (u32s xs)[i]? = some (.int .u32 ((xs.getD i 0 : Nat) : Int)) := by
  simp [u32s, List.getD_eq_getElem?_getD, hi]
theorem Blk.cell (h : Blk w g xs) (i : Nat) (hi : i < xs.length) : w.cell? ⟨g, i, none⟩ = some (.int .u32 ((xs.getD i 0 : Nat) : Int)) := by
  obtain ⟨sp, h⟩ := h
  simp only [World.cell?, h]
  simp only [Option.isSome_none, Bool.false_eq_true, if_false]
  rw [Array.getElem?_append_left (by rw [size_u32s]; exact hi), u32s_at xs i hi]
theorem Blk.frozen (h : Blk w g xs) (i : Nat) : w.frozen? ⟨g, i, none⟩ = false := by
  obtain ⟨sp, h⟩ := h
  simp [World.frozen?, h]
theorem Blk.new (w : World) (xs : List Nat) : Blk (w.alloc (.cells (u32s xs) 46)) w.heap.size xs := by
  refine ⟨#[], ?_⟩
  rw [Array.append_empty]
  show (w.heap.push _)[w.heap.size]? = _
  exact Array.getElem?_push_size
theorem Blk.ext (h : Blk w g xs) (e : Ext w w') : Blk w' g xs := by
  have hl := h.lt
  obtain ⟨sp, h⟩ := h
  exact ⟨sp, (e.block g hl).trans h⟩
theorem Blk.alloc (h : Blk w g xs) (o : Obj) : Blk (w.alloc o) g xs := h.ext ((Ext.refl w).alloc o)
theorem Blk.drew (h : Blk w g xs) : Blk w.drew g xs := h
theorem Blk.set (h : Blk w g xs) (i x : Nat) (hi : i < xs.length) : Blk (w.setCell ⟨g, i, none⟩ (.int .u32 ((x : Nat) : Int))) g (xs.set i x) := by
  obtain ⟨sp, h⟩ := h
  refine ⟨sp, ?_⟩
  simp only [World.setCell, Array.getElem?_modify, if_true, h, Option.map_some]
  simp only [Option.isSome_none, Bool.false_eq_true, if_false]
  rw [Array.setIfInBounds_append_left (by rw [size_u32s]; exact hi)]
  simp [u32s, List.map_set]
theorem Blk.far (h : Blk w g xs) {p : Addr} (hp : g ≠ p.block) (u : Value) : Blk (w.setCell p u) g xs := by
  obtain ⟨sp, h⟩ := h
  exact ⟨sp, (Below.heap_setCell w p u g hp).trans h⟩
theorem Blk.cells (h : Blk w g xs) : Cells w (some ⟨g, 0, none⟩) xs := by
  refine .inr ⟨g, 0, rfl, fun i hi => ?_⟩
  rw [Nat.zero_add]
  exact h.cell i hi
theorem Blk.of_owns {base cap n : Nat} (h : w.ownsRow base 46 1 (.slice (some ⟨g, 0, none⟩) n cap) n (xs.map fun x => Value.int .u32 ((x : Nat) : Int))) : Blk w g xs := by
  obtain ⟨h1, h2⟩ := h
  rcases h2 with ⟨hv, _⟩ | ⟨g', cap', cur, hv, _, hh, _, _, hs, ht⟩
  · cases hv
  · injection hv with hv1 hv2 hv3
    injection hv1 with hv1
    injection hv1 with hv1
    subst hv1
    refine ⟨(cur.toList.drop n).toArray, ?_⟩
    rw [hh]
    congr 2
    rw [Nat.mul_one] at ht
    apply Array.toList_inj.1
    rw [Array.toList_append, u32s, List.toList_toArray, List.toList_toArray, ← ht, List.take_append_drop]
end
theorem madeCells_u32 (n : Nat) : madeCells #[Value.int .u32 0] n = u32s (List.replicate n 0) := by
  apply Array.ext
  · simp [madeCells, u32s]
  · intro i h1 h2
    simp [madeCells, u32s, Nat.mod_one]

/-- An integer in memory: its sign, and the limbs of its absolute value. -/
def IsInt (w : World) (v : Value) (z : Int) : Prop :=
  ∃ ao cap, v = .agg #[.bool (decide (z < 0)), .slice ao (limbs z.natAbs).length cap] ∧ (limbs z.natAbs).length ≤ cap ∧ cap ≤ 9223372036854775807 ∧ Cells w ao (limbs z.natAbs)
theorem IsInt.ext {w w' : World} {v : Value} {z : Int} (h : IsInt w v z) (e : Ext w w') : IsInt w' v z := by
  obtain ⟨ao, cap, h1, h2, h3, h4⟩ := h
  exact ⟨ao, cap, h1, h2, h3, h4.ext e⟩

end Go.Proofs.Ytfjaboolfjgleaa
