/-
  Texts of this seat, joined.
-/
import Derived.Below
import Derived.WalkKit
import Derived.Deep.OwnRows
import Derived.Deep.QuietTactic
import Derived.Lib.Hide
import Derived.Test.YtmofkmdacfdejaaDoorProg
import Derived.WalkSpells
import Derived.WalkLawsBesides
import Derived.BigQuiet
import Derived.Deep.RegionHeld3
import Derived.Laws.AppendOwnNone
import Derived.Shelf.Strconv.AppendUint10
import Derived.Laws.IdiomStrings
import Derived.Lib.LaidTab
/- ---- Num ---- -/
section
/-
  Plain facts on lists of limbs (base 10^9) and the numbers that they stand for. No program is named here.
-/
set_option maxRecDepth 100000
namespace Go.Proofs.YtmofkmdacfdejaaDoor

/-- The number with these limbs. -/
def val : List Nat → Nat
  | [] => 0
  | x :: r => x + 1000000000 * val r

/-- All limbs are less than the base. -/
def Dig (xs : List Nat) : Prop := ∀ i, xs.getD i 0 < 1000000000

/-- The limbs of a number, with fuel. -/
def limbsF : Nat → Nat → List Nat
  | 0, _ => []
  | f + 1, n => if n = 0 then [] else n % 1000000000 :: limbsF f (n / 1000000000)

/-- The limbs of a number, the last one not 0. -/
def limbs (n : Nat) : List Nat := limbsF n n

theorem limbsF_eq : ∀ (f g n : Nat), n ≤ f → n ≤ g → limbsF f n = limbsF g n := by
  intro f
  induction f with
  | zero => intro g n h _; obtain rfl : n = 0 := by omega
            cases g <;> simp [limbsF]
  | succ f ih =>
    intro g n h hg
    cases g with
    | zero => obtain rfl : n = 0 := by omega
              simp [limbsF]
    | succ g =>
      unfold limbsF
      by_cases h0 : n = 0
      · simp [h0]
      · rw [if_neg h0, if_neg h0, ih g (n / 1000000000) (by omega) (by omega)]

theorem limbs_zero : limbs 0 = [] := rfl
theorem limbs_step {n : Nat} (h : 0 < n) : limbs n = n % 1000000000 :: limbs (n / 1000000000) := by
  obtain ⟨k, rfl⟩ : ∃ k, n = k + 1 := ⟨n - 1, by omega⟩
  show limbsF (k + 1) (k + 1) = _
  rw [limbsF, if_neg (by omega)]
  congr 1
  exact limbsF_eq _ _ _ (by omega) (by omega)

theorem val_limbsF : ∀ (f n : Nat), n ≤ f → val (limbsF f n) = n := by
  intro f
  induction f with
  | zero => intro n h; simp [limbsF, val]; omega
  | succ f ih =>
    intro n h
    unfold limbsF
    by_cases h0 : n = 0
    · simp [h0, val]
    · rw [if_neg h0, val, ih _ (by omega)]; omega
theorem val_limbs (n : Nat) : val (limbs n) = n := val_limbsF n n (Nat.le_refl _)

theorem limbs_inj {m n : Nat} (h : limbs m = limbs n) : m = n := by
  rw [← val_limbs m, h, val_limbs]

theorem Dig.nil : Dig [] := fun i => by simp
theorem Dig.cons {x : Nat} {r : List Nat} (h : x < 1000000000) (hr : Dig r) : Dig (x :: r) := by
  intro i
  cases i with
  | zero => simpa using h
  | succ i => simpa using hr i
theorem Dig.head {x : Nat} {r : List Nat} (h : Dig (x :: r)) : x < 1000000000 := by simpa using h 0
theorem Dig.tail {x : Nat} {r : List Nat} (h : Dig (x :: r)) : Dig r := fun i => by simpa using h (i + 1)
theorem Dig.take {xs : List Nat} (h : Dig xs) (k : Nat) : Dig (xs.take k) := by
  intro i
  have := h i
  simp only [List.getD_eq_getElem?_getD, List.getElem?_take] at this ⊢
  split
  · exact this
  · simp
theorem Dig.drop {xs : List Nat} (h : Dig xs) (k : Nat) : Dig (xs.drop k) := by
  intro i
  have := h (k + i)
  simpa only [List.getD_eq_getElem?_getD, List.getElem?_drop] using this
theorem Dig.append {xs ys : List Nat} (h : Dig xs) (k : Dig ys) : Dig (xs ++ ys) := by
  intro i
  have := h i
  have := k (i - xs.length)
  simp only [List.getD_eq_getElem?_getD] at *
  by_cases hi : i < xs.length
  · rw [List.getElem?_append_left hi]; assumption
  · rw [List.getElem?_append_right (by omega)]; assumption
theorem Dig.set {xs : List Nat} (h : Dig xs) (i : Nat) {x : Nat} (hx : x < 1000000000) : Dig (xs.set i x) := by
  intro j
  have := h j
  simp only [List.getD_eq_getElem?_getD, List.getElem?_set] at *
  split
  · split
    · simpa using hx
    · simp
  · exact this
theorem Dig.replicate (n : Nat) : Dig (List.replicate n 0) := by
  intro i
  simp only [List.getD_eq_getElem?_getD, List.getElem?_replicate]
  split <;> simp

theorem dig_limbsF : ∀ (f n : Nat), Dig (limbsF f n) := by
  intro f
  induction f with
  | zero => intro n; exact Dig.nil
  | succ f ih =>
    intro n
    unfold limbsF
    split
    · exact Dig.nil
    · exact Dig.cons (by omega) (ih _)
theorem dig_limbs (n : Nat) : Dig (limbs n) := dig_limbsF n n

theorem val_append (xs ys : List Nat) : val (xs ++ ys) = val xs + 1000000000 ^ xs.length * val ys := by
  induction xs with
  | nil => simp [val]
  | cons x r ih =>
    simp only [List.cons_append, val, ih, List.length_cons, Nat.pow_succ]
    rw [Nat.mul_add, Nat.mul_comm (1000000000 ^ r.length) 1000000000, Nat.mul_assoc]; omega

theorem val_lt {xs : List Nat} (h : Dig xs) : val xs < 1000000000 ^ xs.length := by
  induction xs with
  | nil => simp [val]
  | cons x r ih =>
    have := ih h.tail
    have := h.head
    simp only [val, List.length_cons, Nat.pow_succ]
    omega

theorem take_succ_getD (xs : List Nat) (k : Nat) (h : k < xs.length) : xs.take (k + 1) = xs.take k ++ [xs.getD k 0] := by
  rw [List.take_succ_eq_append_getElem h]; simp [List.getD_eq_getElem?_getD, h]

theorem val_take_succ (xs : List Nat) (k : Nat) (h : k < xs.length) : val (xs.take (k + 1)) = val (xs.take k) + 1000000000 ^ k * xs.getD k 0 := by
  rw [take_succ_getD _ _ h, val_append, List.length_take, Nat.min_eq_left (by omega)]
  simp [val]

theorem drop_getD (xs : List Nat) (k : Nat) (h : k < xs.length) : xs.drop k = xs.getD k 0 :: xs.drop (k + 1) := by
  rw [List.drop_eq_getElem_cons h]; simp [List.getD_eq_getElem?_getD, h]

theorem val_drop (xs : List Nat) (k : Nat) (h : k < xs.length) : val (xs.drop k) = xs.getD k 0 + 1000000000 * val (xs.drop (k + 1)) := by
  rw [drop_getD _ _ h, val]

theorem val_split (xs : List Nat) (k : Nat) (h : k ≤ xs.length) : val xs = val (xs.take k) + 1000000000 ^ k * val (xs.drop k) := by
  have := val_append (xs.take k) (xs.drop k)
  rw [List.take_append_drop, List.length_take, Nat.min_eq_left h] at this
  exact this

/-- How many limbs stay if the zeros behind the last other limb of the first n are dropped. -/
def trimN (xs : List Nat) : Nat → Nat
  | 0 => 0
  | n + 1 => if xs.getD n 0 = 0 then trimN xs n else n + 1

theorem trimN_le (xs : List Nat) : ∀ n, trimN xs n ≤ n
  | 0 => Nat.le_refl _
  | n + 1 => by
    have := trimN_le xs n
    unfold trimN
    split <;> omega

/-- A list of limbs with a last one that is not 0 is the list of its number. -/
theorem limbs_val : ∀ {xs : List Nat}, Dig xs → (xs ≠ [] → xs.getD (xs.length - 1) 0 ≠ 0) → limbs (val xs) = xs := by
  intro xs
  induction xs with
  | nil => intros; rfl
  | cons x r ih =>
    intro h hl
    have hx := h.head
    have hpos : 0 < val (x :: r) := by
      simp only [val]
      rcases r with _ | ⟨y, r⟩
      · have := hl (by simp); simp at this; omega
      · have hr : 0 < val (y :: r) := by
          rcases Nat.eq_zero_or_pos (val (y :: r)) with h0 | h0
          · have := ih h.tail (fun _ => by have := hl (by simp); simpa using this)
            rw [h0] at this; simp [limbs_zero] at this
          · exact h0
        omega
    rw [limbs_step hpos]
    have e1 : val (x :: r) % 1000000000 = x := by simp only [val]; omega
    have e2 : val (x :: r) / 1000000000 = val r := by simp only [val]; omega
    rw [e1, e2, ih h.tail ?_]
    intro hr
    have := hl (by simp)
    rcases r with _ | ⟨y, r⟩
    · exact absurd rfl hr
    · simpa using this

theorem val_take_trimN (xs : List Nat) : ∀ n, n ≤ xs.length → val (xs.take (trimN xs n)) = val (xs.take n)
  | 0, _ => rfl
  | n + 1, h => by
    unfold trimN
    split
    · rename_i h0
      rw [val_take_trimN xs n (by omega), val_take_succ _ _ (by omega), h0]; omega
    · rfl

theorem trimN_last (xs : List Nat) : ∀ n, 0 < trimN xs n → xs.getD (trimN xs n - 1) 0 ≠ 0
  | 0, h => by simp [trimN] at h
  | n + 1, h => by
    unfold trimN at h ⊢
    split
    · rename_i h0
      rw [if_pos h0] at h
      exact trimN_last xs n h
    · rename_i h0
      simpa using h0

theorem take_trimN {xs : List Nat} (h : Dig xs) : xs.take (trimN xs xs.length) = limbs (val xs) := by
  have hle := trimN_le xs xs.length
  have e : val (xs.take (trimN xs xs.length)) = val xs := by
    rw [val_take_trimN xs _ (Nat.le_refl _), List.take_of_length_le (Nat.le_refl _)]
  rw [← e, limbs_val (h.take _)]
  intro hne
  rw [List.length_take, Nat.min_eq_left hle]
  have hp : 0 < trimN xs xs.length := by
    rcases Nat.eq_zero_or_pos (trimN xs xs.length) with h0 | h0
    · rw [h0] at hne; simp at hne
    · exact h0
  have := trimN_last xs xs.length hp
  simp only [List.getD_eq_getElem?_getD, List.getElem?_take] at this ⊢
  rw [if_pos (by omega)]
  exact this

theorem trimN_length {xs : List Nat} (h : Dig xs) : trimN xs xs.length = (limbs (val xs)).length := by
  rw [← take_trimN h, List.length_take, Nat.min_eq_left (trimN_le _ _)]

theorem limbs_last (n : Nat) (h : limbs n ≠ []) : (limbs n).getD ((limbs n).length - 1) 0 ≠ 0 := by
  have hl : (limbs n).take (trimN (limbs n) (limbs n).length) = limbs n := by
    rw [take_trimN (dig_limbs n), val_limbs]
  have hlen : trimN (limbs n) (limbs n).length = (limbs n).length := by
    have := congrArg List.length hl
    rw [List.length_take] at this
    have := trimN_le (limbs n) (limbs n).length
    omega
  have := trimN_last (limbs n) (limbs n).length (by rw [hlen]; exact List.length_pos_iff.2 h)
  rwa [hlen] at this

theorem limbs_len_le {n k : Nat} (h : n < 1000000000 ^ k) : (limbs n).length ≤ k := by
  rcases Nat.lt_or_ge k (limbs n).length with hk | hk
  · exfalso
    have hne : limbs n ≠ [] := by intro e; rw [e] at hk; simp at hk
    have hl := limbs_last n hne
    have hs := val_split (limbs n) ((limbs n).length - 1) (by omega)
    rw [val_limbs, val_drop _ _ (by omega)] at hs
    have hp : 1000000000 ^ k ≤ 1000000000 ^ ((limbs n).length - 1) := Nat.pow_le_pow_right (by omega) (by omega)
    have : 1000000000 ^ ((limbs n).length - 1) * 1 ≤ 1000000000 ^ ((limbs n).length - 1) * ((limbs n).getD ((limbs n).length - 1) 0 + 1000000000 * val ((limbs n).drop ((limbs n).length - 1 + 1))) := Nat.mul_le_mul_left _ (by omega)
    omega
  · exact hk
theorem lt_of_limbs_len {n k : Nat} (h : (limbs n).length ≤ k) : n < 1000000000 ^ k := by
  have := val_lt (dig_limbs n)
  rw [val_limbs] at this
  exact Nat.lt_of_lt_of_le this (Nat.pow_le_pow_right (by omega) h)
theorem limbs_eq_nil {n : Nat} : limbs n = [] ↔ n = 0 := by
  constructor
  · intro h; have := val_limbs n; rw [h] at this; exact this.symm
  · rintro rfl; rfl
theorem limbs_len_mono {m n : Nat} (h : m ≤ n) : (limbs m).length ≤ (limbs n).length :=
  limbs_len_le (Nat.lt_of_le_of_lt h (lt_of_limbs_len (Nat.le_refl _)))
theorem dig_iff {xs : List Nat} : Dig xs ↔ ∀ i, i < xs.length → xs.getD i 0 < 1000000000 := by
  constructor
  · intro h i _; exact h i
  · intro h i
    by_cases hi : i < xs.length
    · exact h i hi
    · rw [List.getD_eq_getElem?_getD, List.getElem?_eq_none (by omega)]; simp

end Go.Proofs.YtmofkmdacfdejaaDoor
end

/- ---- Voc ---- -/
section
/-
  Words on memory for the walks of this seat: a slice of uint32 that reads as a list, a block of the call's own, and worlds that only grow.
-/
set_option maxRecDepth 100000
namespace Go.Proofs.YtmofkmdacfdejaaDoor
open Go.RowKit

/-- The world w' is w with new blocks: nothing that was there has turned. -/
def Ext (w w' : World) : Prop := Below w.heap.size w w'
theorem Ext.refl (w : World) : Ext w w := Below.refl _ _
theorem Ext.trans {a b c : World} (h : Ext a b) (k : Ext b c) : Ext a c := Below.trans h (Below.mono k h.size)
theorem Ext.alloc {a w : World} (h : Ext a w) (o : Obj) : Ext a (w.alloc o) := Below.alloc h h.size o
theorem Ext.drew {a w : World} (h : Ext a w) : Ext a w.drew := Below.drew h
theorem Ext.drewN {a w : World} (h : Ext a w) (n : Nat) : Ext a (w.drewN n) := ⟨h.os, h.tape, h.output, h.size, h.block⟩
theorem Ext.setCell {a w : World} (h : Ext a w) {p : Addr} (hp : a.heap.size ≤ p.block) (u : Value) : Ext a (w.setCell p u) := Below.setCell h hp u
theorem Ext.size {a w : World} (h : Ext a w) : a.heap.size ≤ w.heap.size := Below.size h

theorem lt_of_cell {w : World} {p : Addr} {v : Value} (h : w.cell? p = some v) : p.block < w.heap.size := by
  rcases Nat.lt_or_ge p.block w.heap.size with hlt | hge
  · exact hlt
  · simp [World.cell?, Array.getElem?_eq_none hge] at h
theorem Ext.cell {w w' : World} (h : Ext w w') {p : Addr} {v : Value} (hc : w.cell? p = some v) : w'.cell? p = some v :=
  (Below.cell h (lt_of_cell hc)).trans hc
theorem Ext.frozen {w w' : World} (h : Ext w w') {p : Addr} (hp : p.block < w.heap.size) (hc : w.frozen? p = false) : w'.frozen? p = false :=
  (Below.frozen h hp).trans hc

/-- The slice at this address reads as this list of uint32. -/
def Cells (w : World) (ao : Option Addr) (xs : List Nat) : Prop :=
  xs = [] ∨ ∃ b off, ao = some ⟨b, off, none⟩ ∧ ∀ i, i < xs.length → w.cell? ⟨b, off + i, none⟩ = some (.int .u32 ((xs.getD i 0 : Nat) : Int))
theorem Cells.nil (w : World) (ao : Option Addr) : Cells w ao [] := .inl rfl
theorem Cells.ext {w w' : World} {ao : Option Addr} {xs : List Nat} (h : Cells w ao xs) (e : Ext w w') : Cells w' ao xs := by
  rcases h with h | ⟨b, off, rfl, h⟩
  · exact .inl h
  · exact .inr ⟨b, off, rfl, fun i hi => e.cell (h i hi)⟩
theorem Cells.drew {w : World} {ao : Option Addr} {xs : List Nat} (h : Cells w ao xs) : Cells w.drew ao xs := h
theorem Cells.take {w : World} {ao : Option Addr} {xs : List Nat} (h : Cells w ao xs) (k : Nat) : Cells w ao (xs.take k) := by
  rcases h with h | ⟨b, off, rfl, h⟩
  · subst h; simp [Cells]
  · refine .inr ⟨b, off, rfl, fun i hi => ?_⟩
    rw [List.length_take] at hi
    rw [h i (by omega)]
    simp only [List.getD_eq_getElem?_getD, List.getElem?_take]
    rw [if_pos (by omega)]
theorem Cells.at_ {w : World} {ao : Option Addr} {xs : List Nat} (h : Cells w ao xs) (hne : 0 < xs.length) :
    ∃ b off, ao = some ⟨b, off, none⟩ ∧ ∀ i, i < xs.length → w.cell? ⟨b, off + i, none⟩ = some (.int .u32 ((xs.getD i 0 : Nat) : Int)) := by
  rcases h with h | h
  · subst h; simp at hne
  · exact h

/-- A list of uint32 as values. -/
def u32s (xs : List Nat) : Array Value := (xs.map fun x => Value.int .u32 ((x : Nat) : Int)).toArray
/-- Block g begins with just this list of uint32, and is not frozen; behind it there may be spare places. -/
def Blk (w : World) (g : Nat) (xs : List Nat) : Prop := ∃ sp : Array Value, w.heap[g]? = some (.cells (u32s xs ++ sp) 38 (0, 0))
section
variable {w w' : World} {g : Nat} {xs : List Nat}
theorem Blk.lt (h : Blk w g xs) : g < w.heap.size := by
  obtain ⟨sp, h⟩ := h
  rcases Nat.lt_or_ge g w.heap.size with hlt | hge
  · exact hlt
  · rw [Array.getElem?_eq_none hge] at h; cases h
theorem size_u32s (xs : List Nat) : (u32s xs).size = xs.length := by simp [u32s]
theorem u32s_at (xs : List Nat) (i : Nat) (hi : i < xs.length) : (u32s xs)[i]? = some (.int .u32 ((xs.getD i 0 : Nat) : Int)) := by
  simp [u32s, List.getD_eq_getElem?_getD, hi]
theorem Blk.cell (h : Blk w g xs) (i : Nat) (hi : i < xs.length) : w.cell? ⟨g, i, none⟩ = some (.int .u32 ((xs.getD i 0 : Nat) : Int)) := by
  obtain ⟨sp, h⟩ := h
  simp only [World.cell?, h]
  simp only [Option.isSome_none, Bool.false_eq_true, if_false]
  rw [Array.getElem?_append_left (by rw [size_u32s]; exact hi), u32s_at xs i hi]
theorem Blk.frozen (h : Blk w g xs) (i : Nat) : w.frozen? ⟨g, i, none⟩ = false := by
  obtain ⟨sp, h⟩ := h
  simp [World.frozen?, h]
theorem Blk.new (w : World) (xs : List Nat) : Blk (w.alloc (.cells (u32s xs) 38)) w.heap.size xs := by
  refine ⟨#[], ?_⟩
  rw [Array.append_empty]
  show (w.heap.push _)[w.heap.size]? = _
  exact Array.getElem?_push_size
theorem Blk.ext (h : Blk w g xs) (e : Ext w w') : Blk w' g xs := by
  have hl := h.lt
  obtain ⟨sp, h⟩ := h
  exact ⟨sp, (e.block g hl).trans h⟩
theorem Blk.alloc (h : Blk w g xs) (o : Obj) : Blk (w.alloc o) g xs := h.ext ((Ext.refl w).alloc o)
theorem Blk.drew (h : Blk w g xs) : Blk w.drew g xs := h
theorem Blk.set (h : Blk w g xs) (i x : Nat) (hi : i < xs.length) : Blk (w.setCell ⟨g, i, none⟩ (.int .u32 ((x : Nat) : Int))) g (xs.set i x) := by
  obtain ⟨sp, h⟩ := h
  refine ⟨sp, ?_⟩
  simp only [World.setCell, Array.getElem?_modify, if_true, h, Option.map_some]
  simp only [Option.isSome_none, Bool.false_eq_true, if_false]
  rw [Array.setIfInBounds_append_left (by rw [size_u32s]; exact hi)]
  simp [u32s, List.map_set]
theorem Blk.far (h : Blk w g xs) {p : Addr} (hp : g ≠ p.block) (u : Value) : Blk (w.setCell p u) g xs := by
  obtain ⟨sp, h⟩ := h
  exact ⟨sp, (Below.heap_setCell w p u g hp).trans h⟩
theorem Blk.cells (h : Blk w g xs) : Cells w (some ⟨g, 0, none⟩) xs := by
  refine .inr ⟨g, 0, rfl, fun i hi => ?_⟩
  rw [Nat.zero_add]
  exact h.cell i hi
theorem Blk.of_owns {base cap n : Nat} (h : w.ownsRow base 38 1 (.slice (some ⟨g, 0, none⟩) n cap) n (xs.map fun x => Value.int .u32 ((x : Nat) : Int))) : Blk w g xs := by
  obtain ⟨h1, h2⟩ := h
  rcases h2 with ⟨hv, _⟩ | ⟨g', cap', cur, hv, _, hh, _, _, hs, ht⟩
  · cases hv
  · injection hv with hv1 hv2 hv3
    injection hv1 with hv1
    injection hv1 with hv1
    subst hv1
    refine ⟨(cur.toList.drop n).toArray, ?_⟩
    rw [hh]
    congr 2
    rw [Nat.mul_one] at ht
    apply Array.toList_inj.1
    rw [Array.toList_append, u32s, List.toList_toArray, List.toList_toArray, ← ht, List.take_append_drop]
end
theorem madeCells_u32 (n : Nat) : madeCells #[Value.int .u32 0] n = u32s (List.replicate n 0) := by
  apply Array.ext
  · simp [madeCells, u32s]
  · intro i h1 h2
    simp [madeCells, u32s, Nat.mod_one]

/-- An integer in memory: its sign, and the limbs of its absolute value. -/
def IsInt (w : World) (v : Value) (z : Int) : Prop :=
  ∃ ao cap, v = .agg #[.bool (decide (z < 0)), .slice ao (limbs z.natAbs).length cap] ∧ (limbs z.natAbs).length ≤ cap ∧ cap ≤ 9223372036854775807 ∧ Cells w ao (limbs z.natAbs)
theorem IsInt.ext {w w' : World} {v : Value} {z : Int} (h : IsInt w v z) (e : Ext w w') : IsInt w' v z := by
  obtain ⟨ao, cap, h1, h2, h3, h4⟩ := h
  exact ⟨ao, cap, h1, h2, h3, h4.ext e⟩

end Go.Proofs.YtmofkmdacfdejaaDoor
end

/- ---- Trim ---- -/
section
/-
  The leaves: what trim, limbsOf, valueOf, short, limbs and signed return.
-/
set_option maxRecDepth 100000
namespace Go.Proofs.YtmofkmdacfdejaaDoor
open Go.RowKit

theorem Cells.trim {w : World} {ao : Option Addr} {xs : List Nat} (h : Cells w ao xs) (hd : Dig xs) : Cells w ao (limbs (val xs)) := by
  rw [← take_trimN hd]
  exact h.take _

set_option maxHeartbeats 400000 in
theorem trim_calls (w : World) (ao : Option Addr) (xs : List Nat) (cap : Nat) (hc : xs.length ≤ cap) (hm : cap ≤ 9223372036854775807) (h : Cells w ao xs) (hd : Dig xs) :
    Calls Tryd.prog 41 #[.slice ao xs.length cap] w fun e w' => e = .returned (.slice ao (limbs (val xs)).length cap) ∧ w = w' := by
  have HL := Lib.hid (trimN_length hd)
  clear hd
  go_enter Tryd.func41, Tryd.ntmps41
  go_wp2
  go_loop [3] (fun n => ∃ k : Nat, k ≤ xs.length ∧ n = .int .i64 k ∧ Hid (trimN xs k = trimN xs xs.length)) (fun n => (intOf n).toNat)
  case atStart => exact ⟨_, Nat.le_refl _, rfl, rfl⟩
  case round =>
    obtain ⟨k, hk, rfl, HT⟩ := hrel
    rcases k with _ | k
    · go_wp2
      go_ret
      exact ⟨by rw [← HL.out, ← HT.out]; rfl, rfl⟩
    · obtain ⟨b, off, rfl, hx⟩ := h.at_ (by omega)
      have hcell := hx k (by omega)
      have hk2 : k < xs.length := by omega
      clear hx
      obtain ⟨x, hx⟩ : ∃ x, x = xs.getD k 0 := ⟨_, rfl⟩
      rw [← hx] at hcell
      have HX := Lib.hid hx
      clear hx
      rcases x with _ | x
      · go_wp2
        go_round
        case rel => exact ⟨k, by omega, by go_num, by have := HT.out; rw [trimN, if_pos HX.out.symm] at this; exact this⟩
        case measure => simp [intOf]
      · go_wp2
        go_ret
        exact ⟨by rw [← HL.out, ← HT.out, trimN, if_neg (by rw [← HX.out]; omega)]; simp, rfl⟩

set_option maxHeartbeats 400000 in
theorem rtrim_calls (w : World) (ao : Option Addr) (xs : List Nat) (cap : Nat) (hc : xs.length ≤ cap) (hm : cap ≤ 9223372036854775807) (h : Cells w ao xs) (hd : Dig xs) :
    Calls Tryd.prog 42 #[.slice ao xs.length cap] w fun e w' => e = .returned (.slice ao (limbs (val xs)).length cap) ∧ w = w' := by
  have HL := Lib.hid (trimN_length hd)
  clear hd
  go_enter Tryd.func42, Tryd.ntmps42
  go_wp2
  go_loop [0] (fun n => ∃ k : Nat, k ≤ xs.length ∧ n = .slice ao k cap ∧ Hid (trimN xs k = trimN xs xs.length)) (fun n => match n with | .slice _ k _ => k | _ => 0)
  case atStart => exact ⟨_, Nat.le_refl _, rfl, rfl⟩
  case round =>
    obtain ⟨k, hk, rfl, HT⟩ := hrel
    rcases k with _ | k
    · go_wp2
      go_ret
      exact ⟨by rw [← HL.out, ← HT.out]; rfl, rfl⟩
    · obtain ⟨b, off, rfl, hx⟩ := h.at_ (by omega)
      have hcell := hx k (by omega)
      have hk2 : k < xs.length := by omega
      clear hx
      obtain ⟨x, hx⟩ : ∃ x, x = xs.getD k 0 := ⟨_, rfl⟩
      rw [← hx] at hcell
      have HX := Lib.hid hx
      clear hx
      rcases x with _ | x
      · go_wp2
        go_round
        case rel => exact ⟨k, by omega, by simp, by have := HT.out; rw [trimN, if_pos HX.out.symm] at this; exact this⟩
        case measure => simp
      · go_wp2
        go_ret
        exact ⟨by rw [← HL.out, ← HT.out, trimN, if_neg (by rw [← HX.out]; omega)]; simp, rfl⟩


/-- The call returns a value with this property, and nothing that was there has turned. -/
def Ret (Q : Value → World → Prop) (w : World) (e : Ending) (w' : World) : Prop := ∃ v, e = .returned v ∧ Q v w' ∧ Ext w w'
/-- A slice that reads as the limbs of a number. -/
def IsLimbs (n : Nat) (v : Value) (w : World) : Prop := ∃ ao cap, v = .slice ao (limbs n).length cap ∧ (limbs n).length ≤ cap ∧ cap ≤ 9223372036854775807 ∧ Cells w ao (limbs n)
theorem IsLimbs.ext {w w' : World} {v : Value} {n : Nat} (h : IsLimbs n v w) (e : Ext w w') : IsLimbs n v w' := by
  obtain ⟨ao, cap, h1, h2, h3, h4⟩ := h
  exact ⟨ao, cap, h1, h2, h3, h4.ext e⟩

theorem val_drop_le (xs : List Nat) (k : Nat) : val (xs.drop k) ≤ val xs := by
  induction xs generalizing k with
  | nil => simp
  | cons x r ih =>
    cases k with
    | zero => simp
    | succ k => have := ih k; simp only [List.drop_succ_cons, val]; omega
theorem val_drop_len (xs : List Nat) : val (xs.drop xs.length) = 0 := by simp [val]

set_option maxHeartbeats 400000 in
theorem valueOf_calls (w : World) (ao : Option Addr) (xs : List Nat) (cap : Nat) (hc : xs.length ≤ cap) (hm : cap ≤ 9223372036854775807) (h : Cells w ao xs) (hv : val xs ≤ 18446744073709551615) :
    Calls Tryd.prog 37 #[.slice ao xs.length cap] w fun e w' => e = .returned (.int .u64 ((val xs : Nat) : Int)) ∧ w = w' := by
  have HV := Lib.hid hv
  clear hv
  go_enter Tryd.func37, Tryd.ntmps37
  go_wp2
  go_loop [3, 4] (fun v i => ∃ k : Nat, k ≤ xs.length ∧ i = .int .i64 ((k : Int) - 1) ∧ v = .int .u64 ((val (xs.drop k) : Nat) : Int)) (fun _ i => (intOf i + 1).toNat)
  case atStart => exact ⟨xs.length, Nat.le_refl _, by go_num, by rw [val_drop_len]; rfl⟩
  case round =>
    obtain ⟨k, hk, rfl, rfl⟩ := hrel
    rcases k with _ | k
    · go_wp2
      go_ret
      exact ⟨by simp, rfl⟩
    · obtain ⟨b, off, rfl, hx⟩ := h.at_ (by omega)
      have hcell := hx k (by omega)
      have hk2 : k < xs.length := by omega
      have hs := val_drop xs k hk2
      have hle := val_drop_le xs k
      clear hx
      obtain ⟨x, hx⟩ : ∃ x, x = xs.getD k 0 := ⟨_, rfl⟩
      obtain ⟨v, hv⟩ : ∃ v, v = val (xs.drop (k + 1)) := ⟨_, rfl⟩
      rw [← hx] at hcell
      rw [← hx, ← hv] at hs
      rw [← hv]
      have hb : v * 1000000000 + x ≤ 18446744073709551615 := by have := HV.out; omega
      have HS := Lib.hid hs
      clear hs hle hx hv
      have ek : ((k + 1 : Nat) : Int) - 1 = (k : Int) := by omega
      rw [ek]
      clear ek
      go_wp2
      go_round
      case rel => exact ⟨k, by omega, by go_num, by rw [HS.out]; go_num⟩
      case measure => simp [intOf]

theorem cells_lit3 (w : World) (a b c : Nat) {A B C : Int} (hA : A = a) (hB : B = b) (hC : C = c) :
    Cells (w.alloc (.cells #[.int .u32 A, .int .u32 B, .int .u32 C] 38)) (some ⟨w.heap.size, 0, none⟩) [a, b, c] := by
  subst hA hB hC
  exact (Blk.new w [a, b, c]).cells


set_option maxHeartbeats 400000 in
theorem limbsOf_calls (w : World) (n : Nat) (hn : n ≤ 18446744073709551615) :
    Calls Tryd.prog 30 #[.int .u64 (n : Int)] w (Ret (IsLimbs n) w) := by
  have hcl := cells_lit3 w (n % 1000000000) (n / 1000000000 % 1000000000) (n / 1000000000 / 1000000000) (A := ↑n % 1000000000) (B := ↑n / 1000000000 % 1000000000) (C := ↑n / 1000000000 / 1000000000) (by omega) (by omega) (by omega)
  have hd : Dig [n % 1000000000, n / 1000000000 % 1000000000, n / 1000000000 / 1000000000] :=
    Dig.cons (by omega) (Dig.cons (by omega) (Dig.cons (by omega) Dig.nil))
  have hv : val [n % 1000000000, n / 1000000000 % 1000000000, n / 1000000000 / 1000000000] = n := by simp only [val]; omega
  have hfin := hcl.trim hd
  have hln : (limbs n).length ≤ 3 := limbs_len_le (by omega)
  rw [hv] at hfin
  have HV := Lib.hid hv
  clear hv
  go_enter Tryd.func30, Tryd.ntmps30
  go_wp2_with fail
  refine (trim_calls _ _ _ 3 (by simp) (by omega) hcl hd).mono ?_
  rintro e w' ⟨rfl, rfl⟩
  rw [HV.out]
  go_wp2
  go_ret
  exact ⟨_, rfl, ⟨_, _, rfl, hln, by omega, hfin⟩, (Ext.refl w).alloc _⟩

/-- The number with a sign and an absolute value. -/
def sgn (s : Bool) (n : Nat) : Int := if s then -(n : Int) else n
theorem sgn_zero (s : Bool) : sgn s 0 = 0 := by cases s <;> rfl
theorem natAbs_sgn (s : Bool) (n : Nat) : (sgn s n).natAbs = n := by unfold sgn; split <;> omega
theorem sgn_neg (s : Bool) {n : Nat} (h : n ≠ 0) : decide (sgn s n < 0) = s := by
  cases s
  · simp [sgn]
  · simp [sgn]; omega
/-- How an absolute value with a sign becomes an integer: 0 bears no sign. -/
theorem isInt_of {w : World} {s : Bool} {ao : Option Addr} {n cap : Nat} (h0 : n ≠ 0) (h1 : (limbs n).length ≤ cap) (h2 : cap ≤ 9223372036854775807) (h3 : Cells w ao (limbs n)) :
    IsInt w (.agg #[.bool s, .slice ao (limbs n).length cap]) (sgn s n) :=
  ⟨ao, cap, by rw [natAbs_sgn, sgn_neg s h0], by rw [natAbs_sgn]; exact h1, h2, by rw [natAbs_sgn]; exact h3⟩
theorem isInt_zero (w : World) : IsInt w (.agg #[.bool false, .slice none 0 0]) 0 := ⟨none, 0, by simp [limbs_zero], by simp [limbs_zero], by omega, Cells.nil _ _⟩

set_option maxHeartbeats 400000 in
theorem signed_calls (w : World) (s : Bool) (ao : Option Addr) (xs : List Nat) (cap : Nat) (hc : xs.length ≤ cap) (hm : cap ≤ 9223372036854775807) (h : Cells w ao xs) (hd : Dig xs) :
    Calls Tryd.prog 23 #[.bool s, .slice ao xs.length cap] w (Ret (fun v w' => IsInt w' v (sgn s (val xs))) w) := by
  have hfin := h.trim hd
  have hlen : (limbs (val xs)).length ≤ xs.length := limbs_len_le (val_lt hd)
  rcases Nat.eq_zero_or_pos (val xs) with h0 | h0
  · have HZ := Lib.hid h0
    clear h0
    go_enter Tryd.func23, Tryd.ntmps23
    go_wp2_with fail
    refine (trim_calls _ _ _ _ hc hm (h.ext ((Ext.refl w).alloc _)) hd).mono ?_
    rintro e w' ⟨rfl, rfl⟩
    rw [HZ.out, limbs_zero]
    go_wp2
    exact bodyPost_ret (v := .agg #[.bool false, .slice none 0 0]) (by simp [results, Tryd.results23, go_sem]) rfl ⟨_, rfl, by rw [HZ.out, sgn_zero]; exact isInt_zero _, (Ext.refl w).alloc _⟩
  · have hne : (limbs (val xs)).length ≠ 0 := by
      intro e; have := limbs_eq_nil.1 (List.eq_nil_of_length_eq_zero e); omega
    have hI := isInt_of (s := s) (by omega) (Nat.le_trans hlen hc) hm hfin
    obtain ⟨n, hn⟩ : ∃ n, n = (limbs (val xs)).length := ⟨_, rfl⟩
    rw [← hn] at hne
    have hbe : ((n : Int) == 0) = false := by simpa using hne
    have HN := Lib.hid hn
    clear hn
    go_enter Tryd.func23, Tryd.ntmps23
    go_wp2_with fail
    refine (trim_calls _ _ _ _ hc hm (h.ext ((Ext.refl w).alloc _)) hd).mono ?_
    rintro e w' ⟨rfl, rfl⟩
    rw [← HN.out]
    go_wp2
    exact bodyPost_ret (v := .agg #[.bool s, .slice ao n cap]) (by simp [results, Tryd.results23, go_sem]) rfl ⟨_, rfl, by rw [HN.out]; exact hI.ext ((Ext.refl w).alloc _), (Ext.refl w).alloc _⟩

end Go.Proofs.YtmofkmdacfdejaaDoor
end

/- ---- Cmp ---- -/
section
/-
  Comparisons: cmp.Compare, compareLimbs, the reference's compare, Sign, Cmp, Same.
-/
set_option maxRecDepth 100000
namespace Go.Proofs.YtmofkmdacfdejaaDoor
open Go.RowKit

/-- The sign of a - b. -/
def cmpZ (a b : Int) : Int := if a < b then -1 else if b < a then 1 else 0
theorem cmpZ_lt {a b : Int} (h : a < b) : cmpZ a b = -1 := by unfold cmpZ; rw [if_pos h]
theorem cmpZ_gt {a b : Int} (h : b < a) : cmpZ a b = 1 := by unfold cmpZ; rw [if_neg (by omega), if_pos h]
theorem cmpZ_eq {a b : Int} (h : a = b) : cmpZ a b = 0 := by unfold cmpZ; rw [if_neg (by omega), if_neg (by omega)]

theorem quiet_eq {P : Program} {f : FuncId} {args : Array Value} {w : World} {n : Nat} {v : Value}
    (h : Calls P f args (w.drewN n) fun e w' => e = .returned v ∧ w.drewN n = w') : Calls P f args (w.drewN n) fun e w'' => e = .returned v ∧ ∃ m, w'' = w.drewN m :=
  h.mono fun _ _ ⟨he, hm⟩ => ⟨he, n, hm.symm⟩
theorem ret_int {k : IntKind} {a b : Int} (h : a = b) : Ending.returned (.int k a) = .returned (.int k b) := by rw [h]

set_option maxHeartbeats 400000 in
theorem cmpInt_calls (w : World) (a b : Int) :
    Calls Tryd.prog 50 #[.int .i64 a, .int .i64 b] w fun e w' => e = .returned (.int .i64 (cmpZ a b)) ∧ w = w' := by
  rcases Int.lt_trichotomy a b with h | h | h
  · have HZ := Lib.hid (cmpZ_lt h)
    go_enter Tryd.func50, Tryd.ntmps50
    go_wp2
    go_ret
    exact ⟨ret_int HZ.out.symm, rfl⟩
  · have HZ := Lib.hid (cmpZ_eq h)
    subst h
    go_enter Tryd.func50, Tryd.ntmps50
    go_wp2
    go_ret
    exact ⟨ret_int HZ.out.symm, rfl⟩
  · have HZ := Lib.hid (cmpZ_gt h)
    go_enter Tryd.func50, Tryd.ntmps50
    go_wp2
    go_ret
    exact ⟨ret_int HZ.out.symm, rfl⟩

set_option maxHeartbeats 400000 in
theorem cmpU32_calls (w : World) (a b : Int) :
    Calls Tryd.prog 51 #[.int .u32 a, .int .u32 b] w fun e w' => e = .returned (.int .i64 (cmpZ a b)) ∧ w = w' := by
  rcases Int.lt_trichotomy a b with h | h | h
  · have HZ := Lib.hid (cmpZ_lt h)
    go_enter Tryd.func51, Tryd.ntmps51
    go_wp2
    go_ret
    exact ⟨ret_int HZ.out.symm, rfl⟩
  · have HZ := Lib.hid (cmpZ_eq h)
    subst h
    go_enter Tryd.func51, Tryd.ntmps51
    go_wp2
    go_ret
    exact ⟨ret_int HZ.out.symm, rfl⟩
  · have HZ := Lib.hid (cmpZ_gt h)
    go_enter Tryd.func51, Tryd.ntmps51
    go_wp2
    go_ret
    exact ⟨ret_int HZ.out.symm, rfl⟩

/-- The first limb from behind at which two lists differ decides. -/
theorem val_lt_of {xs ys : List Nat} {k : Nat} (hx : Dig xs) (hk : k < xs.length) (hk' : k < ys.length) (hd : val (xs.drop (k + 1)) = val (ys.drop (k + 1))) (hlt : xs.getD k 0 < ys.getD k 0) : val xs < val ys := by
  rw [val_split xs k (by omega), val_split ys k (by omega), val_drop xs k hk, val_drop ys k hk', hd]
  have h1 := val_lt (hx.take k)
  rw [List.length_take, Nat.min_eq_left (by omega)] at h1
  generalize 1000000000 ^ k = p at *
  generalize val (ys.drop (k + 1)) = d
  have : p * (xs.getD k 0 + 1000000000 * d) + p ≤ p * (ys.getD k 0 + 1000000000 * d) := by
    rw [← Nat.mul_succ]; exact Nat.mul_le_mul_left _ (by omega)
  omega

theorem lt_of_len {m n : Nat} (h : (limbs m).length < (limbs n).length) : m < n := by
  rcases Nat.lt_or_ge m n with h1 | h1
  · exact h1
  · have := limbs_len_mono h1; omega


theorem limbs_eq_of {m n : Nat} (h : val (limbs m) = val (limbs n)) : m = n := by rwa [val_limbs, val_limbs] at h
theorem lt_of_digit {m n k : Nat} (hk : k < (limbs m).length) (hk' : k < (limbs n).length) (hd : val ((limbs m).drop (k + 1)) = val ((limbs n).drop (k + 1))) (hlt : (limbs m).getD k 0 < (limbs n).getD k 0) : m < n := by
  have := val_lt_of (dig_limbs m) hk hk' hd hlt
  rwa [val_limbs, val_limbs] at this

/-- One round's step: the same from k + 1 on, and limb k the same. -/
theorem drop_eq_step {xs ys : List Nat} {k : Nat} (hk : k < xs.length) (hk' : k < ys.length) (hd : val (xs.drop (k + 1)) = val (ys.drop (k + 1))) (he : xs.getD k 0 = ys.getD k 0) : val (xs.drop k) = val (ys.drop k) := by
  rw [val_drop _ _ hk, val_drop _ _ hk', hd, he]

set_option maxHeartbeats 800000 in
theorem compareLimbs_calls (w : World) (ax ay : Option Addr) (m n cx cy : Nat) (lx : (limbs m).length ≤ 9223372036854775807) (ly : (limbs n).length ≤ 9223372036854775807) (hx : Cells w ax (limbs m)) (hy : Cells w ay (limbs n)) :
    Calls Tryd.prog 33 #[.slice ax (limbs m).length cx, .slice ay (limbs n).length cy] w fun e w' => e = .returned (.int .i64 (cmpZ m n)) ∧ ∃ k, w' = w.drewN k := by
  rcases Nat.lt_trichotomy (limbs m).length (limbs n).length with hl | hl | hl
  · have H1 := Lib.hid (cmpZ_lt (Int.ofNat_lt.2 hl))
    have H2 := Lib.hid (cmpZ_lt (Int.ofNat_lt.2 (lt_of_len hl)))
    go_enter Tryd.func33, Tryd.ntmps33
    go_wp2_with (go_at_call 50; refine (cmpInt_calls _ _ _).mono ?_; rintro e w' ⟨rfl, rfl⟩; rw [H1.out])
    go_ret
    exact ⟨ret_int H2.out.symm, 0, rfl⟩
  · have H1 := Lib.hid (cmpZ_eq (congrArg (fun x : Nat => (x : Int)) hl))
    have HL := Lib.hid hl
    clear hl
    go_enter Tryd.func33, Tryd.ntmps33
    go_wp2_with (go_at_call 50; refine (cmpInt_calls _ _ _).mono ?_; rintro e w' ⟨rfl, rfl⟩; rw [H1.out])
    go_loopw [6, 7] (fun i _ wr => ∃ k j : Nat, k ≤ (limbs m).length ∧ i = .int .i64 ((k : Int) - 1) ∧ Hid (wr = w.drewN j) ∧ Hid (val ((limbs m).drop k) = val ((limbs n).drop k))) (fun i _ _ => (intOf i + 1).toNat)
    case atStart => exact ⟨_, 0, Nat.le_refl _, rfl, rfl, by rw [val_drop_len, HL.out, val_drop_len]; rfl⟩
    case round =>
      obtain ⟨k, j, hk, rfl, HW, HD⟩ := hrel
      rcases k with _ | k
      · go_wp2
        go_ret
        exact ⟨ret_int (cmpZ_eq (congrArg (fun x : Nat => (x : Int)) (limbs_eq_of HD.out))).symm, j, HW.out⟩
      · have hk2 : k < (limbs m).length := by omega
        have hk3 : k < (limbs n).length := by rw [← HL.out]; omega
        obtain ⟨b1, o1, rfl, hx1⟩ := hx.at_ (by omega)
        obtain ⟨b2, o2, rfl, hy1⟩ := hy.at_ (by omega)
        have hcx : wr.cell? ⟨b1, o1 + k, none⟩ = some (.int .u32 (((limbs m).getD k 0 : Nat) : Int)) := by rw [HW.out]; exact hx1 k (by omega)
        have hcy : wr.cell? ⟨b2, o2 + k, none⟩ = some (.int .u32 (((limbs n).getD k 0 : Nat) : Int)) := by rw [HW.out]; exact hy1 k (by omega)
        clear hx hy hx1 hy1
        have ek : ((k + 1 : Nat) : Int) - 1 = (k : Int) := by omega
        rw [ek]
        clear ek
        have HR := Lib.hid (fun he => drop_eq_step hk2 hk3 HD.out he)
        have H1 := Lib.hid (fun hlt => lt_of_digit hk2 hk3 HD.out hlt)
        have H2 := Lib.hid (fun hlt => lt_of_digit hk3 hk2 HD.out.symm hlt)
        obtain ⟨x, hxx⟩ : ∃ x, x = (limbs m).getD k 0 := ⟨_, rfl⟩
        obtain ⟨y, hyy⟩ : ∃ y, y = (limbs n).getD k 0 := ⟨_, rfl⟩
        rw [← hxx] at hcx HR H1 H2
        rw [← hyy] at hcy HR H1 H2
        clear hxx hyy
        have bx1 : (0 : Int) ≤ (k : Int) := by omega
        have bx2 : (k : Int) < ((limbs m).length : Int) := by omega
        have bx3 : (k : Int) < ((limbs n).length : Int) := by omega
        rcases Nat.lt_trichotomy x y with hxy | hxy | hxy
        · have HZ := Lib.hid (cmpZ_lt (Int.ofNat_lt.2 hxy))
          have HF := Lib.hid (cmpZ_lt (Int.ofNat_lt.2 (H1.out hxy)))
          go_wp2
          go_quiet ((go_at_call 51; exact quiet_eq (cmpU32_calls _ _ _)))
          rw [HZ.out]
          go_wp2
          go_ret
          exact ⟨ret_int HF.out.symm, _, by rw [HW.out, World.drewN_drewN]⟩
        · have HZ := Lib.hid (cmpZ_eq (congrArg (fun x : Nat => (x : Int)) hxy))
          have HE := Lib.hid (HR.out hxy)
          subst hxy
          go_wp2
          go_quiet ((go_at_call 51; exact quiet_eq (cmpU32_calls _ _ _)))
          rw [HZ.out]
          go_wp2
          go_roundw
          case rel => exact ⟨k, j + nq, by omega, by go_num, by unfold Hid; rw [HW.out, World.drewN_drewN], HE⟩
          case measure => simp [intOf]
        · have HZ := Lib.hid (cmpZ_gt (Int.ofNat_lt.2 hxy))
          have HF := Lib.hid (cmpZ_gt (Int.ofNat_lt.2 (H2.out hxy)))
          go_wp2
          go_quiet ((go_at_call 51; exact quiet_eq (cmpU32_calls _ _ _)))
          rw [HZ.out]
          go_wp2
          go_ret
          exact ⟨ret_int HF.out.symm, _, by rw [HW.out, World.drewN_drewN]⟩
  · have H1 := Lib.hid (cmpZ_gt (Int.ofNat_lt.2 hl))
    have H2 := Lib.hid (cmpZ_gt (Int.ofNat_lt.2 (lt_of_len hl)))
    go_enter Tryd.func33, Tryd.ntmps33
    go_wp2_with (go_at_call 50; refine (cmpInt_calls _ _ _).mono ?_; rintro e w' ⟨rfl, rfl⟩; rw [H1.out])
    go_ret
    exact ⟨ret_int H2.out.symm, 0, rfl⟩

set_option maxHeartbeats 800000 in
theorem rcompare_calls (w : World) (ax ay : Option Addr) (m n cx cy : Nat) (lx : (limbs m).length ≤ 9223372036854775807) (ly : (limbs n).length ≤ 9223372036854775807) (hx : Cells w ax (limbs m)) (hy : Cells w ay (limbs n)) :
    Calls Tryd.prog 43 #[.slice ax (limbs m).length cx, .slice ay (limbs n).length cy] w fun e w' => e = .returned (.int .i64 (cmpZ m n)) ∧ ∃ k, w' = w.drewN k := by
  rcases Nat.lt_trichotomy (limbs m).length (limbs n).length with hl | hl | hl
  · have H1 := Lib.hid (cmpZ_lt (Int.ofNat_lt.2 hl))
    have H2 := Lib.hid (cmpZ_lt (Int.ofNat_lt.2 (lt_of_len hl)))
    go_enter Tryd.func43, Tryd.ntmps43
    go_wp2
    go_ret
    exact ⟨ret_int H2.out.symm, 0, rfl⟩
  · have H1 := Lib.hid (cmpZ_eq (congrArg (fun x : Nat => (x : Int)) hl))
    have HL := Lib.hid hl
    have hb0 : (((limbs m).length : Int) != ((limbs n).length : Int)) = false := by simp [hl]
    clear hl
    go_enter Tryd.func43, Tryd.ntmps43
    go_wp2
    go_loopw [5] (fun i wr => ∃ k j : Nat, k ≤ (limbs m).length ∧ i = .int .i64 ((k : Int) - 1) ∧ Hid (wr = w.drewN j) ∧ Hid (val ((limbs m).drop k) = val ((limbs n).drop k))) (fun i _ => (intOf i + 1).toNat)
    case atStart => exact ⟨_, 0, Nat.le_refl _, rfl, rfl, by rw [val_drop_len, HL.out, val_drop_len]; rfl⟩
    case round =>
      obtain ⟨k, j, hk, rfl, HW, HD⟩ := hrel
      rcases k with _ | k
      · go_wp2
        go_ret
        exact ⟨ret_int (cmpZ_eq (congrArg (fun x : Nat => (x : Int)) (limbs_eq_of HD.out))).symm, j, HW.out⟩
      · have hk2 : k < (limbs m).length := by omega
        have hk3 : k < (limbs n).length := by rw [← HL.out]; omega
        obtain ⟨b1, o1, rfl, hx1⟩ := hx.at_ (by omega)
        obtain ⟨b2, o2, rfl, hy1⟩ := hy.at_ (by omega)
        have hcx : wr.cell? ⟨b1, o1 + k, none⟩ = some (.int .u32 (((limbs m).getD k 0 : Nat) : Int)) := by rw [HW.out]; exact hx1 k (by omega)
        have hcy : wr.cell? ⟨b2, o2 + k, none⟩ = some (.int .u32 (((limbs n).getD k 0 : Nat) : Int)) := by rw [HW.out]; exact hy1 k (by omega)
        clear hx hy hx1 hy1
        have ek : ((k + 1 : Nat) : Int) - 1 = (k : Int) := by omega
        rw [ek]
        clear ek
        have HR := Lib.hid (fun he => drop_eq_step hk2 hk3 HD.out he)
        have H1 := Lib.hid (fun hlt => lt_of_digit hk2 hk3 HD.out hlt)
        have H2 := Lib.hid (fun hlt => lt_of_digit hk3 hk2 HD.out.symm hlt)
        obtain ⟨x, hxx⟩ : ∃ x, x = (limbs m).getD k 0 := ⟨_, rfl⟩
        obtain ⟨y, hyy⟩ : ∃ y, y = (limbs n).getD k 0 := ⟨_, rfl⟩
        rw [← hxx] at hcx HR H1 H2
        rw [← hyy] at hcy HR H1 H2
        clear hxx hyy
        have bx1 : (0 : Int) ≤ (k : Int) := by omega
        have bx2 : (k : Int) < ((limbs m).length : Int) := by omega
        have bx3 : (k : Int) < ((limbs n).length : Int) := by omega
        rcases Nat.lt_trichotomy x y with hxy | hxy | hxy
        · have hxz : (x : Int) < (y : Int) := by omega
          have HF := Lib.hid (cmpZ_lt (Int.ofNat_lt.2 (H1.out hxy)))
          go_wp2
          go_quiet (fail)
          go_wp2
          go_ret
          exact ⟨ret_int HF.out.symm, _, by rw [HW.out, World.drewN_drewN]⟩
        · have HE := Lib.hid (HR.out hxy)
          subst hxy
          go_wp2
          go_quiet (fail)
          go_wp2
          go_quiet (fail)
          go_wp2
          go_roundw
          case rel => exact ⟨k, _, by omega, by go_num, by unfold Hid; rw [HW.out, World.drewN_drewN], HE⟩
          case measure => simp [intOf]
        · have hxz : (y : Int) < (x : Int) := by omega
          have HF := Lib.hid (cmpZ_gt (Int.ofNat_lt.2 (H2.out hxy)))
          go_wp2
          go_quiet (fail)
          go_wp2
          go_quiet (fail)
          go_wp2
          go_ret
          exact ⟨ret_int HF.out.symm, _, by rw [HW.out, World.drewN_drewN, World.drewN_drewN]⟩
  · have H1 := Lib.hid (cmpZ_gt (Int.ofNat_lt.2 hl))
    have H2 := Lib.hid (cmpZ_gt (Int.ofNat_lt.2 (lt_of_len hl)))
    go_enter Tryd.func43, Tryd.ntmps43
    go_wp2
    go_ret
    exact ⟨ret_int H2.out.symm, 0, rfl⟩


end Go.Proofs.YtmofkmdacfdejaaDoor
end

/- ---- Sign ---- -/
section
/-
  Sign, Cmp and Same, of the program and of the reference.
-/
set_option maxRecDepth 100000
namespace Go.Proofs.YtmofkmdacfdejaaDoor
open Go.RowKit

/-- An integer as it lies in memory, with its parts by name. -/
theorem IsInt.open_ {w : World} {v : Value} {z : Int} (h : IsInt w v z) : ∃ ao cap s n, v = .agg #[.bool s, .slice ao (limbs n).length cap] ∧ (limbs n).length ≤ cap ∧ cap ≤ 9223372036854775807 ∧ Cells w ao (limbs n) ∧
    Hid (n = z.natAbs) ∧ Hid (z = sgn s n) ∧ Hid (s = true → 0 < n) := by
  obtain ⟨ao, cap, rfl, h1, h2, h3⟩ := h
  refine ⟨ao, cap, decide (z < 0), z.natAbs, rfl, h1, h2, h3, rfl, ?_, ?_⟩
  · unfold Hid sgn; by_cases hz : z < 0 <;> simp [hz] <;> omega
  · intro hs; have := of_decide_eq_true hs; omega

theorem cmpZ_sgn_pos {n : Nat} (s : Bool) (h : 0 < n) : cmpZ (sgn s n) 0 = if s then -1 else 1 := by
  cases s
  · simp only [sgn]; exact cmpZ_gt (by simp; omega)
  · simp only [sgn]; exact cmpZ_lt (by simp; omega)

theorem limbs_pos {n : Nat} (h : 0 < n) : 0 < (limbs n).length := by
  rcases Nat.eq_zero_or_pos (limbs n).length with h0 | h0
  · have := limbs_eq_nil.1 (List.eq_nil_of_length_eq_zero h0); omega
  · exact h0

/-- Two structs, boxed one behind the other: their cells. -/
theorem boxes2 (w : World) (u0 u1 v0 v1 : Value) (t : TypeId) : ∃ W, ((w.alloc (.cells #[u0, u1] t)).alloc (.cells #[v0, v1] t)) = W ∧ Ext w W ∧ W.heap.size = w.heap.size + 2 ∧
    W.cell? ⟨w.heap.size, 0, none⟩ = some u0 ∧ W.cell? ⟨w.heap.size, 1, none⟩ = some u1 ∧ W.cell? ⟨w.heap.size + 1, 0, none⟩ = some v0 ∧ W.cell? ⟨w.heap.size + 1, 1, none⟩ = some v1 := by
  refine ⟨_, rfl, ((Ext.refl w).alloc _).alloc _, by simp, ?_, ?_, ?_, ?_⟩
  · rw [World.cell?_alloc_lt _ _ _ (by simp)]; simp
  · rw [World.cell?_alloc_lt _ _ _ (by simp)]; simp
  · have := World.cell?_alloc_new (w.alloc (.cells #[u0, u1] t)) #[v0, v1] t 0
    rw [World.size_alloc] at this; exact this
  · have := World.cell?_alloc_new (w.alloc (.cells #[u0, u1] t)) #[v0, v1] t 1
    rw [World.size_alloc] at this; exact this
theorem Ext.of_drew {a w : World} (h : Ext a.drew w) : Ext a w := ⟨h.os, h.tape, h.output, h.size, h.block⟩

theorem cmpZ_cases (a b : Int) : (a < b ∧ cmpZ a b = -1) ∨ (a = b ∧ cmpZ a b = 0) ∨ (b < a ∧ cmpZ a b = 1) := by
  rcases Int.lt_trichotomy a b with h | h | h
  · exact .inl ⟨h, cmpZ_lt h⟩
  · exact .inr (.inl ⟨h, cmpZ_eq h⟩)
  · exact .inr (.inr ⟨h, cmpZ_gt h⟩)
theorem cmpZ_neg (a b : Int) : cmpZ (-a) (-b) = cmpZ b a := by
  have := cmpZ_cases (-a) (-b)
  have := cmpZ_cases b a
  omega
theorem cmpZ_signs_ne (a b : Int) (h : cmpZ (cmpZ a 0) (cmpZ b 0) ≠ 0) : cmpZ a b = cmpZ (cmpZ a 0) (cmpZ b 0) := by
  have h1 := cmpZ_cases a 0
  have h2 := cmpZ_cases b 0
  have h3 := cmpZ_cases (cmpZ a 0) (cmpZ b 0)
  have h4 := cmpZ_cases a b
  generalize cmpZ a b = y at *
  generalize cmpZ (cmpZ a 0) (cmpZ b 0) = x at *
  generalize cmpZ a 0 = u at *
  generalize cmpZ b 0 = v at *
  omega
theorem cmpZ_signs_eq {s s' : Bool} {n n' : Nat} (h1 : s = true → 0 < n) (h2 : s' = true → 0 < n') (h : cmpZ (cmpZ (sgn s n) 0) (cmpZ (sgn s' n') 0) = 0) :
    s = s' := by
  have e1 : s = true → cmpZ (sgn s n) 0 = -1 := by
    rintro rfl; have := h1 rfl; exact cmpZ_lt (by unfold sgn; simp; omega)
  have e2 : s' = true → cmpZ (sgn s' n') 0 = -1 := by
    rintro rfl; have := h2 rfl; exact cmpZ_lt (by unfold sgn; simp; omega)
  have e3 : s = false → cmpZ (sgn s n) 0 ≠ -1 := by
    rintro rfl; have := cmpZ_cases (sgn false n) 0; have : sgn false n = n := rfl; omega
  have e4 : s' = false → cmpZ (sgn s' n') 0 ≠ -1 := by
    rintro rfl; have := cmpZ_cases (sgn false n') 0; have : sgn false n' = n' := rfl; omega
  have h3 := cmpZ_cases (cmpZ (sgn s n) 0) (cmpZ (sgn s' n') 0)
  have he : cmpZ (sgn s n) 0 = cmpZ (sgn s' n') 0 := by omega
  cases s <;> cases s' <;> first | rfl | (exfalso; have := e1 rfl; have := e4 rfl; omega) | (exfalso; have := e3 rfl; have := e2 rfl; omega)

theorem ret_bool {a b : Bool} (h : a = b) : Ending.returned (.bool a) = .returned (.bool b) := by rw [h]

set_option maxHeartbeats 400000 in
theorem rsame_calls (w : World) (v1 v2 : Value) (z1 z2 : Int) (h : IsInt w v1 z1) (k : IsInt w v2 z2) :
    Calls Tryd.prog 25 #[v1, v2] w fun e w' => e = .returned (.bool (decide (z1 = z2))) ∧ Ext w w' := by
  obtain ⟨ao, cap, s, n, rfl, h1, h2, h3, H4, H5, H6⟩ := h.open_
  obtain ⟨ao', cap', s', n', rfl, k1, k2, k3, K4, K5, K6⟩ := k.open_
  obtain ⟨W, hW, eW, hz, c0, c1, d0, d1⟩ := boxes2 w (.bool s) (.slice ao (limbs n).length cap) (.bool s') (.slice ao' (limbs n').length cap') 24
  clear hz
  by_cases hs : s = s'
  · subst hs
    have HF : Hid ((cmpZ n n' == 0) = decide (z1 = z2)) := by
      unfold Hid
      rw [H5.out, K5.out, Bool.eq_iff_iff, beq_iff_eq, decide_eq_true_iff]
      have := cmpZ_cases n n'
      unfold sgn
      split <;> omega
    cases s
    · go_enter Tryd.func25, Tryd.ntmps25
      go_wp2_with fail
      refine (rcompare_calls _ _ _ n n' _ _ (by omega) (by omega) (h3.ext eW) (k3.ext eW)).mono ?_
      rintro e w3 ⟨rfl, j, rfl⟩
      go_wp2
      go_ret
      exact ⟨ret_bool HF.out, eW.drewN j⟩
    · go_enter Tryd.func25, Tryd.ntmps25
      go_wp2_with fail
      refine (rcompare_calls _ _ _ n n' _ _ (by omega) (by omega) (h3.ext eW) (k3.ext eW)).mono ?_
      rintro e w3 ⟨rfl, j, rfl⟩
      go_wp2
      go_ret
      exact ⟨ret_bool HF.out, eW.drewN j⟩
  · have HF : Hid (decide (z1 = z2) = false) := by
      unfold Hid
      rw [H5.out, K5.out, decide_eq_false_iff_not]
      have a1 := H6.out
      have a2 := K6.out
      cases s <;> cases s' <;> simp_all [sgn] <;> omega
    cases s <;> cases s'
    · exact absurd rfl hs
    · go_enter Tryd.func25, Tryd.ntmps25
      go_wp2
      go_ret
      exact ⟨ret_bool HF.out.symm, eW⟩
    · go_enter Tryd.func25, Tryd.ntmps25
      go_wp2
      go_ret
      exact ⟨ret_bool HF.out.symm, eW⟩
    · exact absurd rfl hs

set_option maxHeartbeats 400000 in
theorem same_calls (w : World) (v1 v2 : Value) (z1 z2 : Int) (h : IsInt w v1 z1) (k : IsInt w v2 z2) :
    Calls Tryd.prog 11 #[v1, v2] w fun e w' => e = .returned (.bool (decide (z1 = z2))) ∧ Ext w w' := by
  obtain ⟨ao, cap, s, n, rfl, h1, h2, h3, H4, H5, H6⟩ := h.open_
  obtain ⟨ao', cap', s', n', rfl, k1, k2, k3, K4, K5, K6⟩ := k.open_
  obtain ⟨W, hW, eW, hz, c0, c1, d0, d1⟩ := boxes2 w (.bool s) (.slice ao (limbs n).length cap) (.bool s') (.slice ao' (limbs n').length cap') 24
  clear hz
  go_enter Tryd.func11, Tryd.ntmps11
  go_wp2_with fail
  refine (rsame_calls _ _ _ z1 z2 (h.ext eW) (k.ext eW)).mono ?_
  rintro e w3 ⟨rfl, e3⟩
  go_wp2
  go_ret
  exact ⟨rfl, eW.trans e3⟩

end Go.Proofs.YtmofkmdacfdejaaDoor
end

/- ---- Sum ---- -/
section
/-
  Sums and differences of lists of limbs, of the program and of the reference.
-/
set_option maxRecDepth 100000
namespace Go.Proofs.YtmofkmdacfdejaaDoor
open Go.RowKit

theorem info_u32 : (Tryd.prog.info? 38).map (fun i => (i.zero, i.size, i.bytes)) = some (some (.int .u32 0), 1, 4) := by kernel_rfl
theorem run_mk (n : Nat) (hn : n ≤ 70368744177664) (N : Int) (hN : N = n) (w : World) :
    (Instr.makeSlice 22 (.int .i64 N) (.int .i64 N)).run Tryd.prog w = .ok (.slice (some ⟨w.heap.size, 0, none⟩) n n) (w.alloc (.cells (u32s (List.replicate n 0)) 38)) := by
  subst hN
  rw [← madeCells_u32]
  exact run_make_row' 22 38 (.int .u32 0) 4 Tryd.underlying22 info_u32 rfl .i64 .i64 n (by omega) (by omega) w

theorem val_take_succ' (xs : List Nat) (k : Nat) : val (xs.take (k + 1)) = val (xs.take k) + 1000000000 ^ k * xs.getD k 0 := by
  by_cases h : k < xs.length
  · exact val_take_succ xs k h
  · rw [List.take_of_length_le (by omega), List.take_of_length_le (by omega), List.getD_eq_getElem?_getD, List.getElem?_eq_none (by omega)]; simp
theorem take_set (zs : List Nat) (k d : Nat) (h : k < zs.length) : (zs.set k d).take (k + 1) = zs.take k ++ [d] := by
  rw [take_succ_getD _ _ (by simpa using h)]
  congr 1
  · rw [List.take_set_of_le (Nat.le_refl k)]
  · simp [List.getD_eq_getElem?_getD, h]
theorem val_take_set (zs : List Nat) (k d : Nat) (h : k < zs.length) : val ((zs.set k d).take (k + 1)) = val (zs.take k) + 1000000000 ^ k * d := by
  rw [take_set zs k d h, val_append, List.length_take, Nat.min_eq_left (by omega)]
  simp [val]

theorem Blk.set' {w : World} {g : Nat} {xs : List Nat} (h : Blk w g xs) (i d : Nat) (hi : i < xs.length) {V : Int} (hV : V = d) : Blk (w.setCell ⟨g, i, none⟩ (.int .u32 V)) g (xs.set i d) := by
  subst hV; exact h.set i d hi

/-- What holds after k rounds of an addition. -/
def AddRel (w : World) (g : Nat) (xs ys : List Nat) (k cv : Nat) (zs : List Nat) (wr : World) : Prop :=
  zs.length = xs.length + 1 ∧ Dig zs ∧ Blk wr g zs ∧ Ext w wr ∧ val (zs.take k) + 1000000000 ^ k * cv = val (xs.take k) + val (ys.take k)
theorem AddRel.step {w : World} {g : Nat} {xs ys : List Nat} {k cv : Nat} {zs : List Nat} {wr : World} (h : AddRel w g xs ys k cv zs wr) (hg : w.heap.size ≤ g) (hk : k < xs.length)
    (d cv' : Nat) (hd : d < 1000000000) (he : xs.getD k 0 + cv + ys.getD k 0 = d + 1000000000 * cv') {V : Int} (hV : V = d) :
    AddRel w g xs ys (k + 1) cv' (zs.set k d) (wr.setCell ⟨g, k, none⟩ (.int .u32 V)) := by
  obtain ⟨h1, h2, h3, h4, h5⟩ := h
  refine ⟨by simpa using h1, h2.set k hd, h3.set' k d (by omega) hV, h4.setCell (p := ⟨g, k, none⟩) hg _, ?_⟩
  rw [val_take_set _ _ _ (by omega), val_take_succ', val_take_succ' ys, Nat.pow_succ]
  generalize 1000000000 ^ k = p at *
  have e : p * (xs.getD k 0) + p * cv + p * (ys.getD k 0) = p * d + p * 1000000000 * cv' := by
    rw [← Nat.mul_add, ← Nat.mul_add, he, Nat.mul_add, Nat.mul_assoc]
  omega
theorem AddRel.done {w : World} {g : Nat} {xs ys : List Nat} {k cv : Nat} {zs : List Nat} {wr : World} (h : AddRel w g xs ys k cv zs wr) (hg : w.heap.size ≤ g) (hk : k = xs.length) (hy : ys.length ≤ xs.length) (hc : cv ≤ 1) :
    ∃ rs : List Nat, rs.length = xs.length + 1 ∧ Dig rs ∧ Blk (wr.setCell ⟨g, xs.length, none⟩ (.int .u32 cv)) g rs ∧ Ext w (wr.setCell ⟨g, xs.length, none⟩ (.int .u32 cv)) ∧ val rs = val xs + val ys := by
  subst hk
  obtain ⟨h1, h2, h3, h4, h5⟩ := h
  refine ⟨zs.set xs.length cv, by simpa using h1, h2.set _ (by omega), h3.set' _ cv (by omega) rfl, h4.setCell (p := ⟨g, xs.length, none⟩) hg _, ?_⟩
  have := val_take_set zs xs.length cv (by omega)
  rw [List.take_of_length_le (by simp; omega)] at this
  rw [this, h5, List.take_of_length_le (Nat.le_refl _), List.take_of_length_le hy]

set_option maxRecDepth 100000 in
set_option maxHeartbeats 800000 in
theorem addLimbs_calls (w : World) (ax ay : Option Addr) (xs ys : List Nat) (cx cy : Nat) (lx : xs.length ≤ 1099511627776) (ly : ys.length ≤ 1099511627776) (hx : Cells w ax xs) (hy : Cells w ay ys) (dx : Dig xs) (dy : Dig ys) :
    Calls Tryd.prog 28 #[.slice ax xs.length cx, .slice ay ys.length cy] w (Ret (IsLimbs (val xs + val ys)) w) := by
  by_cases hlt : xs.length < ys.length
  · have hmk := run_mk (ys.length + 1) (by omega) (↑ys.length + 1) (by omega)
    go_enter Tryd.func28, Tryd.ntmps28
    go_wp2
    clear hmk
    have h0 : AddRel w w.heap.size ys xs 0 0 (List.replicate (ys.length + 1) 0) (w.alloc (.cells (u32s (List.replicate (ys.length + 1) 0)) 38)) :=
      ⟨by simp, Dig.replicate _, Blk.new _ _, (Ext.refl w).alloc _, by simp [val]⟩
    go_loopw [6, 7, 8, 22] (fun c _ _ n wr => ∃ (k cv : Nat) (zs : List Nat), k ≤ ys.length ∧ n = .int .i64 k ∧ c = .int .u32 cv ∧ cv ≤ 1 ∧ AddRel w w.heap.size ys xs k cv zs wr) (fun _ _ _ n _ => ys.length - (intOf n).toNat)
    case atStart => exact ⟨0, 0, _, Nat.zero_le _, rfl, rfl, by omega, h0⟩
    case round =>
      obtain ⟨k, cv, zs, hk, rfl, rfl, hcv, hR⟩ := hrel
      clear h0
      by_cases hk2 : k < ys.length
      · have hzc := hR.2.2.1.cell k (by have := hR.1; omega)
        have hzf := hR.2.2.1.frozen k
        obtain ⟨b1, o1, rfl, hx1⟩ := hy.at_ (by omega)
        have hcx := hR.2.2.2.1.cell (hx1 k hk2)
        have bx0 := dy k
        have by0 := dx k
        have hst := fun d cv' hd he V hV => hR.step (Nat.le_refl _) hk2 d cv' hd he (V := V) hV
        have HST := Lib.hid hst
        clear hst hx1
        by_cases hk3 : k < xs.length
        · obtain ⟨b2, o2, rfl, hy1⟩ := hx.at_ (by omega)
          have hcy := hR.2.2.2.1.cell (hy1 k hk3)
          clear hy1
          generalize ys.getD k 0 = x at *
          generalize xs.getD k 0 = y at *
          have bx : (x : Int) < 1000000000 := by omega
          have by_ : (y : Int) < 1000000000 := by omega
          clear bx0 by0
          by_cases hb : (1000000000 : Int) ≤ x + cv + y
          · go_wp2
            go_roundw
            case rel => exact ⟨k + 1, 1, _, by omega, by go_num, by go_num, by omega, HST.out (x + cv + y - 1000000000) 1 (by omega) (by omega) _ (by omega)⟩
            case measure => simp [intOf]; omega
          · go_wp2
            go_roundw
            case rel => exact ⟨k + 1, 0, _, by omega, by go_num, by go_num, by omega, HST.out (x + cv + y) 0 (by omega) (by omega) _ (by omega)⟩
            case measure => simp [intOf]; omega
        · have hy0 : xs.getD k 0 = 0 := by rw [List.getD_eq_getElem?_getD, List.getElem?_eq_none (by omega)]; rfl
          rw [hy0] at HST
          clear hy0 by0
          generalize ys.getD k 0 = x at *
          have bx : (x : Int) < 1000000000 := by omega
          clear bx0
          by_cases hb : (1000000000 : Int) ≤ x + cv
          · go_wp2
            go_roundw
            case rel => exact ⟨k + 1, 1, _, by omega, by go_num, by go_num, by omega, HST.out (x + cv - 1000000000) 1 (by omega) (by omega) _ (by omega)⟩
            case measure => simp [intOf]; omega
          · go_wp2
            go_roundw
            case rel => exact ⟨k + 1, 0, _, by omega, by go_num, by go_num, by omega, HST.out (x + cv) 0 (by omega) (by omega) _ (by omega)⟩
            case measure => simp [intOf]; omega
      · obtain ⟨rs, r1, r2, r3, r4, r5⟩ := hR.done (Nat.le_refl _) (by omega) (by omega) hcv
        have hzc := hR.2.2.1.cell ys.length (by have := hR.1; omega)
        have hzf := hR.2.2.1.frozen ys.length
        have R1 := Lib.hid r1
        have R5 := Lib.hid r5
        clear r1 r5
        go_wp2_with fail
        rw [← R1.out]
        refine (trim_calls _ _ _ _ (Nat.le_refl _) (by rw [R1.out]; omega) r3.cells r2).mono ?_
        rintro e w' ⟨rfl, rfl⟩
        go_wp2
        go_ret
        exact ⟨_, rfl, by rw [Nat.add_comm, ← R5.out]; exact ⟨_, _, rfl, by rw [R1.out, ← trimN_length r2, ← R1.out]; exact trimN_le _ _, by rw [R1.out]; omega, r3.cells.trim r2⟩, r4⟩
  · have hmk := run_mk (xs.length + 1) (by omega) (↑xs.length + 1) (by omega)
    go_enter Tryd.func28, Tryd.ntmps28
    go_wp2
    clear hmk
    have h0 : AddRel w w.heap.size xs ys 0 0 (List.replicate (xs.length + 1) 0) (w.alloc (.cells (u32s (List.replicate (xs.length + 1) 0)) 38)) :=
      ⟨by simp, Dig.replicate _, Blk.new _ _, (Ext.refl w).alloc _, by simp [val]⟩
    go_loopw [6, 7, 8, 22] (fun c _ _ n wr => ∃ (k cv : Nat) (zs : List Nat), k ≤ xs.length ∧ n = .int .i64 k ∧ c = .int .u32 cv ∧ cv ≤ 1 ∧ AddRel w w.heap.size xs ys k cv zs wr) (fun _ _ _ n _ => xs.length - (intOf n).toNat)
    case atStart => exact ⟨0, 0, _, Nat.zero_le _, rfl, rfl, by omega, h0⟩
    case round =>
      obtain ⟨k, cv, zs, hk, rfl, rfl, hcv, hR⟩ := hrel
      clear h0
      by_cases hk2 : k < xs.length
      · have hzc := hR.2.2.1.cell k (by have := hR.1; omega)
        have hzf := hR.2.2.1.frozen k
        obtain ⟨b1, o1, rfl, hx1⟩ := hx.at_ (by omega)
        have hcx := hR.2.2.2.1.cell (hx1 k hk2)
        have bx0 := dx k
        have by0 := dy k
        have hst := fun d cv' hd he V hV => hR.step (Nat.le_refl _) hk2 d cv' hd he (V := V) hV
        have HST := Lib.hid hst
        clear hst hx1
        by_cases hk3 : k < ys.length
        · obtain ⟨b2, o2, rfl, hy1⟩ := hy.at_ (by omega)
          have hcy := hR.2.2.2.1.cell (hy1 k hk3)
          clear hy1
          generalize xs.getD k 0 = x at *
          generalize ys.getD k 0 = y at *
          have bx : (x : Int) < 1000000000 := by omega
          have by_ : (y : Int) < 1000000000 := by omega
          clear bx0 by0
          by_cases hb : (1000000000 : Int) ≤ x + cv + y
          · go_wp2
            go_roundw
            case rel => exact ⟨k + 1, 1, _, by omega, by go_num, by go_num, by omega, HST.out (x + cv + y - 1000000000) 1 (by omega) (by omega) _ (by omega)⟩
            case measure => simp [intOf]; omega
          · go_wp2
            go_roundw
            case rel => exact ⟨k + 1, 0, _, by omega, by go_num, by go_num, by omega, HST.out (x + cv + y) 0 (by omega) (by omega) _ (by omega)⟩
            case measure => simp [intOf]; omega
        · have hy0 : ys.getD k 0 = 0 := by rw [List.getD_eq_getElem?_getD, List.getElem?_eq_none (by omega)]; rfl
          rw [hy0] at HST
          clear hy0 by0
          generalize xs.getD k 0 = x at *
          have bx : (x : Int) < 1000000000 := by omega
          clear bx0
          by_cases hb : (1000000000 : Int) ≤ x + cv
          · go_wp2
            go_roundw
            case rel => exact ⟨k + 1, 1, _, by omega, by go_num, by go_num, by omega, HST.out (x + cv - 1000000000) 1 (by omega) (by omega) _ (by omega)⟩
            case measure => simp [intOf]; omega
          · go_wp2
            go_roundw
            case rel => exact ⟨k + 1, 0, _, by omega, by go_num, by go_num, by omega, HST.out (x + cv) 0 (by omega) (by omega) _ (by omega)⟩
            case measure => simp [intOf]; omega
      · obtain ⟨rs, r1, r2, r3, r4, r5⟩ := hR.done (Nat.le_refl _) (by omega) (by omega) hcv
        have hzc := hR.2.2.1.cell xs.length (by have := hR.1; omega)
        have hzf := hR.2.2.1.frozen xs.length
        have R1 := Lib.hid r1
        have R5 := Lib.hid r5
        clear r1 r5
        go_wp2_with fail
        rw [← R1.out]
        refine (trim_calls _ _ _ _ (Nat.le_refl _) (by rw [R1.out]; omega) r3.cells r2).mono ?_
        rintro e w' ⟨rfl, rfl⟩
        go_wp2
        go_ret
        exact ⟨_, rfl, by rw [← R5.out]; exact ⟨_, _, rfl, by rw [R1.out, ← trimN_length r2, ← R1.out]; exact trimN_le _ _, by rw [R1.out]; omega, r3.cells.trim r2⟩, r4⟩

end Go.Proofs.YtmofkmdacfdejaaDoor
end

/- ---- Rsum ---- -/
section
/-
  The reference's sums and differences of lists of limbs.
-/
set_option maxRecDepth 100000
namespace Go.Proofs.YtmofkmdacfdejaaDoor
open Go.RowKit

/-- What holds after k rounds of a subtraction. -/
def SubRel (w : World) (g : Nat) (xs ys : List Nat) (k bv : Nat) (zs : List Nat) (wr : World) : Prop :=
  zs.length = xs.length ∧ Dig zs ∧ Blk wr g zs ∧ Ext w wr ∧ val (zs.take k) + val (ys.take k) = val (xs.take k) + 1000000000 ^ k * bv
theorem SubRel.step {w : World} {g : Nat} {xs ys : List Nat} {k bv : Nat} {zs : List Nat} {wr : World} (h : SubRel w g xs ys k bv zs wr) (hg : w.heap.size ≤ g) (hk : k < xs.length)
    (d bv' : Nat) (hd : d < 1000000000) (he : d + bv + ys.getD k 0 = xs.getD k 0 + 1000000000 * bv') {V : Int} (hV : V = d) :
    SubRel w g xs ys (k + 1) bv' (zs.set k d) (wr.setCell ⟨g, k, none⟩ (.int .u32 V)) := by
  obtain ⟨h1, h2, h3, h4, h5⟩ := h
  refine ⟨by simpa using h1, h2.set k hd, h3.set' k d (by omega) hV, h4.setCell (p := ⟨g, k, none⟩) hg _, ?_⟩
  rw [val_take_set _ _ _ (by omega), val_take_succ', val_take_succ' xs, Nat.pow_succ]
  generalize 1000000000 ^ k = p at *
  have e : p * d + p * bv + p * (ys.getD k 0) = p * (xs.getD k 0) + p * 1000000000 * bv' := by
    rw [← Nat.mul_add, ← Nat.mul_add, he, Nat.mul_add, Nat.mul_assoc]
  omega
/-- At the end nothing is borrowed, if the first number is not less. -/
theorem SubRel.val_eq {w : World} {g : Nat} {xs ys : List Nat} {k bv : Nat} {zs : List Nat} {wr : World} (h : SubRel w g xs ys k bv zs wr) (hk : k = xs.length) (hy : ys.length ≤ xs.length) (hb : bv ≤ 1) (hle : val ys ≤ val xs) :
    val zs = val xs - val ys := by
  subst hk
  obtain ⟨h1, h2, h3, h4, h5⟩ := h
  rw [List.take_of_length_le (by omega), List.take_of_length_le hy, List.take_of_length_le (Nat.le_refl _)] at h5
  have := val_lt h2
  rw [h1] at this
  rcases Nat.eq_zero_or_pos bv with h0 | h0
  · rw [h0] at h5; omega
  · obtain rfl : bv = 1 := by omega
    omega

end Go.Proofs.YtmofkmdacfdejaaDoor
end

/- ---- Sub ---- -/
section
/-
  slices.Clone and the program's differences of lists of limbs.
-/
set_option maxRecDepth 100000
namespace Go.Proofs.YtmofkmdacfdejaaDoor
open Go.RowKit

/-- What slices.Clone leaves: nil for nil, else a block of the call's own. -/
def Cloned (xs : List Nat) (w : World) (e : Ending) (w' : World) : Prop :=
  ∃ ao cap, e = .returned (.slice ao xs.length cap) ∧ xs.length ≤ cap ∧ cap ≤ 9223372036854775807 ∧ Ext w w' ∧ (0 < xs.length → ∃ g, ao = some ⟨g, 0, none⟩ ∧ w.heap.size ≤ g ∧ Blk w' g xs)
theorem Cloned.cells {xs : List Nat} {ao : Option Addr} {w w' : World} (h : 0 < xs.length → ∃ g, ao = some ⟨g, 0, none⟩ ∧ w.heap.size ≤ g ∧ Blk w' g xs) : Cells w' ao xs := by
  rcases xs with _ | ⟨x, r⟩
  · exact Cells.nil _ _
  · obtain ⟨g, rfl, _, hb⟩ := h (by simp)
    exact hb.cells

set_option maxHeartbeats 400000 in
theorem clone_calls (w : World) (ao : Option Addr) (xs : List Nat) (c : Nat) (lx : xs.length ≤ 1099511627776) (h : Cells w ao xs) (hc : xs.length ≤ c) :
    Calls Tryd.prog 35 #[.slice ao xs.length c] w (Cloned xs w) := by
  rcases ao with _ | a
  · obtain rfl : xs = [] := by
      rcases h with h | ⟨b, off, hh, _⟩
      · exact h
      · cases hh
    have heq := fun w => Lib.run_eql_slice_nil (P := Tryd.prog) w 22 38 none 0 c 0 0 Tryd.underlying22
    go_enter Tryd.func35, Tryd.ntmps35
    go_wp2
    go_ret
    exact ⟨none, 0, rfl, by simp, by omega, Ext.refl w, fun h => absurd h (by simp)⟩
  · have heq := fun w => Lib.run_eql_slice_nil (P := Tryd.prog) w 22 38 (some a) xs.length c 0 0 Tryd.underlying22
    obtain ⟨i0, hi, hz0, hz1, hz2⟩ := info_parts info_u32
    have hnews : ∀ j u, (xs.map fun x => Value.int .u32 ((x : Nat) : Int))[j]? = some u → w.cell? (a.add j) = some u := by
      intro j u hu
      rcases h with h | ⟨b, off, hh, hx⟩
      · subst h; simp at hu
      · injection hh with hh
        subst hh
        rw [List.getElem?_map] at hu
        obtain ⟨x, hx1, rfl⟩ := Option.map_eq_some_iff.1 hu
        have hj : j < xs.length := (List.getElem?_eq_some_iff.1 hx1).1
        have := hx j hj
        rw [List.getD_eq_getElem?_getD, hx1] at this
        by_cases h0 : j = 0
        · subst h0; simpa [Addr.add] using this
        · simpa [Addr.add, h0] using this
    go_enter Tryd.func35, Tryd.ntmps35
    go_wp2_with (at_builtin; refine wpList_append_own _ rfl _ _ 22 rfl w.heap.size 38 i0 (.int .u32 0) 1 4 Tryd.underlying22 hi hz0 hz1 hz2 rfl (by decide) _ 0 [] rfl (World.ownsRow_made w #[] 0 (Nat.le_refl _) (by simp) (by simp)) a xs.length c (xs.map fun x => Value.int .u32 ((x : Nat) : Int)) rfl (by simp) ?c1 ?c2 ?c3 ?c4 ?c5 ?_)
    case c1 => exact fun j u hu => ((Ext.refl w).alloc _).cell (hnews j u hu)
    case c2 => intro u hu; obtain ⟨x, _, rfl⟩ := List.mem_map.1 hu; rfl
    case c3 => unfold maxLen; omega
    case c4 => omega
    case c5 => simp
    intro v' w1 hown hgrow hnil
    have hE : Ext w w1 := Below.grown ((Ext.refl w).alloc _) hgrow (by simp) (fun k hk => by simp [Value.ownBlock] at hk; omega)
    rcases hown.2 with ⟨rfl, _⟩ | ⟨g, cap, cur, rfl, hg, _, hnc, hcm, _, _⟩
    · exact absurd rfl hnil
    · have hb := Blk.of_owns hown
      clear hnil hgrow
      go_wp2
      go_ret
      exact ⟨_, _, rfl, hnc, by unfold maxLen at hcm; omega, hE, fun _ => ⟨g, rfl, hg, hb⟩⟩


theorem drop_ext {xs zs : List Nat} {k : Nat} (hl : zs.length = xs.length) (h : ∀ i, k ≤ i → zs.getD i 0 = xs.getD i 0) : zs.drop k = xs.drop k := by
  apply List.ext_getElem
  · simp [hl]
  · intro i h1 h2
    rw [List.length_drop] at h1 h2
    have := h (k + i) (by omega)
    simp only [List.getElem_drop]
    rw [List.getD_eq_getElem?_getD, List.getD_eq_getElem?_getD, List.getElem?_eq_getElem (by omega), List.getElem?_eq_getElem (by omega)] at this
    simpa using this
/-- A subtraction in place: what has not been reached yet is as it was. -/
def SubAt (w : World) (g : Nat) (xs ys : List Nat) (k : Nat) (b : Bool) (zs : List Nat) (wr : World) : Prop :=
  SubRel w g xs ys k b.toNat zs wr ∧ ∀ i, k ≤ i → zs.getD i 0 = xs.getD i 0
theorem getD_set_other (zs : List Nat) (k i d : Nat) (h : k ≠ i) : (zs.set k d).getD i 0 = zs.getD i 0 := by
  simp only [List.getD_eq_getElem?_getD, List.getElem?_set]
  rw [if_neg h]
theorem SubAt.step {w : World} {g : Nat} {xs ys : List Nat} {k : Nat} {b : Bool} {zs : List Nat} {wr : World} (h : SubAt w g xs ys k b zs wr) (hg : w.heap.size ≤ g) (hk : k < xs.length)
    (d : Nat) (b' : Bool) (hd : d < 1000000000) (he : d + b.toNat + ys.getD k 0 = xs.getD k 0 + 1000000000 * b'.toNat) {V : Int} (hV : V = d) :
    SubAt w g xs ys (k + 1) b' (zs.set k d) (wr.setCell ⟨g, k, none⟩ (.int .u32 V)) :=
  ⟨h.1.step hg hk d b'.toNat hd he hV, fun i hi => by rw [getD_set_other _ _ _ _ (by omega)]; exact h.2 i (by omega)⟩
theorem SubAt.step2 {w : World} {g : Nat} {xs ys : List Nat} {k : Nat} {b : Bool} {zs : List Nat} {wr : World} (h : SubAt w g xs ys k b zs wr) (hg : w.heap.size ≤ g) (hk : k < xs.length)
    (d : Nat) (b' : Bool) (hd : d < 1000000000) (he : d + b.toNat + ys.getD k 0 = xs.getD k 0 + 1000000000 * b'.toNat) {V U : Int} (u : Nat) (hU : U = u) (hV : V = d) :
    SubAt w g xs ys (k + 1) b' (zs.set k d) ((wr.setCell ⟨g, k, none⟩ (.int .u32 U)).setCell ⟨g, k, none⟩ (.int .u32 V)) := by
  obtain ⟨⟨h1, h2, h3, h4, h5⟩, h6⟩ := h
  have hs := SubAt.step (w := w) ⟨⟨h1, h2, h3, h4, h5⟩, h6⟩ hg hk d b' hd he hV
  have hb := (h3.set' k u (by omega) hU).set' k d (by simp; omega) hV
  rw [List.set_set] at hb
  exact ⟨⟨hs.1.1, hs.1.2.1, hb, (h4.setCell (p := ⟨g, k, none⟩) hg _).setCell (p := ⟨g, k, none⟩) hg _, hs.1.2.2.2.2⟩, hs.2⟩
theorem SubAt.stop {w : World} {g : Nat} {xs ys : List Nat} {k : Nat} {zs : List Nat} {wr : World} (h : SubAt w g xs ys k false zs wr) (hk : k ≤ xs.length) (hy : ys.length ≤ k) : val zs = val xs - val ys := by
  obtain ⟨⟨h1, h2, h3, h4, h5⟩, h6⟩ := h
  have hd := drop_ext h1 h6
  have e1 := val_split zs k (by omega)
  have e2 := val_split xs k hk
  rw [List.take_of_length_le hy] at h5
  rw [hd] at e1
  simp only [Bool.toNat_false, Nat.mul_zero, Nat.add_zero] at h5
  omega


/-- What the loop of subtractLimbs keeps: its slice begins at az (nil or empty where there is nothing to subtract from). -/
def SubLoop (w : World) (az : Option Addr) (xs ys : List Nat) (k : Nat) (b : Bool) (wr : World) : Prop :=
  Ext w wr ∧ (xs.length = 0 ∨ ∃ g zs, az = some ⟨g, 0, none⟩ ∧ w.heap.size ≤ g ∧ SubAt w g xs ys k b zs wr)
theorem SubLoop.at_ {w : World} {az : Option Addr} {xs ys : List Nat} {k : Nat} {b : Bool} {wr : World} (h : SubLoop w az xs ys k b wr) (hk : k < xs.length) :
    ∃ g, az = some ⟨g, 0, none⟩ ∧ wr.cell? ⟨g, k, none⟩ = some (.int .u32 ((xs.getD k 0 : Nat) : Int)) ∧ wr.frozen? ⟨g, k, none⟩ = false ∧
      Hid (∀ (V : Int) (b' : Bool), 0 ≤ V → V < 1000000000 → V + (b.toNat : Int) + ((ys.getD k 0 : Nat) : Int) = ((xs.getD k 0 : Nat) : Int) + 1000000000 * (b'.toNat : Int) → SubLoop w az xs ys (k + 1) b' (wr.setCell ⟨g, k, none⟩ (.int .u32 V))) ∧
      Hid (∀ (U V : Int) (b' : Bool), 0 ≤ V → V < 1000000000 → V + (b.toNat : Int) + ((ys.getD k 0 : Nat) : Int) = ((xs.getD k 0 : Nat) : Int) + 1000000000 * (b'.toNat : Int) → 0 ≤ U → SubLoop w az xs ys (k + 1) b' ((wr.setCell ⟨g, k, none⟩ (.int .u32 U)).setCell ⟨g, k, none⟩ (.int .u32 V))) := by
  obtain ⟨_, h0 | ⟨g, zs, rfl, hg, hR⟩⟩ := h
  · omega
  · have hzc := hR.1.2.2.1.cell k (by have := hR.1.1; omega)
    rw [hR.2 k (Nat.le_refl _)] at hzc
    refine ⟨g, rfl, hzc, hR.1.2.2.1.frozen k, ?_, ?_⟩
    · intro V b' v0 v1 he
      have hs := hR.step hg hk V.toNat b' (by omega) (by omega) (V := V) (by omega)
      exact ⟨hs.1.2.2.2.1, .inr ⟨g, _, rfl, hg, hs⟩⟩
    · intro U V b' v0 v1 he u0
      have hs := hR.step2 hg hk V.toNat b' (by omega) (by omega) (V := V) (U := U) U.toNat (by omega) (by omega)
      exact ⟨hs.1.2.2.2.1, .inr ⟨g, _, rfl, hg, hs⟩⟩
/-- What is read at the end. -/
def SubEnd (w : World) (az : Option Addr) (cz d : Nat) (L : Nat) (wr : World) : Prop :=
  ∃ zs, zs.length = L ∧ Dig zs ∧ Cells wr az zs ∧ (limbs (val zs)).length = (limbs d).length ∧ Cells wr az (limbs d) ∧ (limbs d).length ≤ cz ∧ Ext w wr
theorem SubLoop.end_ {w : World} {az : Option Addr} {xs ys : List Nat} {k cz : Nat} {b : Bool} {wr : World} (h : SubLoop w az xs ys k b wr) (hcz : xs.length ≤ cz) (hy : ys.length ≤ xs.length) (hv : val ys ≤ val xs)
    (hk : k = xs.length ∨ (b = false ∧ k ≤ xs.length ∧ ys.length ≤ k)) : SubEnd w az cz (val xs - val ys) xs.length wr := by
  have hE : ∃ zs', zs'.length = xs.length ∧ Dig zs' ∧ Cells wr az zs' ∧ val zs' = val xs - val ys := by
    obtain ⟨_, h0 | ⟨g, zs, rfl, hg, hR⟩⟩ := h
    · have e1 : xs = [] := List.eq_nil_of_length_eq_zero h0
      refine ⟨[], by simp [h0], Dig.nil, Cells.nil _ _, ?_⟩
      rw [e1]; simp [val]
    · refine ⟨zs, hR.1.1, hR.1.2.1, hR.1.2.2.1.cells, ?_⟩
      rcases hk with hk | ⟨rfl, h1, h2⟩
      · exact hR.1.val_eq hk hy (by cases b <;> simp) hv
      · exact hR.stop h1 h2
  obtain ⟨zs, h1, h2, h3, h4⟩ := hE
  have h5 := h3.trim h2
  have h6 := trimN_length h2
  have h7 := trimN_le zs zs.length
  rw [h4] at h5 h6
  exact ⟨zs, h1, h2, h3, by rw [h4], h5, by omega, h.1⟩

set_option maxRecDepth 100000 in
set_option maxHeartbeats 1600000 in
theorem subtractLimbs_calls (w : World) (ax ay : Option Addr) (m n : Nat) (cx cy : Nat) (lx : (limbs m).length ≤ 1099511627776) (hmn : n ≤ m) (hcx : (limbs m).length ≤ cx) (hx : Cells w ax (limbs m)) (hy : Cells w ay (limbs n)) :
    Calls Tryd.prog 29 #[.slice ax (limbs m).length cx, .slice ay (limbs n).length cy] w (Ret (IsLimbs (m - n)) w) := by
  have hle := limbs_len_mono hmn
  have dx := dig_limbs m
  have dy := dig_limbs n
  have HV : Hid (val (limbs n) ≤ val (limbs m)) := by unfold Hid; rw [val_limbs, val_limbs]; exact hmn
  have HE : Hid (val (limbs m) - val (limbs n) = m - n) := by unfold Hid; rw [val_limbs, val_limbs]
  clear hmn
  generalize limbs m = xs at *
  generalize limbs n = ys at *
  go_enter Tryd.func29, Tryd.ntmps29
  go_wp2_with fail
  refine (clone_calls w ax xs cx lx hx hcx).mono ?_
  rintro e w1 ⟨az, cz, rfl, hz1, hz2, hE, hz⟩
  have h0 : SubLoop w az xs ys 0 false w1 := by
    refine ⟨hE, ?_⟩
    rcases Nat.eq_zero_or_pos xs.length with h0 | h0
    · exact .inl h0
    · obtain ⟨g, h1, h2, h3⟩ := hz h0
      exact .inr ⟨g, xs, h1, h2, ⟨rfl, dx, h3, hE, by simp [val]⟩, fun _ _ => rfl⟩
  clear hz hE hx
  go_wp2
  go_loopw [6, 7, 8, 13] (fun b _ _ n wr => ∃ (k : Nat) (bv : Bool), k ≤ xs.length ∧ n = .int .i64 k ∧ b = .bool bv ∧ SubLoop w az xs ys k bv wr) (fun _ _ _ n _ => xs.length - (intOf n).toNat)
  case atStart => exact ⟨0, false, Nat.zero_le _, rfl, rfl, h0⟩
  case round =>
    obtain ⟨k, bv, hk, rfl, rfl, hR⟩ := hrel
    clear h0
    by_cases hk2 : k < xs.length
    · have hEr := hR.1
      have hend := fun h1 h2 => hR.end_ (cz := cz) hz1 hle HV.out (.inr ⟨h1, hk, h2⟩)
      have HEND := Lib.hid hend
      obtain ⟨g, rfl, hzc, hzf, H1, H2⟩ := hR.at_ hk2
      have bx0 := dx k
      have by0 := dy k
      clear hend hR dx dy
      by_cases hk3 : k < ys.length
      · obtain ⟨b2, o2, rfl, hy1⟩ := hy.at_ (by omega)
        have hcy := hEr.cell (hy1 k hk3)
        clear hy1 HEND hEr hy
        generalize xs.getD k 0 = x at *
        generalize ys.getD k 0 = y at *
        have bx : (x : Int) < 1000000000 := by omega
        have by_ : (y : Int) < 1000000000 := by omega
        clear bx0 by0
        cases bv
        · by_cases hb : (x : Int) < y
          · go_wp2
            go_roundw
            case rel => exact ⟨k + 1, true, by omega, by go_num, rfl, H2.out _ _ true (by omega) (by omega) (by show _ + ((0 : Nat) : Int) + _ = _ + _ * ((1 : Nat) : Int); omega) (by omega)⟩
            case measure => simp [intOf]; omega
          · go_wp2
            go_roundw
            case rel => exact ⟨k + 1, false, by omega, by go_num, rfl, H1.out _ false (by omega) (by omega) (by show _ + ((0 : Nat) : Int) + _ = _ + _ * ((0 : Nat) : Int); omega)⟩
            case measure => simp [intOf]; omega

        · by_cases hb : (x : Int) < y + 1
          · go_wp2
            go_roundw
            case rel => exact ⟨k + 1, true, by omega, by go_num, rfl, H2.out _ _ true (by omega) (by omega) (by show _ + ((1 : Nat) : Int) + _ = _ + _ * ((1 : Nat) : Int); omega) (by omega)⟩
            case measure => simp [intOf]; omega
          · go_wp2
            go_roundw
            case rel => exact ⟨k + 1, false, by omega, by go_num, rfl, H1.out _ false (by omega) (by omega) (by show _ + ((1 : Nat) : Int) + _ = _ + _ * ((0 : Nat) : Int); omega)⟩
            case measure => simp [intOf]; omega

      · have hy0 : ys.getD k 0 = 0 := by rw [List.getD_eq_getElem?_getD, List.getElem?_eq_none (by omega)]; rfl
        rw [hy0] at H1 H2
        clear hy0 by0
        cases bv
        · obtain ⟨zs, r1, r2, r3, r4, r5, r6, r7⟩ := HEND.out rfl (by omega)
          rw [HE.out] at r4 r5 r6
          have R1 := Lib.hid r1
          have R4 := Lib.hid r4
          clear r1 r4 H1 H2 hzc bx0 HEND hEr
          go_wp2_with fail
          rw [← R1.out]
          refine (trim_calls _ _ _ _ (by rw [R1.out]; exact hz1) hz2 r3 r2).mono ?_
          rintro e w' ⟨rfl, rfl⟩
          rw [R4.out]
          go_wp2
          go_ret
          exact ⟨_, rfl, ⟨_, _, rfl, r6, hz2, r5⟩, r7⟩
        · clear HEND hEr
          generalize xs.getD k 0 = x at *
          have bx : (x : Int) < 1000000000 := by omega
          clear bx0
          by_cases hb : (x : Int) < 1
          · go_wp2
            go_roundw
            case rel => exact ⟨k + 1, true, by omega, by go_num, rfl, H2.out _ _ true (by omega) (by omega) (by show _ + ((1 : Nat) : Int) + ((0 : Nat) : Int) = _ + _ * ((1 : Nat) : Int); omega) (by omega)⟩
            case measure => simp [intOf]; omega
          · go_wp2
            go_roundw
            case rel => exact ⟨k + 1, false, by omega, by go_num, rfl, H1.out _ false (by omega) (by omega) (by show _ + ((1 : Nat) : Int) + ((0 : Nat) : Int) = _ + _ * ((0 : Nat) : Int); omega)⟩
            case measure => simp [intOf]; omega

    · obtain ⟨zs, r1, r2, r3, r4, r5, r6, r7⟩ := hR.end_ (cz := cz) hz1 hle HV.out (.inl (by omega))
      rw [HE.out] at r4 r5 r6
      have R1 := Lib.hid r1
      have R4 := Lib.hid r4
      clear r1 r4 hR dx dy
      go_wp2_with fail
      rw [← R1.out]
      refine (trim_calls _ _ _ _ (by rw [R1.out]; exact hz1) hz2 r3 r2).mono ?_
      rintro e w' ⟨rfl, rfl⟩
      rw [R4.out]
      go_wp2
      go_ret
      exact ⟨_, rfl, ⟨_, _, rfl, r6, hz2, r5⟩, r7⟩

end Go.Proofs.YtmofkmdacfdejaaDoor
end

/- ---- Times ---- -/
section
/-
  The reference's product of lists of limbs.
-/
set_option maxRecDepth 100000
namespace Go.Proofs.YtmofkmdacfdejaaDoor
open Go.RowKit

theorem val_set : ∀ (zs : List Nat) (i d : Nat), i < zs.length → val (zs.set i d) + 1000000000 ^ i * zs.getD i 0 = val zs + 1000000000 ^ i * d := by
  intro zs
  induction zs with
  | nil => intro i d h; simp at h
  | cons z r ih =>
    intro i d h
    cases i with
    | zero => simp [val]; omega
    | succ i =>
      have := ih i d (by simpa using h)
      simp only [List.set_cons_succ, val, List.getD_cons_succ, Nat.pow_succ]
      generalize 1000000000 ^ i = p at *
      have e1 : p * 1000000000 * r.getD i 0 = 1000000000 * (p * r.getD i 0) := by rw [Nat.mul_comm p, Nat.mul_assoc]
      have e2 : p * 1000000000 * d = 1000000000 * (p * d) := by rw [Nat.mul_comm p, Nat.mul_assoc]
      rw [e1, e2]; omega
theorem getD_set_same (zs : List Nat) (i d : Nat) (h : i < zs.length) : (zs.set i d).getD i 0 = d := by
  simp [List.getD_eq_getElem?_getD, h]

/-- Products of limbs fit. -/
theorem mul_lt (x y : Nat) (hx : x < 1000000000) (hy : y < 1000000000) : x * y ≤ 999999998000000001 := by
  have : x * y ≤ 999999999 * 999999999 := Nat.mul_le_mul (by omega) (by omega)
  omega

/-- What holds after i rounds of the outer loop. -/
def TimesOut (w : World) (g : Nat) (xs ys : List Nat) (i : Nat) (wr : World) : Prop :=
  ∃ zs : List Nat, zs.length = xs.length + ys.length ∧ Dig zs ∧ Blk wr g zs ∧ Ext w wr ∧ val zs = val (xs.take i) * val ys ∧ ∀ j, i + ys.length ≤ j → zs.getD j 0 = 0
/-- What holds after k rounds of the inner loop. -/
def TimesIn (w : World) (g : Nat) (xs ys : List Nat) (i k cv : Nat) (wr : World) : Prop :=
  ∃ zs : List Nat, zs.length = xs.length + ys.length ∧ Dig zs ∧ Blk wr g zs ∧ Ext w wr ∧
    val zs + 1000000000 ^ (i + k) * cv = val (xs.take i) * val ys + 1000000000 ^ i * (xs.getD i 0 * val (ys.take k)) ∧ ∀ j, i + ys.length ≤ j → zs.getD j 0 = 0
theorem TimesOut.begin_ {w : World} {g : Nat} {xs ys : List Nat} {i : Nat} {wr : World} (h : TimesOut w g xs ys i wr) : TimesIn w g xs ys i 0 0 wr := by
  obtain ⟨zs, h1, h2, h3, h4, h5, h6⟩ := h
  exact ⟨zs, h1, h2, h3, h4, by simp [val, h5], h6⟩
theorem TimesIn.at_ {w : World} {g : Nat} {xs ys : List Nat} {i k cv : Nat} {wr : World} (h : TimesIn w g xs ys i k cv wr) (hg : w.heap.size ≤ g) (hi : i < xs.length) (hk : k < ys.length) :
    ∃ z : Nat, (z : Int) < 1000000000 ∧ wr.cell? ⟨g, i + k, none⟩ = some (.int .u32 (z : Int)) ∧ wr.frozen? ⟨g, i + k, none⟩ = false ∧ Ext w wr ∧
      Hid (∀ (nq t : Nat) (V : Int), t = cv + z + xs.getD i 0 * ys.getD k 0 → V = ((t % 1000000000 : Nat) : Int) → TimesIn w g xs ys i (k + 1) (t / 1000000000) ((wr.drewN nq).setCell ⟨g, i + k, none⟩ (.int .u32 V))) := by
  obtain ⟨zs, h1, h2, h3, h4, h5, h6⟩ := h
  refine ⟨zs.getD (i + k) 0, by have := h2 (i + k); omega, h3.cell _ (by omega), h3.frozen _, h4, fun nq t V ht hV => ?_⟩
  have h3' : Blk (wr.drewN nq) g zs := h3
  refine ⟨zs.set (i + k) (t % 1000000000), by simpa using h1, h2.set _ (by omega), h3'.set' _ _ (by omega) hV, (h4.drewN nq).setCell (p := ⟨g, i + k, none⟩) hg _, ?_, fun j hj => by rw [getD_set_other _ _ _ _ (by omega)]; exact h6 j hj⟩
  have e := val_set zs (i + k) (t % 1000000000) (by omega)
  rw [val_take_succ']
  have ep : 1000000000 ^ (i + (k + 1)) = 1000000000 ^ (i + k) * 1000000000 := by rw [← Nat.add_assoc, Nat.pow_succ]
  have eq : 1000000000 ^ (i + k) = 1000000000 ^ i * 1000000000 ^ k := Nat.pow_add _ _ _
  rw [ep]
  have et : t = t % 1000000000 + 1000000000 * (t / 1000000000) := by omega
  have e3 : 1000000000 ^ (i + k) * t = 1000000000 ^ (i + k) * (t % 1000000000) + 1000000000 ^ (i + k) * 1000000000 * (t / 1000000000) := by
    rw [Nat.mul_assoc, ← Nat.mul_add, ← et]
  have e4 : 1000000000 ^ (i + k) * t = 1000000000 ^ (i + k) * cv + 1000000000 ^ (i + k) * zs.getD (i + k) 0 + 1000000000 ^ (i + k) * (xs.getD i 0 * ys.getD k 0) := by
    rw [ht, Nat.mul_add, Nat.mul_add]
  have e5 : 1000000000 ^ i * (xs.getD i 0 * (val (ys.take k) + 1000000000 ^ k * ys.getD k 0)) = 1000000000 ^ i * (xs.getD i 0 * val (ys.take k)) + 1000000000 ^ (i + k) * (xs.getD i 0 * ys.getD k 0) := by
    rw [eq, Nat.mul_add, Nat.mul_add, Nat.mul_left_comm (xs.getD i 0) (1000000000 ^ k), Nat.mul_assoc]
  rw [e5]
  omega
theorem TimesIn.end_ {w : World} {g : Nat} {xs ys : List Nat} {i k cv : Nat} {wr : World} (h : TimesIn w g xs ys i k cv wr) (hg : w.heap.size ≤ g) (hi : i < xs.length) (hk : k = ys.length) (hc : cv < 1000000000) :
    wr.cell? ⟨g, i + ys.length, none⟩ = some (.int .u32 0) ∧ wr.frozen? ⟨g, i + ys.length, none⟩ = false ∧ Hid (∀ V : Int, V = (cv : Int) → TimesOut w g xs ys (i + 1) (wr.setCell ⟨g, i + ys.length, none⟩ (.int .u32 V))) := by
  subst hk
  obtain ⟨zs, h1, h2, h3, h4, h5, h6⟩ := h
  have hz := h6 (i + ys.length) (Nat.le_refl _)
  refine ⟨by rw [h3.cell _ (by omega), hz]; rfl, h3.frozen _, fun V hV => ?_⟩
  refine ⟨zs.set (i + ys.length) cv, by simpa using h1, h2.set _ hc, h3.set' _ _ (by omega) hV, h4.setCell (p := ⟨g, i + ys.length, none⟩) hg _, ?_, fun j hj => by rw [getD_set_other _ _ _ _ (by omega)]; exact h6 j (by omega)⟩
  have e := val_set zs (i + ys.length) cv (by omega)
  rw [hz, Nat.mul_zero, Nat.add_zero, h5, List.take_of_length_le (Nat.le_refl _)] at e
  rw [e, val_take_succ', Nat.add_mul, Nat.mul_assoc]

end Go.Proofs.YtmofkmdacfdejaaDoor
end

/- ---- Mul ---- -/
section
/-
  The program's product of lists of limbs.
-/
set_option maxRecDepth 100000
namespace Go.Proofs.YtmofkmdacfdejaaDoor
open Go.RowKit

/-- The sum of the products of limbs i and k - i. -/
def conv : List Nat → List Nat → Nat → Nat
  | [], _, _ => 0
  | x :: _, ys, 0 => x * ys.getD 0 0
  | x :: r, ys, k + 1 => x * ys.getD (k + 1) 0 + conv r ys k
/-- The sum of all products of limbs below place k, as a number. -/
def mulLow : List Nat → List Nat → Nat → Nat
  | [], _, _ => 0
  | _ :: _, _, 0 => 0
  | x :: r, ys, k + 1 => x * val (ys.take (k + 1)) + 1000000000 * mulLow r ys k
theorem mulLow_zero (xs ys : List Nat) : mulLow xs ys 0 = 0 := by cases xs <;> rfl
theorem mulLow_succ : ∀ (xs ys : List Nat) (k : Nat), mulLow xs ys (k + 1) = mulLow xs ys k + 1000000000 ^ k * conv xs ys k := by
  intro xs
  induction xs with
  | nil => intros; simp [mulLow, conv]
  | cons x r ih =>
    intro ys k
    cases k with
    | zero => simp only [mulLow, conv, mulLow_zero, val_take_succ']; simp [val]
    | succ k =>
      rw [mulLow, val_take_succ', ih ys k]
      simp only [mulLow, conv, Nat.pow_succ]
      generalize 1000000000 ^ k = p
      generalize ys.getD (k + 1) 0 = y
      generalize conv r ys k = c
      have e1 : x * (val (List.take (k + 1) ys) + p * 1000000000 * y) = x * val (List.take (k + 1) ys) + p * 1000000000 * (x * y) := by
        rw [Nat.mul_add, Nat.mul_left_comm x]
      have e2 : p * 1000000000 * (x * y + c) = p * 1000000000 * (x * y) + 1000000000 * (p * c) := by
        rw [Nat.mul_add, Nat.mul_comm p, Nat.mul_assoc 1000000000 p c]
      rw [e1, e2, Nat.mul_add]; omega
theorem mulLow_all : ∀ (xs ys : List Nat) (n : Nat), xs.length + ys.length ≤ n → mulLow xs ys n = val xs * val ys := by
  intro xs
  induction xs with
  | nil => intros; simp [mulLow, val]
  | cons x r ih =>
    intro ys n h
    cases n with
    | zero => simp at h
    | succ n =>
      rw [mulLow, ih ys n (by simp at h; omega), List.take_of_length_le (by simp at h; omega), val, Nat.add_mul, Nat.mul_assoc]
theorem conv_zero : ∀ (xs ys : List Nat) (k : Nat), xs.length + ys.length ≤ k + 1 → conv xs ys k = 0 := by
  intro xs
  induction xs with
  | nil => intros; rfl
  | cons x r ih =>
    intro ys k h
    simp at h
    have hy : ys.getD k 0 = 0 := by rw [List.getD_eq_getElem?_getD, List.getElem?_eq_none (by omega)]; rfl
    cases k with
    | zero => rw [conv, hy]; rfl
    | succ k => rw [conv, hy, ih ys k (by omega)]; rfl
theorem conv_snoc : ∀ (xs ys : List Nat) (k : Nat) (x : Nat), xs.length ≤ k → conv (xs ++ [x]) ys k = conv xs ys k + x * ys.getD (k - xs.length) 0 := by
  intro xs
  induction xs with
  | nil => intro ys k x _; cases k <;> simp [conv]
  | cons a r ih =>
    intro ys k x h
    simp at h
    cases k with
    | zero => omega
    | succ k =>
      simp only [List.cons_append, conv, ih ys k x (by omega), List.length_cons, Nat.succ_sub_succ]
      omega
theorem conv_take : ∀ (xs ys : List Nat) (k n : Nat), k < n → conv (xs.take n) ys k = conv xs ys k := by
  intro xs
  induction xs with
  | nil => intros; simp
  | cons x r ih =>
    intro ys k n h
    cases n with
    | zero => omega
    | succ n =>
      cases k with
      | zero => rfl
      | succ k => simp only [List.take_succ_cons, conv, ih ys k n (by omega)]
theorem conv_le : ∀ (xs ys : List Nat) (k : Nat), Dig xs → Dig ys → conv xs ys k ≤ xs.length * 999999998000000001 := by
  intro xs
  induction xs with
  | nil => intros; simp [conv]
  | cons x r ih =>
    intro ys k hx hy
    have := mul_lt x (ys.getD k 0) hx.head (hy k)
    cases k with
    | zero => simp only [conv, List.length_cons, Nat.add_mul]; omega
    | succ k =>
      have := ih ys k hx.tail hy
      simp only [conv, List.length_cons, Nat.add_mul]; omega

/-- What holds after k rounds of the outer loop. -/
def MulOut (w : World) (g : Nat) (xs ys : List Nat) (k cv : Nat) (wr : World) : Prop :=
  ∃ zs : List Nat, zs.length = xs.length + ys.length ∧ Dig zs ∧ Blk wr g zs ∧ Ext w wr ∧ val (zs.take k) + 1000000000 ^ k * cv = mulLow xs ys k ∧ cv ≤ xs.length * 1000000000
theorem MulOut.at_ {w : World} {g : Nat} {xs ys : List Nat} {k cv : Nat} {wr : World} (h : MulOut w g xs ys k cv wr) (hg : w.heap.size ≤ g) (dx : Dig xs) (dy : Dig ys) (hk : k < xs.length + ys.length) :
    (∃ z : Nat, wr.cell? ⟨g, k, none⟩ = some (.int .u32 (z : Int))) ∧ wr.frozen? ⟨g, k, none⟩ = false ∧ Ext w wr ∧
      Hid (∀ (j t f : Nat) (V : Int), t + 1000000000 * f = cv + conv xs ys k → V = ((t % 1000000000 : Nat) : Int) → MulOut w g xs ys (k + 1) (t / 1000000000 + f) ((wr.drewN j).setCell ⟨g, k, none⟩ (.int .u32 V))) := by
  obtain ⟨zs, h1, h2, h3, h4, h5, h6⟩ := h
  refine ⟨⟨_, h3.cell k (by omega)⟩, h3.frozen _, h4, fun j t f V ht hV => ?_⟩
  have h3' : Blk (wr.drewN j) g zs := h3
  refine ⟨zs.set k (t % 1000000000), by simpa using h1, h2.set _ (by omega), h3'.set' _ _ (by omega) hV, (h4.drewN j).setCell (p := ⟨g, k, none⟩) hg _, ?_, ?_⟩
  · rw [val_take_set _ _ _ (by omega), mulLow_succ, ← h5, Nat.pow_succ]
    generalize 1000000000 ^ k = p
    have e : p * (t + 1000000000 * f) = p * cv + p * conv xs ys k := by rw [ht, Nat.mul_add]
    have e2 : p * t = p * (t % 1000000000) + p * 1000000000 * (t / 1000000000) := by
      rw [Nat.mul_assoc, ← Nat.mul_add]; congr 1; omega
    rw [Nat.mul_add, ← Nat.mul_assoc] at e
    rw [Nat.mul_add]
    omega
  · have := conv_le xs ys k dx dy
    have e : xs.length * 1000000000 + xs.length * 999999998000000001 ≤ xs.length * 1000000000000000000 := by omega
    omega
theorem MulOut.carry {w : World} {g : Nat} {xs ys : List Nat} {k cv : Nat} {wr : World} (h : MulOut w g xs ys k cv wr) (lx : xs.length ≤ 1048576) (dx : Dig xs) (dy : Dig ys) :
    (cv : Int) ≤ 1048576000000000 ∧ ∀ i, cv + conv (xs.take i) ys k ≤ 1048576000000000000000000 := by
  obtain ⟨zs, h1, h2, h3, h4, h5, h6⟩ := h
  refine ⟨by omega, fun i => ?_⟩
  have h7 := conv_le (xs.take i) ys k (dx.take i) dy
  rw [List.length_take] at h7
  have : min i xs.length * 999999998000000001 ≤ 1048576 * 999999998000000001 := Nat.mul_le_mul_right _ (by omega)
  omega
theorem vint {k : IntKind} {a b : Int} (h : a = b) : Value.int k a = .int k b := by rw [h]
/-- What the inner loop keeps: its sum in two parts, and how far it has come. -/
def MulIn (xs ys : List Nat) (k cv i t f : Nat) : Prop := t + 1000000000 * f = cv + conv (xs.take i) ys k
theorem MulIn.start {xs ys : List Nat} {k cv i : Nat} (hi : i + ys.length ≤ k + 1 ∨ i = 0) (hi' : i ≤ xs.length) : MulIn xs ys k cv i cv 0 := by
  unfold MulIn
  rcases hi with hi | rfl
  · rw [conv_zero _ _ _ (by rw [List.length_take]; omega)]
  · cases k <;> simp [conv]
theorem MulIn.step {xs ys : List Nat} {k cv i t f : Nat} (h : MulIn xs ys k cv i t f) (hi : i ≤ k) (hi' : i < xs.length) (t' f' : Nat) (he : t' + 1000000000 * f' = t + 1000000000 * f + xs.getD i 0 * ys.getD (k - i) 0) : MulIn xs ys k cv (i + 1) t' f' := by
  unfold MulIn at *
  have hc := conv_snoc (xs.take i) ys k (xs.getD i 0) (by rw [List.length_take]; omega)
  rw [List.length_take, Nat.min_eq_left (by omega)] at hc
  rw [take_succ_getD _ _ hi', hc]; omega
theorem MulIn.done {xs ys : List Nat} {k cv i t f : Nat} (h : MulIn xs ys k cv i t f) (hi : k + 1 ≤ i ∨ xs.length ≤ i) : t + 1000000000 * f = cv + conv xs ys k := by
  unfold MulIn at h
  rcases hi with hi | hi
  · rwa [conv_take _ _ _ _ (by omega)] at h
  · rwa [List.take_of_length_le hi] at h

end Go.Proofs.YtmofkmdacfdejaaDoor
end

/- ---- Int ---- -/
section
/-
  Add, Sub, Neg and Mul, of the program.
-/
set_option maxRecDepth 100000
namespace Go.Proofs.YtmofkmdacfdejaaDoor
open Go.RowKit

/-- A store of something else than a uint32 over something else than a uint32 turns no limb. -/
theorem Cells.store {w : World} {ao : Option Addr} {xs : List Nat} (h : Cells w ao xs) {p : Addr} {u : Value} (hp : w.cell? p = some u) (hu : ∀ x, u ≠ .int .u32 x) (v : Value) : Cells (w.setCell p v) ao xs := by
  rcases h with h | ⟨b, off, rfl, h⟩
  · exact .inl h
  · refine .inr ⟨b, off, rfl, fun i hi => ?_⟩
    rw [World.cell?_setCell_other _ _ _ _ (fun e => ?_)]
    · exact h i hi
    · have h1 := h i hi
      rw [← e, hp] at h1
      injection h1 with h1
      exact hu _ h1
/-- The cells of a result that is an integer, not yet set. -/
theorem res_new (w : World) (t : TypeId) : ∃ W, w.alloc (.cells #[.bool false, .slice none 0 0] t) = W ∧ Ext w W ∧ W.heap.size = w.heap.size + 1 ∧
    W.cell? ⟨w.heap.size, 0, none⟩ = some (.bool false) ∧ W.cell? ⟨w.heap.size, 1, none⟩ = some (.slice none 0 0) ∧ W.frozen? ⟨w.heap.size, 0, none⟩ = false ∧ W.frozen? ⟨w.heap.size, 1, none⟩ = false := by
  refine ⟨_, rfl, (Ext.refl w).alloc _, by simp, by simp, by simp, ?_, ?_⟩
  · show (match (w.heap.push _)[w.heap.size]? with | some (.cells _ _ (lo, hi)) => _ | _ => _) = _
    rw [Array.getElem?_push_size]; rfl
  · show (match (w.heap.push _)[w.heap.size]? with | some (.cells _ _ (lo, hi)) => _ | _ => _) = _
    rw [Array.getElem?_push_size]; rfl

/-- Which sum two absolute values with signs have. -/
theorem sgn_add_same (s : Bool) (m n : Nat) : sgn s m + sgn s n = sgn s (m + n) := by cases s <;> simp [sgn] <;> omega
theorem sgn_add_ge (s s' : Bool) (m n : Nat) (hs : s ≠ s') (h : n ≤ m) : sgn s m + sgn s' n = sgn s (m - n) := by
  cases s <;> cases s' <;> simp_all [sgn] <;> omega
theorem sgn_add_le (s s' : Bool) (m n : Nat) (hs : s ≠ s') (h : m ≤ n) : sgn s m + sgn s' n = sgn s' (n - m) := by
  cases s <;> cases s' <;> simp_all [sgn] <;> omega

theorem signedL_calls (w : World) (s : Bool) (ao : Option Addr) (n : Nat) (cap : Nat) (hc : (limbs n).length ≤ cap) (hm : cap ≤ 9223372036854775807) (h : Cells w ao (limbs n)) :
    Calls Tryd.prog 23 #[.bool s, .slice ao (limbs n).length cap] w (Ret (fun v w' => IsInt w' v (sgn s n)) w) := by
  have := signed_calls w s ao (limbs n) cap hc hm h (dig_limbs n)
  rw [val_limbs] at this
  exact this
/-- A result that is an integer has been stored and is read again. -/
theorem fin_int {w w2 : World} {s2 b0 : Bool} {ao a0 : Option Addr} {n2 cap l0 k0 : Nat} {z : Int} {r : Nat} (h : IsInt w2 (.agg #[.bool s2, .slice ao (limbs n2).length cap]) z)
    (c0 : w2.cell? ⟨r, 0, none⟩ = some (.bool b0)) (c1 : w2.cell? ⟨r, 1, none⟩ = some (.slice a0 l0 k0)) (hr : w.heap.size ≤ r) (e : Ext w w2) :
    Ret (fun v w' => IsInt w' v z) w (.returned (.agg #[.bool s2, .slice ao (limbs n2).length cap])) ((w2.setCell ⟨r, 0, none⟩ (.bool s2)).setCell ⟨r, 1, none⟩ (.slice ao (limbs n2).length cap)) := by
  obtain ⟨ao', cap', hv, h1, h2, h3⟩ := h
  refine ⟨_, rfl, ⟨ao', cap', hv, h1, h2, ?_⟩, (e.setCell (p := ⟨r, 0, none⟩) hr _).setCell (p := ⟨r, 1, none⟩) hr _⟩
  have k1 : (w2.setCell ⟨r, 0, none⟩ (.bool s2)).cell? ⟨r, 1, none⟩ = some (.slice a0 l0 k0) := by
    rw [World.cell?_setCell_other _ _ _ _ (by simp)]; exact c1
  exact (h3.store c0 (by simp) _).store k1 (by simp) _

/-- One struct boxed, and the cells of a result that is an integer. -/
theorem boxes1r (w : World) (u0 u1 : Value) (t : TypeId) : ∃ W, ((w.alloc (.cells #[u0, u1] t)).alloc (.cells #[.bool false, .slice none 0 0] t)) = W ∧ Ext w W ∧
    W.cell? ⟨w.heap.size, 0, none⟩ = some u0 ∧ W.cell? ⟨w.heap.size, 1, none⟩ = some u1 ∧
    W.cell? ⟨w.heap.size + 1, 0, none⟩ = some (.bool false) ∧ W.cell? ⟨w.heap.size + 1, 1, none⟩ = some (.slice none 0 0) ∧ W.frozen? ⟨w.heap.size + 1, 0, none⟩ = false ∧ W.frozen? ⟨w.heap.size + 1, 1, none⟩ = false := by
  obtain ⟨W, hW, eW, hz, a0, a1, a2, a3⟩ := res_new (w.alloc (.cells #[u0, u1] t)) t
  rw [World.size_alloc] at a0 a1 a2 a3
  exact ⟨W, hW, ((Ext.refl w).alloc _).trans eW, eW.cell (by simp), eW.cell (by simp), a0, a1, a2, a3⟩
/-- Two structs boxed, and the cells of a result that is an integer. -/
theorem boxes2r (w : World) (u0 u1 v0 v1 : Value) (t : TypeId) : ∃ W, (((w.alloc (.cells #[u0, u1] t)).alloc (.cells #[v0, v1] t)).alloc (.cells #[.bool false, .slice none 0 0] t)) = W ∧ Ext w W ∧
    W.cell? ⟨w.heap.size, 0, none⟩ = some u0 ∧ W.cell? ⟨w.heap.size, 1, none⟩ = some u1 ∧ W.cell? ⟨w.heap.size + 1, 0, none⟩ = some v0 ∧ W.cell? ⟨w.heap.size + 1, 1, none⟩ = some v1 ∧
    W.cell? ⟨w.heap.size + 2, 0, none⟩ = some (.bool false) ∧ W.cell? ⟨w.heap.size + 2, 1, none⟩ = some (.slice none 0 0) ∧ W.frozen? ⟨w.heap.size + 2, 0, none⟩ = false ∧ W.frozen? ⟨w.heap.size + 2, 1, none⟩ = false := by
  obtain ⟨V, hV, eV, hz, c0, c1, d0, d1⟩ := boxes2 w u0 u1 v0 v1 t
  obtain ⟨W, hW, eW, _, a0, a1, a2, a3⟩ := res_new V t
  rw [hz] at a0 a1 a2 a3
  exact ⟨W, by rw [hV, hW], eV.trans eW, eW.cell c0, eW.cell c1, eW.cell d0, eW.cell d1, a0, a1, a2, a3⟩

/-- Two stores into one block, and a cell of another. -/
theorem keep_store {w2 : World} {b r o i j : Nat} {u x y : Value} (h : w2.cell? ⟨b, o, none⟩ = some u) (hb : b ≠ r) : ((w2.setCell ⟨r, i, none⟩ x).setCell ⟨r, j, none⟩ y).cell? ⟨b, o, none⟩ = some u := by
  rw [World.cell?_setCell_other _ _ _ _ (by intro e; injection e with e; omega), World.cell?_setCell_other _ _ _ _ (by intro e; injection e with e; omega)]
  exact h
/-- Few enough limbs for every sum and product of this layer. -/
def Sm (z : Int) : Prop := (limbs z.natAbs).length ≤ 1048576

theorem sgn_not (s : Bool) (n : Nat) : sgn (!s) n = -sgn s n := by cases s <;> simp [sgn]
theorem sgn_mul (s s' : Bool) (m n : Nat) : sgn s m * sgn s' n = sgn (!(s == s')) (m * n) := by
  cases s <;> cases s' <;> simp [sgn, Int.neg_mul, Int.mul_neg]

theorem sgn_neg' (s : Bool) (n : Nat) : sgn (!s) n = -sgn s n := sgn_not s n
end Go.Proofs.YtmofkmdacfdejaaDoor
end

/- ---- Rint ---- -/
section
/-
  Add, Sub, Neg and Mul, of the reference.
-/
set_option maxRecDepth 100000
namespace Go.Proofs.YtmofkmdacfdejaaDoor
open Go.RowKit

theorem isInt_zero' {w : World} {ao : Option Addr} {cap : Nat} (h : cap ≤ 9223372036854775807) : IsInt w (.agg #[.bool false, .slice ao 0 cap]) 0 := ⟨ao, cap, by simp [limbs_zero], by simp [limbs_zero], h, Cells.nil _ _⟩

set_option maxHeartbeats 400000 in
theorem rsigned_calls (w : World) (s : Bool) (ao : Option Addr) (xs : List Nat) (cap : Nat) (hc : xs.length ≤ cap) (hm : cap ≤ 9223372036854775807) (h : Cells w ao xs) (hd : Dig xs) :
    Calls Tryd.prog 24 #[.bool s, .slice ao xs.length cap] w (Ret (fun v w' => IsInt w' v (sgn s (val xs))) w) := by
  have hfin := h.trim hd
  have hlen : (limbs (val xs)).length ≤ xs.length := limbs_len_le (val_lt hd)
  obtain ⟨W, hW, eW, _, r0, r1, f0, f1⟩ := res_new w 24
  rcases Nat.eq_zero_or_pos (val xs) with h0 | h0
  · have HZ := Lib.hid h0
    clear h0
    cases s
    all_goals
      go_enter Tryd.func24, Tryd.ntmps24
      go_wp2_with fail
      clear hW
      refine (rtrim_calls _ _ _ _ hc hm (h.ext eW) hd).mono ?_
      rintro e w' ⟨rfl, rfl⟩
      rw [HZ.out, limbs_zero]
      go_wp2
      exact bodyPost_ret (v := .agg #[.bool false, .slice ao 0 cap]) (by simp [results, Tryd.results24, go_sem, r0, r1]) rfl (by rw [HZ.out, sgn_zero]; exact fin_int (n2 := 0) (isInt_zero' hm) r0 r1 (Nat.le_refl _) eW)
  · have hp := limbs_pos h0
    have hI := isInt_of (w := w) (s := s) (ao := ao) (cap := cap) (by omega) (Nat.le_trans hlen hc) hm hfin
    have hpI : (0 : Int) < ((limbs (val xs)).length : Int) := by omega
    have HI := Lib.hid hI
    clear hp hI hlen
    have hdec : decide (0 < (limbs (val xs)).length) = true := by simp; omega
    clear hpI
    cases s
    · go_enter Tryd.func24, Tryd.ntmps24
      go_wp2_with fail
      clear hW
      refine (rtrim_calls _ _ _ _ hc hm (h.ext eW) hd).mono ?_
      rintro e w' ⟨rfl, rfl⟩
      go_wp2
      exact bodyPost_ret (v := .agg #[.bool false, .slice ao (limbs (val xs)).length cap]) (by simp [results, Tryd.results24, go_sem, r0, r1]) rfl (fin_int (HI.out.ext eW) r0 r1 (Nat.le_refl _) eW)
    · go_enter Tryd.func24, Tryd.ntmps24
      go_wp2_with fail
      clear hW
      refine (rtrim_calls _ _ _ _ hc hm (h.ext eW) hd).mono ?_
      rintro e w' ⟨rfl, rfl⟩
      go_wp2
      exact bodyPost_ret (v := .agg #[.bool true, .slice ao (limbs (val xs)).length cap]) (by simp [results, Tryd.results24, go_sem, r0, r1]) rfl (fin_int (HI.out.ext eW) r0 r1 (Nat.le_refl _) eW)
theorem rsignedL_calls (w : World) (s : Bool) (ao : Option Addr) (n : Nat) (cap : Nat) (hc : (limbs n).length ≤ cap) (hm : cap ≤ 9223372036854775807) (h : Cells w ao (limbs n)) :
    Calls Tryd.prog 24 #[.bool s, .slice ao (limbs n).length cap] w (Ret (fun v w' => IsInt w' v (sgn s n)) w) := by
  have := rsigned_calls w s ao (limbs n) cap hc hm h (dig_limbs n)
  rw [val_limbs] at this
  exact this

theorem Sm.neg {z : Int} (h : Sm z) : Sm (-z) := by unfold Sm at *; rw [Int.natAbs_neg]; exact h
end Go.Proofs.YtmofkmdacfdejaaDoor
end

/- ---- Valid ---- -/
section
/-
  Valid, Small, small and cp: what the statements ask of their arguments.
-/
set_option maxRecDepth 100000
namespace Go.Proofs.YtmofkmdacfdejaaDoor
open Go.RowKit

/-- A struct that may be no valid integer. -/
def Raw (w : World) (v : Value) (neg : Bool) (xs : List Nat) : Prop :=
  ∃ ao cap, v = .agg #[.bool neg, .slice ao xs.length cap] ∧ xs.length ≤ cap ∧ cap ≤ 9223372036854775807 ∧ Cells w ao xs
theorem Raw.ext {w w' : World} {v : Value} {neg : Bool} {xs : List Nat} (h : Raw w v neg xs) (e : Ext w w') : Raw w' v neg xs := by
  obtain ⟨ao, cap, h1, h2, h3, h4⟩ := h
  exact ⟨ao, cap, h1, h2, h3, h4.ext e⟩
def allB (xs : List Nat) : Bool := xs.all fun x => decide (x < 1000000000)
theorem allB_dig {xs : List Nat} : allB xs = true ↔ Dig xs := by
  unfold allB
  rw [dig_iff, List.all_eq_true]
  constructor
  · intro h i hi
    have := h xs[i] (List.getElem_mem hi)
    rw [List.getD_eq_getElem?_getD, List.getElem?_eq_getElem hi]
    simpa using this
  · intro h x hx
    obtain ⟨i, hi, rfl⟩ := List.mem_iff_getElem.1 hx
    have := h i hi
    rw [List.getD_eq_getElem?_getD, List.getElem?_eq_getElem hi] at this
    simpa using this
/-- The valid integers. -/
def okB (neg : Bool) (xs : List Nat) : Bool := allB xs && (if xs.length = 0 then !neg else !(xs.getD (xs.length - 1) 0 == 0))
theorem okB_bad {neg : Bool} {xs : List Nat} {i : Nat} (hi : 1000000000 ≤ xs.getD i 0) : okB neg xs = false := by
  unfold okB
  have : allB xs = false := by
    rw [Bool.eq_false_iff]; intro h; have := allB_dig.1 h i; omega
  rw [this]; rfl
theorem okB_nil (neg : Bool) : okB neg [] = !neg := by simp [okB, allB]
theorem okB_dig {neg : Bool} {xs : List Nat} (hd : Dig xs) (h0 : 0 < xs.length) : okB neg xs = !(xs.getD (xs.length - 1) 0 == 0) := by
  unfold okB; rw [allB_dig.2 hd, if_neg (by omega)]; rfl
theorem okB_int {w : World} {v : Value} {neg : Bool} {xs : List Nat} (h : Raw w v neg xs) (hk : okB neg xs = true) : IsInt w v (sgn neg (val xs)) ∧ (limbs (val xs)).length = xs.length := by
  have hd : Dig xs := allB_dig.1 (by unfold okB at hk; rw [Bool.and_eq_true] at hk; exact hk.1)
  obtain ⟨ao, cap, rfl, h1, h2, h3⟩ := h
  rcases Nat.eq_zero_or_pos xs.length with h0 | h0
  · obtain rfl : xs = [] := List.eq_nil_of_length_eq_zero h0
    rw [okB_nil] at hk
    have : neg = false := by simpa using hk
    subst this
    exact ⟨isInt_zero' h2, rfl⟩
  · rw [okB_dig hd h0] at hk
    have hl : limbs (val xs) = xs := limbs_val hd (fun _ => by simpa using hk)
    have hn : val xs ≠ 0 := by intro e; rw [e, limbs_zero] at hl; rw [← hl] at h0; simp at h0
    refine ⟨?_, by rw [hl]⟩
    have := isInt_of (w := w) (s := neg) (ao := ao) (cap := cap) hn (by rw [hl]; exact h1) h2 (by rw [hl]; exact h3)
    rwa [hl] at this
/-- A struct boxed. -/
theorem box1 (w : World) (u0 u1 : Value) (t : TypeId) : ∃ W, w.alloc (.cells #[u0, u1] t) = W ∧ Ext w W ∧ W.cell? ⟨w.heap.size, 0, none⟩ = some u0 ∧ W.cell? ⟨w.heap.size, 1, none⟩ = some u1 :=
  ⟨_, rfl, (Ext.refl w).alloc _, by simp, by simp⟩

set_option maxRecDepth 100000 in
set_option maxHeartbeats 800000 in
theorem valid_calls (w : World) (v : Value) (neg : Bool) (xs : List Nat) (h : Raw w v neg xs) :
    Calls Tryd.prog 26 #[v] w fun e w' => e = .returned (.bool (okB neg xs)) ∧ Ext w w' := by
  obtain ⟨ao, cap, rfl, h1, h2, h3⟩ := h
  obtain ⟨W, hW, eW, c0, c1⟩ := box1 w (.bool neg) (.slice ao xs.length cap) 24
  rcases Nat.eq_zero_or_pos xs.length with h0 | h0
  · obtain rfl : xs = [] := List.eq_nil_of_length_eq_zero h0
    have HZ := Lib.hid (okB_nil neg)
    clear h0
    go_enter Tryd.func26, Tryd.ntmps26
    go_wp2
    go_ret
    exact ⟨ret_bool HZ.out.symm, (Ext.refl w).alloc _⟩
  · have hbe : ((xs.length : Int) == 0) = false := by rw [beq_eq_false_iff_ne]; omega
    obtain ⟨b1, o1, rfl, hx1⟩ := (h3.ext eW).at_ h0
    have hlast := hx1 (xs.length - 1) (by omega)
    have h0I : (0 : Int) < (xs.length : Int) := by omega
    go_enter Tryd.func26, Tryd.ntmps26
    go_wp2
    clear hW hbe
    go_loop [5, 17] (fun _ i => ∃ k : Nat, k ≤ xs.length ∧ i = .int .i64 k ∧ Hid (∀ j, j < k → xs.getD j 0 < 1000000000)) (fun _ i => xs.length - (intOf i).toNat)
    case atStart => exact ⟨0, Nat.zero_le _, rfl, fun j hj => by omega⟩
    case round =>
      obtain ⟨k, hk, rfl, HD⟩ := hrel
      by_cases hk2 : k < xs.length
      · have hcx := hx1 k hk2
        have HB := Lib.hid (fun hi => okB_bad (neg := neg) (xs := xs) (i := k) hi)
        have HS : Hid (xs.getD k 0 < 1000000000 → ∀ j, j < k + 1 → xs.getD j 0 < 1000000000) := by
          intro h j hj
          by_cases e : j = k
          · subst e; exact h
          · exact HD.out j (by omega)
        clear hx1 hlast
        generalize xs.getD k 0 = x at *
        by_cases hb : (1000000000 : Int) ≤ x
        rotate_left
        · have HS2 := Lib.hid (HS.out (by omega))
          go_wp2
          go_round
          case rel => exact ⟨k + 1, by omega, by go_num, HS2.out⟩
          case measure => simp [intOf]; omega
        · have HB2 := Lib.hid (HB.out (by omega))
          go_wp2
          go_ret
          exact ⟨ret_bool HB2.out.symm, eW⟩
      · have hd : Dig xs := dig_iff.2 (fun i hi => HD.out i (by omega))
        have HF := Lib.hid (okB_dig (neg := neg) hd h0)
        have HN := Lib.hid h0
        clear hx1 hd h0
        generalize xs.getD (xs.length - 1) 0 = x at *
        rcases x with _ | x
        · go_wp2
          go_ret
          exact ⟨ret_bool (by rw [HF.out]; rfl), eW⟩
        · go_wp2
          go_ret
          exact ⟨ret_bool (by rw [HF.out]; rfl), eW⟩

theorem okB_dig' {neg : Bool} {xs : List Nat} (hd : Dig xs) : okB neg xs = (((limbs (val xs)).length == xs.length) && (!neg || decide (0 < xs.length))) := by
  rcases Nat.eq_zero_or_pos xs.length with h0 | h0
  · obtain rfl : xs = [] := List.eq_nil_of_length_eq_zero h0
    rw [okB_nil]; simp [val, limbs_zero]
  · rw [okB_dig hd h0]
    have hlen := trimN_length hd
    obtain ⟨n, hn⟩ : ∃ n, xs.length = n + 1 := ⟨xs.length - 1, by omega⟩
    rw [hn] at hlen ⊢
    rw [trimN] at hlen
    have hle := trimN_le xs n
    by_cases hx : xs.getD n 0 = 0
    · rw [if_pos hx] at hlen
      have e1 : (xs.getD (n + 1 - 1) 0 == 0) = true := by rw [Nat.add_sub_cancel, hx]; rfl
      have e2 : ((limbs (val xs)).length == n + 1) = false := by rw [beq_eq_false_iff_ne]; omega
      rw [e1, e2]; rfl
    · rw [if_neg hx] at hlen
      have e1 : (xs.getD (n + 1 - 1) 0 == 0) = false := by rw [Nat.add_sub_cancel, beq_eq_false_iff_ne]; exact hx
      have e2 : ((limbs (val xs)).length == n + 1) = true := by rw [beq_iff_eq]; omega
      rw [e1, e2]; simp

set_option maxRecDepth 100000 in
set_option maxHeartbeats 800000 in
theorem rvalid_calls (w : World) (v : Value) (neg : Bool) (xs : List Nat) (h : Raw w v neg xs) :
    Calls Tryd.prog 38 #[v] w fun e w' => e = .returned (.bool (okB neg xs)) ∧ Ext w w' := by
  obtain ⟨ao, cap, rfl, h1, h2, h3⟩ := h
  obtain ⟨W, hW, eW, c0, c1⟩ := box1 w (.bool neg) (.slice ao xs.length cap) 24
  go_enter Tryd.func38, Tryd.ntmps38
  go_wp2
  clear hW
  go_loop [3] (fun i => ∃ k : Nat, k ≤ xs.length ∧ i = .int .i64 k ∧ Hid (∀ j, j < k → xs.getD j 0 < 1000000000)) (fun i => xs.length - (intOf i).toNat)
  case atStart => exact ⟨0, Nat.zero_le _, rfl, fun j hj => by omega⟩
  case round =>
    obtain ⟨k, hk, rfl, HD⟩ := hrel
    by_cases hk2 : k < xs.length
    · obtain ⟨b1, o1, rfl, hx1⟩ := (h3.ext eW).at_ (by omega)
      have hcx := hx1 k hk2
      have HB := Lib.hid (fun hi => okB_bad (neg := neg) (xs := xs) (i := k) hi)
      have HS : Hid (xs.getD k 0 < 1000000000 → ∀ j, j < k + 1 → xs.getD j 0 < 1000000000) := by
        intro h j hj
        by_cases e : j = k
        · subst e; exact h
        · exact HD.out j (by omega)
      clear hx1
      generalize xs.getD k 0 = x at *
      by_cases hb : (1000000000 : Int) ≤ x
      rotate_left
      · have HS2 := Lib.hid (HS.out (by omega))
        go_wp2
        go_round
        case rel => exact ⟨k + 1, by omega, by go_num, HS2.out⟩
        case measure => simp [intOf]; omega
      · have HB2 := Lib.hid (HB.out (by omega))
        go_wp2
        go_ret
        exact ⟨ret_bool HB2.out.symm, eW⟩
    · have hd : Dig xs := dig_iff.2 (fun i hi => HD.out i (by omega))
      have HF := Lib.hid (okB_dig' (neg := neg) hd)
      have HT := Lib.hid (fun n => quiet_eq (P := Tryd.prog) (n := n) (rtrim_calls (W.drewN n) ao xs cap h1 h2 (h3.ext (eW.drewN n)) hd))
      clear hd
      generalize hL : (limbs (val xs)).length = L at *
      clear hL
      by_cases hl : L = xs.length
      · have hbL : ((L : Int) == (xs.length : Int)) = true := by simp [hl]
        have HFL : Hid ((L == xs.length) = true) := by unfold Hid; simp [hl]
        clear hl
        cases neg
        · go_wp2
          go_quiet ((go_at_call 42; exact HT.out _))
          go_wp2
          go_ret
          exact ⟨ret_bool (by rw [HF.out, HFL.out]; rfl), eW.drewN _⟩
        · by_cases hp : 0 < xs.length
          · have hp2 : decide (0 < xs.length) = true := by simpa using hp
            have HP := Lib.hid hp2
            have hp3 : (0 : Int) < (xs.length : Int) := by omega
            go_wp2
            go_quiet ((go_at_call 42; exact HT.out _))
            go_wp2
            go_ret
            exact ⟨ret_bool (by rw [HF.out, HFL.out, HP.out]; rfl), eW.drewN _⟩
          · have hp2 : decide (0 < xs.length) = false := by simpa using hp
            have HP := Lib.hid hp2
            go_wp2
            go_quiet ((go_at_call 42; exact HT.out _))
            go_wp2
            go_ret
            exact ⟨ret_bool (by rw [HF.out, HFL.out, HP.out]; rfl), eW.drewN _⟩
      · have hbL : ((L : Int) == (xs.length : Int)) = false := by rw [beq_eq_false_iff_ne]; omega
        have HFL : Hid ((L == xs.length) = false) := by unfold Hid; rw [beq_eq_false_iff_ne]; exact hl
        clear hl
        go_wp2
        go_quiet ((go_at_call 42; exact HT.out _))
        go_wp2
        go_ret
        exact ⟨ret_bool (by rw [HF.out, HFL.out]; rfl), eW.drewN _⟩

set_option maxHeartbeats 400000 in
theorem rsmall_calls (w : World) (v : Value) (neg : Bool) (xs : List Nat) (K : Nat) (h : Raw w v neg xs) :
    Calls Tryd.prog 17 #[v, .int .i64 (K : Int)] w fun e w' => e = .returned (.bool (decide (xs.length ≤ K) && okB neg xs)) ∧ Ext w w' := by
  have hR := h
  obtain ⟨ao, cap, rfl, h1, h2, h3⟩ := h
  obtain ⟨W, hW, eW, c0, c1⟩ := box1 w (.bool neg) (.slice ao xs.length cap) 24
  by_cases hl : xs.length ≤ K
  · have HL := Lib.hid (decide_eq_true hl)
    have hlI : (xs.length : Int) ≤ (K : Int) := by omega
    clear hl
    go_enter Tryd.func17, Tryd.ntmps17
    go_wp2_with fail
    clear hW
    refine (rvalid_calls _ _ neg xs (hR.ext eW)).mono ?_
    rintro e w2 ⟨rfl, e2⟩
    go_wp2
    go_ret
    exact ⟨ret_bool (by rw [HL.out]; simp), eW.trans e2⟩
  · have HL := Lib.hid (decide_eq_false hl)
    have hlI : (K : Int) < (xs.length : Int) := by omega
    clear hl
    go_enter Tryd.func17, Tryd.ntmps17
    go_wp2
    go_ret
    exact ⟨ret_bool (by rw [HL.out]; rfl), eW⟩

end Go.Proofs.YtmofkmdacfdejaaDoor
end

/- ---- Dig ---- -/
section
/-
  Decimal digits: which strings are numerals, and the value of at most nine digits.
-/
set_option maxRecDepth 100000
namespace Go.Proofs.YtmofkmdacfdejaaDoor
open Go.RowKit

def digB (c : UInt8) : Bool := decide (48 ≤ c.toNat) && decide (c.toNat ≤ 57)
/-- The value of digits. -/
def dv (l : List UInt8) : Nat := l.foldl (fun v c => v * 10 + (c.toNat - 48)) 0
def numB (l : List UInt8) : Bool := !l.isEmpty && (!(l.headD 0 == 48 && decide (1 < l.length)) && l.all digB)
theorem dv_snoc (l : List UInt8) (c : UInt8) : dv (l ++ [c]) = dv l * 10 + (c.toNat - 48) := by unfold dv; rw [List.foldl_append]; rfl
theorem dv_append (l r : List UInt8) : dv (l ++ r) = dv l * 10 ^ r.length + dv r := by
  induction r generalizing l with
  | nil => simp [dv]
  | cons c r ih =>
    have e1 : l ++ c :: r = (l ++ [c]) ++ r := by simp
    have e2 : dv (c :: r) = dv [c] * 10 ^ r.length + dv r := ih [c]
    rw [e1, ih, dv_snoc, e2, List.length_cons, Nat.pow_succ]
    have e3 : dv [c] = c.toNat - 48 := by simp [dv]
    rw [e3, Nat.add_mul, Nat.mul_assoc, Nat.mul_comm 10]
    omega
theorem dv_lt {l : List UInt8} (h : l.all digB = true) : dv l < 10 ^ l.length := by
  induction l with
  | nil => simp [dv]
  | cons c r ih =>
    simp only [List.all_cons, Bool.and_eq_true] at h
    have h1 := ih h.2
    have h2 := h.1
    unfold digB at h2
    rw [Bool.and_eq_true, decide_eq_true_iff, decide_eq_true_iff] at h2
    have e2 : dv (c :: r) = dv [c] * 10 ^ r.length + dv r := dv_append [c] r
    have e3 : dv [c] = c.toNat - 48 := by simp [dv]
    have h4 : (c.toNat - 48) * 10 ^ r.length ≤ 9 * 10 ^ r.length := Nat.mul_le_mul_right _ (by omega)
    rw [e2, e3, List.length_cons, Nat.pow_succ]
    omega
theorem bytes_len (s : ByteArray) : s.data.toList.length = s.size := Array.length_toList
theorem bytes_take (s : ByteArray) (k : Nat) (h : k < s.size) : s.data.toList.take (k + 1) = s.data.toList.take k ++ [s[k]] := by
  rw [List.take_succ_eq_append_getElem (by rw [bytes_len]; exact h)]; rfl
theorem bytes_all (s : ByteArray) : s.data.toList.take s.size = s.data.toList := List.take_of_length_le (by rw [bytes_len]; omega)

set_option maxRecDepth 100000 in
set_option maxHeartbeats 800000 in
theorem groupValue_calls (w : World) (s : ByteArray) (hs : s.size ≤ 9) (hd : s.data.toList.all digB = true) :
    Calls Tryd.prog 22 #[.string s] w fun e w' => e = .returned (.int .u32 (dv s.data.toList : Nat)) ∧ w = w' := by
  have HD := Lib.hid hd
  clear hd
  go_enter Tryd.func22, Tryd.ntmps22
  go_wp2
  go_loop [3, 7] (fun v i => ∃ k : Nat, k ≤ s.size ∧ i = .int .i64 k ∧ v = .int .u32 (dv (s.data.toList.take k) : Nat)) (fun _ i => s.size - (intOf i).toNat)
  case atStart => exact ⟨0, Nat.zero_le _, rfl, rfl⟩
  case round =>
    obtain ⟨k, hk, rfl, rfl⟩ := hrel
    by_cases hlt : k < s.size
    · have ht := bytes_take s k hlt
      have hall : (s.data.toList.take (k + 1)).all digB = true := by
        refine List.all_eq_true.2 (fun x hx => ?_)
        exact List.all_eq_true.1 HD.out x (List.mem_of_mem_take hx)
      rw [ht, List.all_append, Bool.and_eq_true] at hall
      have hb := dv_lt hall.1
      have hdc : digB s[k] = true := by simpa using hall.2
      unfold digB at hdc
      rw [Bool.and_eq_true, decide_eq_true_iff, decide_eq_true_iff] at hdc
      have hsn := dv_snoc (s.data.toList.take k) s[k]
      rw [← ht] at hsn
      rw [List.length_take, Nat.min_eq_left (by rw [bytes_len]; omega)] at hb
      have hb2 : dv (s.data.toList.take k) < 100000000 := Nat.lt_of_lt_of_le hb (by
        have := Nat.pow_le_pow_right (n := 10) (by omega) (show k ≤ 8 by omega)
        omega)
      generalize dv (s.data.toList.take k) = V at *
      obtain ⟨c, hc⟩ : ∃ c, c = s[k].toNat := ⟨_, rfl⟩
      rw [← hc] at hdc hsn
      have HS := Lib.hid hsn
      have HC := Lib.hid hc
      clear ht hall hb hsn hc
      go_wp2
      go_round
      case rel =>
        refine ⟨k + 1, by omega, by go_num, ?_⟩
        rw [HS.out, ← HC.out]
        congr 1
        omega
      case measure => simp [intOf]; omega
    · have e : k = s.size := by omega
      subst e
      have HA := bytes_all s
      go_wp2
      go_ret
      exact ⟨rfl, rfl⟩

set_option maxRecDepth 100000 in
set_option maxHeartbeats 1600000 in
theorem isNumeral_calls (w : World) (s : ByteArray) (hs : s.size ≤ 9223372036854775807) :
    Calls Tryd.prog 21 #[.string s] w fun e w' => e = .returned (.bool (numB s.data.toList)) ∧ w = w' := by
  rcases Nat.eq_zero_or_pos s.size with h0 | h0
  · have hl : s.data.toList = [] := List.eq_nil_of_length_eq_zero (by rw [bytes_len]; exact h0)
    have HR := Lib.hid (show numB s.data.toList = false by rw [hl]; rfl)
    have e1 : s.toList = [] := by rw [ByteArray.toList_eq, hl]
    have e2 : s.toList.isEmpty = true := by rw [e1]; rfl
    clear hl
    go_enter Tryd.func21, Tryd.ntmps21
    go_wp2
    go_ret
    exact ⟨by rw [HR.out]; rfl, rfl⟩
  · obtain ⟨c, r, hl⟩ : ∃ c r, s.data.toList = c :: r := by
      cases hh : s.data.toList with
      | nil => have := bytes_len s; rw [hh] at this; simp at this; omega
      | cons c r => exact ⟨c, r, rfl⟩
    have hc0 : s[0] = c := by
      have : s.data.toList[0]'(by rw [hl]; simp) = c := by simp [hl]
      exact this
    have hrl : r.length + 1 = s.size := by rw [← bytes_len, hl, List.length_cons]
    have hne : s.toList.isEmpty = false := by rw [ByteArray.toList_eq, hl]; rfl
    have hne2 : (!s.toList.isEmpty) = true := by rw [hne]; rfl
    have hne3 : ¬ s.toList = [] := by rw [ByteArray.toList_eq, hl]; simp
    by_cases hz : c.toNat = 48 ∧ 1 < s.size
    · have HR : Hid (numB s.data.toList = false) := by
        unfold Hid numB
        rw [hl]
        have : c = 48 := UInt8.toNat_inj.1 hz.1
        subst this
        have : 0 < r.length := by omega
        simp [this]
      have f0 : ((s[0].toNat : Int) == 48) = true := by rw [hc0]; simp [hz.1]
      have f1 : (1 : Int) < (s.size : Int) := by omega
      clear hl hc0 hz hrl
      go_enter Tryd.func21, Tryd.ntmps21
      go_wp2
      go_ret
      exact ⟨by rw [HR.out]; rfl, rfl⟩
    · have HR : Hid (numB s.data.toList = s.data.toList.all digB) := by
        unfold Hid numB
        rw [hl]
        have : ((c :: r).headD 0 == 48 && decide (1 < (c :: r).length)) = false := by
          rw [Bool.and_eq_false_iff]
          by_cases h1 : c.toNat = 48
          · right
            rw [decide_eq_false_iff_not, List.length_cons]
            omega
          · left
            simp only [List.headD_cons, beq_eq_false_iff_ne]
            intro e
            subst e
            exact h1 rfl
        rw [this]
        rfl
      have body : ∀ W, (W = w) → True := fun _ _ => trivial
      have f0 : ¬ 1 < s.size → True := fun _ => trivial
      clear body f0
      have hcut : ((s[0].toNat : Int) == 48) = true ∧ ¬ (1 : Int) < (s.size : Int) ∨ ((s[0].toNat : Int) == 48) = false := by
        rw [hc0]
        by_cases h1 : c.toNat = 48
        · left; exact ⟨by rw [beq_iff_eq]; omega, by omega⟩
        · right; rw [beq_eq_false_iff_ne]; omega
      clear hl hc0 hz hrl
      rcases hcut with ⟨f0, f1⟩ | f0
      all_goals
        go_enter Tryd.func21, Tryd.ntmps21
        go_wp2
        clear f0
        go_loop [3, 18] (fun _ i => ∃ k : Nat, k ≤ s.size ∧ i = .int .i64 k ∧ Hid ((s.data.toList.take k).all digB = true)) (fun _ i => s.size - (intOf i).toNat)
        case atStart => exact ⟨0, Nat.zero_le _, rfl, rfl⟩
        case round =>
          obtain ⟨k, hk, rfl, HK⟩ := hrel
          by_cases hlt : k < s.size
          · have ht := bytes_take s k hlt
            have HT : Hid ((s.data.toList.take (k + 1)).all digB = digB s[k]) := by
              unfold Hid; rw [ht, List.all_append, HK.out]; simp
            have HD : Hid (digB s[k] = false → s.data.toList.all digB = false) := by
              intro hd
              rw [List.all_eq_false]
              refine ⟨s[k], ?_, by rw [hd]; simp⟩
              exact List.getElem_mem (l := s.data.toList) (by rw [bytes_len]; exact hlt)
            have HE : Hid (digB s[k] = (decide (48 ≤ s[k].toNat) && decide (s[k].toNat ≤ 57))) := rfl
            clear ht
            by_cases d1 : s[k].toNat < 48
            · have g1 : (s[k].toNat : Int) < 48 := by omega
              have HF := Lib.hid (HD.out (by rw [HE.out, decide_eq_false (by omega)]; rfl))
              clear d1
              go_wp2
              go_ret
              exact ⟨by rw [HR.out, HF.out]; rfl, rfl⟩
            · have g1 : ¬ (s[k].toNat : Int) < 48 := by omega
              by_cases d2 : 57 < s[k].toNat
              · have g2 : (57 : Int) < (s[k].toNat : Int) := by omega
                have HF := Lib.hid (HD.out (by rw [HE.out, decide_eq_false (p := s[k].toNat ≤ 57) (by omega), Bool.and_false]))
                clear d1 d2
                go_wp2
                go_ret
                exact ⟨by rw [HR.out, HF.out]; rfl, rfl⟩
              · have g2 : ¬ (57 : Int) < (s[k].toNat : Int) := by omega
                have HF := Lib.hid (show digB s[k] = true by rw [HE.out, decide_eq_true (by omega), decide_eq_true (by omega)]; rfl)
                clear d1 d2
                go_wp2
                go_round
                case rel => exact ⟨k + 1, by omega, by go_num, HT.out.trans HF.out⟩
                case measure => simp [intOf]; omega
          · have e : k = s.size := by omega
            subst e
            have HA : Hid (s.data.toList.all digB = true) := by have := HK.out; rw [bytes_all] at this; exact this
            go_wp2
            go_ret
            exact ⟨by rw [HR.out, HA.out]; rfl, rfl⟩

end Go.Proofs.YtmofkmdacfdejaaDoor
end

/- ---- Lim ---- -/
section
/-
  How many limbs a number has.
-/
set_option maxRecDepth 100000
namespace Go.Proofs.YtmofkmdacfdejaaDoor
open Go.RowKit

theorem IsInt.drew {w : World} {v : Value} {z : Int} (h : IsInt w v z) : IsInt w.drew v z := h.ext (Ext.refl w).drew
/-- At most k limbs. -/
def Lim (k : Nat) (z : Int) : Prop := (limbs z.natAbs).length ≤ k
theorem Lim.sm {k : Nat} {z : Int} (h : Lim k z) (hk : k ≤ 1048576) : Sm z := Nat.le_trans h hk
theorem Lim.add {a : Nat} {x y : Int} (hx : Lim a x) (hy : Lim a y) : Lim (a + 1) (x + y) := by
  have h1 := lt_of_limbs_len hx
  have h2 := lt_of_limbs_len hy
  refine limbs_len_le ?_
  have h3 : (x + y).natAbs ≤ x.natAbs + y.natAbs := Int.natAbs_add_le x y
  rw [Nat.pow_succ]
  omega
theorem Lim.mul {a b : Nat} {x y : Int} (hx : Lim a x) (hy : Lim b y) : Lim (a + b) (x * y) := by
  have h1 := lt_of_limbs_len hx
  have h2 := lt_of_limbs_len hy
  refine limbs_len_le ?_
  rw [Int.natAbs_mul, Nat.pow_add]
  exact Nat.mul_lt_mul'' h1 h2
theorem Lim.mono {a b : Nat} {x : Int} (h : Lim a x) (hb : a ≤ b) : Lim b x := Nat.le_trans h hb
theorem Lim.natAbs_le {k : Nat} {x y : Int} (h : Lim k y) (hx : x.natAbs ≤ y.natAbs) : Lim k x := Nat.le_trans (limbs_len_mono hx) h
end Go.Proofs.YtmofkmdacfdejaaDoor
end

/- ---- Fmt ---- -/
section
/-
  Format: the decimal text of an integer.
-/
set_option maxRecDepth 100000
namespace Go.Proofs.YtmofkmdacfdejaaDoor
open Go.RowKit Go.Shelf

def laysM288_ren : Go.Shelf.Ren := ⟨fun | 288 => 39 | 283 => 54 | 284 => 55 | 285 => 56 | 286 => 57 | 129 => 62 | 317 => 68 | 318 => 69 | 319 => 70 | 320 => 71 | 337 => 73 | 338 => 74 | n => n, fun | 37 => 43 | 53 => 45 | 3 => 3 | 4 => 4 | 9 => 9 | 171 => 73 | 0 => 0 | 173 => 76 | 212 => 88 | 51 => 38 | 5 => 5 | 20 => 20 | 213 => 89 | 46 => 90 | 232 => 95 | 233 => 96 | n => n, fun | 17 => 0 | 18 => 3 | 19 => 4 | n => n⟩
theorem laysM288 : Go.Proofs.LaysM.n288 Tryd.prog laysM288_ren := {
  mixed := by kernel_rfl
  f129 := Tryd.func62.trans (congrArg some (by kernel_rfl))
  f283 := Tryd.func54.trans (congrArg some (by kernel_rfl))
  f284 := Tryd.func55.trans (congrArg some (by kernel_rfl))
  f285 := Tryd.func56.trans (congrArg some (by kernel_rfl))
  f286 := Tryd.func57.trans (congrArg some (by kernel_rfl))
  f288 := Tryd.func39.trans (congrArg some (by kernel_rfl))
  f317 := Tryd.func68.trans (congrArg some (by kernel_rfl))
  f318 := Tryd.func69.trans (congrArg some (by kernel_rfl))
  f319 := Tryd.func70.trans (congrArg some (by kernel_rfl))
  f320 := Tryd.func71.trans (congrArg some (by kernel_rfl))
  f337 := Tryd.func73.trans (congrArg some (by kernel_rfl))
  f338 := Tryd.func74.trans (congrArg some (by kernel_rfl))
  t0 := Tryd.underlying0
  a0 := Tryd.isAgg0
  z0 := Tryd.sizeOf0
  v0 := Tryd.zeroValue0
  t3 := Tryd.underlying3
  a3 := Tryd.isAgg3
  z3 := Tryd.sizeOf3
  v3 := Tryd.zeroValue3
  t4 := Tryd.underlying4
  a4 := Tryd.isAgg4
  z4 := Tryd.sizeOf4
  v4 := Tryd.zeroValue4
  t5 := Tryd.underlying5
  a5 := Tryd.isAgg5
  z5 := Tryd.sizeOf5
  v5 := Tryd.zeroValue5
  t9 := Tryd.underlying9
  a9 := Tryd.isAgg9
  z9 := Tryd.sizeOf9
  v9 := Tryd.zeroValue9
  t20 := Tryd.underlying20
  a20 := Tryd.isAgg20
  z20 := Tryd.sizeOf20
  v20 := Tryd.zeroValue20
  t37 := Tryd.underlying43
  a37 := Tryd.isAgg43
  z37 := Tryd.sizeOf43
  v37 := Tryd.zeroValue43
  t46 := Tryd.underlying90
  a46 := Tryd.isAgg90
  z46 := Tryd.sizeOf90
  v46 := Tryd.zeroValue90
  t51 := Tryd.underlying38
  a51 := Tryd.isAgg38
  z51 := Tryd.sizeOf38
  v51 := Tryd.zeroValue38
  t53 := Tryd.underlying45
  a53 := Tryd.isAgg45
  z53 := Tryd.sizeOf45
  v53 := Tryd.zeroValue45
  t171 := Tryd.underlying73
  a171 := Tryd.isAgg73
  z171 := Tryd.sizeOf73
  v171 := Tryd.zeroValue73
  t173 := Tryd.underlying76
  a173 := Tryd.isAgg76
  z173 := Tryd.sizeOf76
  v173 := Tryd.zeroValue76
  t212 := Tryd.underlying88
  a212 := Tryd.isAgg88
  z212 := Tryd.sizeOf88
  v212 := Tryd.zeroValue88
  t213 := Tryd.underlying89
  a213 := Tryd.isAgg89
  z213 := Tryd.sizeOf89
  t232 := Tryd.underlying95
  a232 := Tryd.isAgg95
  z232 := Tryd.sizeOf95
  v232 := Tryd.zeroValue95
  t233 := Tryd.underlying96
  a233 := Tryd.isAgg96
  z233 := Tryd.sizeOf96
  v233 := Tryd.zeroValue96
  g17 := by kernel_rfl
  g18 := by kernel_rfl
  g19 := by kernel_rfl
  i0 := by kernel_rfl
  i3 := by kernel_rfl
  i4 := by kernel_rfl
  i5 := by kernel_rfl
  i9 := by kernel_rfl
  i20 := by kernel_rfl
  i37 := by kernel_rfl
  i46 := by kernel_rfl
  i51 := by kernel_rfl
  i53 := by kernel_rfl
  i171 := by kernel_rfl
  i173 := by kernel_rfl
  i212 := by kernel_rfl
  i232 := by kernel_rfl
  i233 := by kernel_rfl
  m17 := by kernel_rfl
  m18 := by kernel_rfl
  m19 := by kernel_rfl }


/-- The last k decimal digits. -/
def pad : Nat → Nat → List UInt8
  | 0, _ => []
  | k + 1, r => pad k (r / 10) ++ [UInt8.ofNat (48 + r % 10)]
theorem pad_length : ∀ (k r : Nat), (pad k r).length = k
  | 0, _ => rfl
  | k + 1, r => by simp [pad, pad_length k]
theorem dec_pad (q : Nat) (hq : 0 < q) : ∀ (k r : Nat), r < 10 ^ k → Lib.decDigits (q * 10 ^ k + r) = Lib.decDigits q ++ pad k r
  | 0, r, h => by
    have : r = 0 := by simpa using h
    subst this
    simp [pad]
  | k + 1, r, h => by
    have h10 : (10 : Nat) ^ (k + 1) = 10 * 10 ^ k := by rw [Nat.pow_succ, Nat.mul_comm]
    have hk : 0 < 10 ^ k := Nat.pow_pos (by omega)
    have e : q * 10 ^ (k + 1) + r = 10 * (q * 10 ^ k) + r := by rw [h10, Nat.mul_left_comm]
    have hge : 1 ≤ q * 10 ^ k := Nat.mul_pos hq hk
    rw [e, Lib.decDigits, dif_neg (by omega), show (10 * (q * 10 ^ k) + r) / 10 = q * 10 ^ k + r / 10 by omega, show (10 * (q * 10 ^ k) + r) % 10 = r % 10 by omega, dec_pad q hq k (r / 10) (by rw [h10] at h; omega)]
    rw [pad, List.append_assoc]
/-- The groups of nine digits below the top limb. -/
def groups : List Nat → List UInt8
  | [] => []
  | x :: xs => groups xs ++ pad 9 x
theorem dec_limbs (t : Nat) (ht : 0 < t) : ∀ (xs : List Nat), Dig xs → Lib.decDigits (val (xs ++ [t])) = Lib.decDigits t ++ groups xs
  | [], _ => by simp [val, groups]
  | x :: xs, h => by
    have hx := h.head
    have ih := dec_limbs t ht xs h.tail
    have hp : 0 < val (xs ++ [t]) := by
      have : 0 < val (xs ++ [t]) ∨ val (xs ++ [t]) = 0 := by omega
      rcases this with h | h
      · exact h
      · exfalso
        have h1 : val (xs ++ [t]) = val xs + 1000000000 ^ xs.length * val [t] := val_append xs [t]
        have h2 : 0 < 1000000000 ^ xs.length * val [t] := Nat.mul_pos (Nat.pow_pos (by omega)) (by simp [val]; omega)
        omega
    have e : val ((x :: xs) ++ [t]) = val (xs ++ [t]) * 10 ^ 9 + x := by
      show x + 1000000000 * val (xs ++ [t]) = _
      rw [show (10 : Nat) ^ 9 = 1000000000 from rfl]
      omega
    rw [e, dec_pad _ hp 9 x hx, ih, groups, List.append_assoc]
/-- The table of strconv's powers of ten is what it is. -/
def WT (w : World) : Prop := Lib.TabIs Tryd.prog w "internal/strconv.uint64pow10" .u64 Lib.pow10Tab
theorem WT.ext {w w' : World} (h : WT w) (e : Ext w w') : WT w' := Lib.tabBelow_of_tabIs h w' e
theorem appendUint_calls (w : World) (hW : WT w) (B n u : Nat) (h0 : 0 < u) (hu : u < 1000000000) (sv : Value) (xs : List Value) (hown : w.ownsRow B 5 1 sv n xs) (hB : B ≤ w.heap.size) (hl : n + 20 ≤ 140737488355328) :
    Calls Tryd.prog 18 #[sv, .int .u64 u, .int .i64 10] w fun e w' => ∃ v', e = .returned v' ∧ w'.ownsRow B 5 1 v' (n + (Lib.decDigits u).length) (xs ++ Lib.byteCells (Lib.decDigits u)) ∧ Below B w w' := by
  have key : Calls Tryd.prog 39 #[sv, .int .u64 u, .int .i64 10] w fun e w' => ∃ v', e = .returned v' ∧ w'.ownsRow B 5 1 v' (n + (Lib.decDigits u).length) (xs ++ Lib.byteCells (Lib.decDigits u)) ∧ Below B w w' := by
    rcases Nat.lt_or_ge u 100 with h | h
    · refine (Any.internal_strconv_AppendUint_10_small laysM288 B n u h sv xs w hown hB hl).mono ?_
      rintro e w' ⟨v', h1, h2, h3, _⟩
      exact ⟨v', h1, h2, h3⟩
    · refine (Any.internal_strconv_AppendUint_10_big laysM288 B n u h (by omega) sv xs w hown hB hl hW).mono ?_
      rintro e w' ⟨v', h1, h2, h3, _⟩
      exact ⟨v', h1, h2, h3⟩
  have HK := Lib.hid key
  clear key
  go_enter Tryd.func18, Tryd.ntmps18
  go_wp2_with fail
  refine HK.out.mono ?_
  rintro e w' ⟨v', rfl, h1, h2⟩
  go_wp2
  go_ret
  exact ⟨v', rfl, h1, h2⟩

theorem info_u8 : (Tryd.prog.info? 5).map (fun i => (i.zero, i.size, i.bytes)) = some (some (.int .u8 0), 1, 1) := by kernel_rfl
theorem pad_cell (m : Nat) : Value.int .u8 (((UInt8.ofNat (48 + m % 10)).toNat : Nat) : Int) = .int .u8 (48 + (m : Int) % 10) := by
  rw [UInt8.toNat_ofNat', show (48 + m % 10) % 2 ^ 8 = 48 + m % 10 by omega]
  congr 1
theorem pad_cells (x : Nat) : (#[Value.int .u8 (48 + (x : Int) / 10 / 10 / 10 / 10 / 10 / 10 / 10 / 10 % 10), .int .u8 (48 + (x : Int) / 10 / 10 / 10 / 10 / 10 / 10 / 10 % 10), .int .u8 (48 + (x : Int) / 10 / 10 / 10 / 10 / 10 / 10 % 10), .int .u8 (48 + (x : Int) / 10 / 10 / 10 / 10 / 10 % 10), .int .u8 (48 + (x : Int) / 10 / 10 / 10 / 10 % 10), .int .u8 (48 + (x : Int) / 10 / 10 / 10 % 10), .int .u8 (48 + (x : Int) / 10 / 10 % 10), .int .u8 (48 + (x : Int) / 10 % 10), .int .u8 (48 + (x : Int) % 10)] : Array Value) = (Lib.byteCells (pad 9 x)).toArray := by
  simp only [pad, Lib.byteCells, List.map_append, List.map_cons, List.map_nil, pad_cell, List.nil_append, List.cons_append]
  rfl

set_option maxRecDepth 100000 in
set_option maxHeartbeats 6400000 in
theorem appendGroup_calls (w : World) (B n x : Nat) (hx : x < 1000000000) (sv : Value) (xs : List Value) (hown : w.ownsRow B 5 1 sv n xs) (hB : B ≤ w.heap.size) (hl : n + 20 ≤ 140737488355328) :
    Calls Tryd.prog 19 #[sv, .int .u32 x] w fun e w' => ∃ v', e = .returned v' ∧ w'.ownsRow B 5 1 v' (n + 9) (xs ++ Lib.byteCells (pad 9 x)) ∧ Below B w w' := by
  obtain ⟨i0, hi, hz0, hz1, hz2⟩ := info_parts info_u8
  have hown' := hown.alloc (.cells (Lib.byteCells (pad 9 x)).toArray 61)
  have hcl : (Lib.byteCells (pad 9 x)).length = 9 := by rw [Lib.byteCells_length, pad_length]
  have hc : ∀ j u, (Lib.byteCells (pad 9 x))[j]? = some u → (w.alloc (.cells (Lib.byteCells (pad 9 x)).toArray 61)).cell? ((⟨w.heap.size, 0, none⟩ : Addr).add j) = some u := by
    intro j u hj
    rw [Lib.add_plain, Nat.zero_add]
    have hh : (w.alloc (.cells (Lib.byteCells (pad 9 x)).toArray 61)).heap[w.heap.size]? = some (.cells (Lib.byteCells (pad 9 x)).toArray 61 (0, 0)) := heap_alloc_new w _
    simp only [World.cell?, hh]
    simpa using hj
  have HC := Lib.hid hc
  have HP := Lib.hid (pad_cells x)
  have HO := Lib.hid hown'
  have HL := Lib.hid hcl
  clear hown hown' hcl hc
  go_enter Tryd.func19, Tryd.ntmps19
  go_wp2
  refine wp_loop_rounds 10 ?_
  rw [rounds_succ]
  go_wp2
  rw [rounds_succ]
  go_wp2
  rw [rounds_succ]
  go_wp2
  rw [rounds_succ]
  go_wp2
  rw [rounds_succ]
  go_wp2
  rw [rounds_succ]
  go_wp2
  rw [rounds_succ]
  go_wp2
  rw [rounds_succ]
  go_wp2
  rw [rounds_succ]
  go_wp2
  rw [rounds_succ, HP.out]
  obtain ⟨W, hW⟩ : ∃ W, W = w.alloc (.cells (Lib.byteCells (pad 9 x)).toArray 61) := ⟨_, rfl⟩
  rw [← hW] at HC HO ⊢
  have hB2 : B ≤ W.heap.size := by rw [hW]; simp; omega
  have hbel : Below B w W := by rw [hW]; exact (Below.refl _ _).alloc hB _
  have HW := Lib.hid hW
  clear hW HP
  go_wp2_with (at_builtin; refine wpList_append_own _ rfl _ _ 43 rfl B 5 i0 (.int .u8 0) 1 1 Tryd.underlying43 hi hz0 hz1 hz2 rfl (by decide) _ _ _ rfl HO.out ⟨w.heap.size, 0, none⟩ 9 9 (Lib.byteCells (pad 9 x)) rfl HL.out HC.out ?c2 ?c3 ?c4 hB2 ?_)
  case c2 => intro u' hu'; simp only [Lib.byteCells, List.mem_map] at hu'; obtain ⟨b, _, rfl⟩ := hu'; rfl
  case c3 => unfold maxLen; omega
  case c4 => omega
  intro v' w1 hown1 hgrow _
  go_wp2
  go_ret
  exact ⟨v', rfl, hown1, hbel.grown hgrow hB2 (fun k hk => (HO.out.lt k hk).1)⟩

theorem run_mkb (c : Nat) (hc : c ≤ 1000000) (C : Int) (hC : C = c) (w : World) :
    (Instr.makeSlice 43 (.int .i64 0) (.int .i64 C)).run Tryd.prog w = .ok (.slice (some ⟨w.heap.size, 0, none⟩) 0 c) (w.alloc (.cells (madeCells #[Value.int .u8 0] c) 5)) := by
  subst hC
  obtain ⟨i, hi, hzz⟩ := Option.map_eq_some_iff.1 info_u8
  simp only [Prod.mk.injEq] at hzz
  obtain ⟨hz, hs, hb⟩ := hzz
  have hr := run_make (P := Tryd.prog) w 43 5 i (.int .u8 0) Tryd.underlying43 hi hz .i64 .i64 0 (c : Int) (by omega) (by omega) (by rw [hb]; omega) (by omega)
  have e : (Value.int .u8 0).cells = #[Value.int .u8 0] := rfl
  rw [e, hs] at hr
  simpa using hr
/-- What the text is while the groups are appended. -/
def FmtRel (B : Nat) (W : World) (k : Nat) (sv : Value) (l : List UInt8) (wr : World) : Prop :=
  wr.ownsRow B 5 1 sv l.length (Lib.byteCells l) ∧ Below B W wr ∧ B ≤ wr.heap.size ∧ Hid (l.length + 9 * k ≤ 1000000)
theorem groups_drop (xs : List Nat) (k : Nat) (h : k < xs.length) : groups (xs.drop k) = groups (xs.drop (k + 1)) ++ pad 9 (xs.getD k 0) := by
  rw [List.drop_eq_getElem_cons h, groups, List.getD_eq_getElem?_getD, List.getElem?_eq_getElem h]
  rfl
theorem FmtRel.step {B : Nat} {W wr w' : World} {k : Nat} {sv v' : Value} {l m : List UInt8} (h : FmtRel B W (k + 1) sv l wr) (hm : m.length = 9) (ho : w'.ownsRow B 5 1 v' (l.length + 9) (Lib.byteCells l ++ Lib.byteCells m)) (hb : Below B wr w') : FmtRel B W k v' (l ++ m) w' := by
  obtain ⟨h1, h2, h3, h4⟩ := h
  refine ⟨?_, h2.trans hb, Nat.le_trans h3 hb.size, ?_⟩
  · rw [Lib.byteCells_append, List.length_append, hm]; exact ho
  · unfold Hid; have := h4.out; rw [List.length_append, hm]; omega
theorem FmtRel.text {B : Nat} {W wr : World} {k : Nat} {sv : Value} {l : List UInt8} (h : FmtRel B W k sv l wr) (hl : 0 < l.length) : (convert 43 9 sv).run Tryd.prog wr = .ok (.string ⟨l.toArray⟩) wr := by
  obtain ⟨h1, _⟩ := h
  rcases h1.2 with ⟨rfl, h0⟩ | ⟨g, cap, cur, rfl, hg, hh, hnc, hcm, _, htk⟩
  · omega
  · refine run_convert_bytes_back wr 43 9 5 ⟨g, 0, none⟩ cap l Tryd.underlying43 Tryd.underlying5 Tryd.underlying9 (fun j hj => ?_)
    refine h1.cells rfl j _ ?_
    simp [Lib.byteCells, hj]

set_option maxRecDepth 100000 in
set_option maxHeartbeats 6400000 in
theorem format_calls (w : World) (hW : WT w) (v : Value) (z : Int) (h : IsInt w v z) (l : Lim 100000 z) :
    Calls Tryd.prog 6 #[v] w fun e w' => e = .returned (.string ⟨(Lib.itoa z).toArray⟩) ∧ Ext w w' := by
  obtain ⟨ao, cap, s, n, rfl, h1, h2, h3, H4, H5, H6⟩ := h.open_
  obtain ⟨W, hWW, eW, c0, c1⟩ := box1 w (.bool s) (.slice ao (limbs n).length cap) 24
  rcases Nat.eq_zero_or_pos n with h0 | h0
  · subst h0
    have hz : z = 0 := by have h5 := H5.out; cases s <;> simpa [sgn] using h5
    subst hz
    have HR : Hid (Lib.itoa 0 = [48]) := by unfold Hid; exact (Lib.itoa_nonneg 0).trans (Lib.decDigits_one (by omega))
    rw [limbs_zero] at h1 c1 hWW
    clear H4 H5 H6 l h h3
    go_enter Tryd.func6, Tryd.ntmps6
    go_wp2
    go_ret
    exact ⟨by rw [HR.out]; rfl, (Ext.refl w).alloc _⟩
  · have hl : (limbs n).length ≤ 100000 := by unfold Lim at l; rw [← H4.out] at l; exact l
    have hlp : 0 < (limbs n).length := limbs_pos h0
    obtain ⟨b, off, rfl, hcell⟩ := h3.at_ hlp
    obtain ⟨xs, hxs⟩ : ∃ xs, xs = limbs n := ⟨_, rfl⟩
    have hdig : Dig xs := by rw [hxs]; exact dig_limbs n
    have hlast : xs.getD (xs.length - 1) 0 ≠ 0 := by rw [hxs]; exact limbs_last n (fun e => by rw [e] at hlp; simp at hlp)
    have hval : val xs = n := by rw [hxs]; exact val_limbs n
    rw [← hxs] at hl hlp hcell h1 c1 hWW h3 ⊢
    obtain ⟨L, hL⟩ : ∃ L, L + 1 = xs.length := ⟨xs.length - 1, by omega⟩
    obtain ⟨t, ht⟩ : ∃ t, t = xs.getD L 0 := ⟨_, rfl⟩
    have ht0 : 0 < t := by rw [ht]; have := hlast; rw [show xs.length - 1 = L by omega] at this; omega
    have ht9 : t < 1000000000 := by
      rw [ht]
      exact hdig L
    obtain ⟨lows, hlows⟩ : ∃ lows, lows = xs.take L := ⟨_, rfl⟩
    have hll : lows.length = L := by rw [hlows, List.length_take]; omega
    have hsplit : xs = lows ++ [t] := by
      rw [hlows, ht]
      conv => lhs; rw [← List.take_append_drop L xs]
      congr 1
      rw [List.drop_eq_getElem_cons (by omega), List.getD_eq_getElem?_getD, List.getElem?_eq_getElem (by omega), List.drop_eq_nil_of_le (by omega)]
      rfl
    have hdl : Dig lows := by rw [hlows]; exact hdig.take L
    have hdec : Lib.decDigits n = Lib.decDigits t ++ groups lows := by rw [← hval, hsplit]; exact dec_limbs t ht0 lows hdl
    have htop : W.cell? ⟨b, off + L, none⟩ = some (.int .u32 (t : Int)) := by rw [ht]; exact eW.cell (hcell L (by omega))
    have hlow : ∀ k, k < L → W.cell? ⟨b, off + k, none⟩ = some (.int .u32 ((lows.getD k 0 : Nat) : Int)) := by
      intro k hk
      rw [hlows, List.getD_eq_getElem?_getD, List.getElem?_take, if_pos hk, ← List.getD_eq_getElem?_getD]
      exact eW.cell (hcell k (by omega))
    have HLow := Lib.hid hlow
    have HTop := Lib.hid htop
    have HDec := Lib.hid hdec
    have HDig : Hid (∀ k x, x = lows.getD k 0 → x < 1000000000) := fun k x hx => by rw [hx]; exact hdl k
    have HLL := Lib.hid hll
    have hln : (lows.getD 0 0 : Nat) = lows.getD 0 0 := rfl
    have hWs : W.heap.size = w.heap.size + 1 := by rw [← hWW]; simp
    have HZ : Hid (Lib.itoa z = (if s = true then [45] else []) ++ Lib.decDigits n) := by
      unfold Hid
      have h5 := H5.out
      cases s
      · have : z = (n : Int) := h5
        subst this
        rw [Lib.itoa_nonneg]; rfl
      · have : z = -(n : Int) := h5
        subst this
        rw [Lib.itoa_neg n h0]; rfl
    have hLI : (xs.length : Int) = (L : Int) + 1 := by omega
    have hlb : (L : Int) ≤ 100000 := by omega
    have hbig : ∀ (t' : Nat), t' < 1000000000 → (Lib.decDigits t').length ≤ 20 := by
      intro t' h'
      rw [Lib.decDigits_length]
      by_cases h1 : t' = 0
      · subst h1; rw [Lib.nDigits_small (by omega)]; omega
      · have := Lib.numDigits_eq t' (by omega) (by omega)
        split at this <;> omega
    have HDl := Lib.hid (hbig t ht9)
    have HWT : Hid (WT W) := hW.ext eW
    have hlen1 : xs.length = L + 1 := hL.symm
    rw [hlen1] at c1 hWW h1 ⊢
    have hmk := run_mkb (1 + (L + 1) * 9) (by omega) (1 + ((L : Int) + 1) * 9) (by omega)
    have HC := Lib.hid (And.intro c0 c1)
    have HWs := Lib.hid hWs
    have Ht9 := Lib.hid (And.intro ht0 ht9)
    clear H4 H5 H6 l h h3 hcell hlast hval hdig hdl hsplit hdec htop hlow hll hlows ht hxs hbig hWs hln hlen1 hLI hL hl hlp ht0 ht9
    have hp : 0 < L + 1 := by omega
    have hbt := HTop.out
    have hlt : w.heap.size < W.heap.size := by have := HWs.out; omega
    have hblt : b < W.heap.size := lt_of_cell hbt
    have htI : (t : Int) ≤ 999999999 := by have := Ht9.out.2; omega
    obtain ⟨i0, hi, hz0, hz1, hz2⟩ := info_parts info_u8
    have hHI := Lib.hid hi
    have hH0 := Lib.hid hz0
    have hH1 := Lib.hid hz1
    have hH2 := Lib.hid hz2
    clear hi hz0 hz1 hz2
    have hB := Nat.le_refl W.heap.size
    have hown0 := World.ownsRow_made (base := W.heap.size) (e := 5) (size := 1) W (madeCells #[Value.int .u8 0] (1 + (L + 1) * 9)) (1 + (L + 1) * 9) hB (by unfold maxLen; omega) (by rw [size_madeCells, Nat.mul_one])
    have HO := Lib.hid hown0
    clear hown0 hB
    have hwt1 : WT (W.alloc (.cells (madeCells #[Value.int .u8 0] (1 + (L + 1) * 9)) 5)) := HWT.out.ext ((Ext.refl W).alloc _)
    have HW1 := Lib.hid hwt1
    clear hwt1
    cases s
    · go_enter Tryd.func6, Tryd.ntmps6
      go_wp2_with fail
      have hHZ : Hid (Lib.itoa z = [] ++ Lib.decDigits n) := by unfold Hid; rw [HZ.out]; rfl
      refine (appendUint_calls _ HW1.out W.heap.size 0 t Ht9.out.1 Ht9.out.2 _ [] HO.out (by simp) (by omega)).mono ?_
      rintro e w1 ⟨v1, rfl, hown1, hb1⟩
      have hF : FmtRel W.heap.size W L v1 ([] ++ Lib.decDigits t) w1 := by
        refine ⟨by rw [Nat.zero_add] at hown1; exact hown1, ((Below.refl _ _).alloc (Nat.le_refl _) _).trans hb1, Nat.le_trans (by simp) hb1.size, ?_⟩
        unfold Hid
        have := HDl.out
        simp only [List.nil_append]
        omega
      have HF := Lib.hid hF
      clear hF hown1 hb1 HZ htI
      obtain ⟨pre, hpre⟩ : ∃ pre : List UInt8, pre = [] := ⟨_, rfl⟩
      rw [← hpre] at HF hHZ
      clear hpre
      go_wp2_with fail
      go_loopw [4, 5] (fun tx i wr => ∃ k : Nat, k ≤ L ∧ i = .int .i64 ((k : Int) - 1) ∧ FmtRel W.heap.size W k tx (pre ++ Lib.decDigits t ++ groups (lows.drop k)) wr) (fun _ i _ => (intOf i + 1).toNat)
      case atStart => exact ⟨L, Nat.le_refl _, by go_num, by rw [List.drop_of_length_le (by have := HLL.out; omega), groups, List.append_nil]; exact HF.out⟩
      case round =>
        obtain ⟨k, hk, rfl, hR⟩ := hrel
        rcases k with _ | k
        · have htx := hR.text (by rw [List.length_append, List.length_append, Lib.decDigits_length]; have := Lib.nDigits_pos t; omega)
          have HE : Hid (Ext w wr) := by
            unfold Hid
            exact eW.trans hR.2.1
          have HRR := Lib.hid hR
          clear hR
          go_wp2
          go_ret
          refine ⟨?_, HE.out⟩
          rw [hHZ.out, HDec.out, ← List.append_assoc]
          rfl
        · have hk2 : k < L := by omega
          have hcx := hR.2.1.cell (p := ⟨b, off + k, none⟩) hblt
          rw [HLow.out k hk2] at hcx
          have c02 := hR.2.1.cell (p := ⟨w.heap.size, 0, none⟩) hlt
          have c12 := hR.2.1.cell (p := ⟨w.heap.size, 1, none⟩) hlt
          rw [c0] at c02
          rw [c1] at c12
          obtain ⟨x, hx⟩ : ∃ x, x = lows.getD k 0 := ⟨_, rfl⟩
          rw [← hx] at hcx
          have hx9 : x < 1000000000 := HDig.out k x hx
          have hgr := groups_drop lows k (by have := HLL.out; omega)
          rw [← hx] at hgr
          have HG := Lib.hid hgr
          have HRR := Lib.hid hR
          have HX := Lib.hid hx9
          have hkb : k < L + 1 := by omega
          have hkI : ((k + 1 : Nat) : Int) - 1 = (k : Int) := by omega
          rw [hkI]
          clear hR hgr hx hx9 hkI
          go_wp2_with fail
          refine (appendGroup_calls _ W.heap.size _ x HX.out _ _ HRR.out.1 HRR.out.2.2.1 (by have := HRR.out.2.2.2.out; omega)).mono ?_
          rintro e w2 ⟨v2, rfl, hown2, hb2⟩
          have HS : Hid (FmtRel W.heap.size W k v2 (pre ++ Lib.decDigits t ++ groups (lows.drop k)) w2) := by
            unfold Hid
            rw [HG.out, ← List.append_assoc]
            exact HRR.out.step (pad_length _ _) hown2 hb2
          clear hown2 hb2 c02 c12 hcx
          go_wp2
          go_roundw
          case rel => exact ⟨k, by omega, by go_num, HS.out⟩
          case measure => simp [intOf]
    · go_enter Tryd.func6, Tryd.ntmps6
      have hHZ : Hid (Lib.itoa z = [45] ++ Lib.decDigits n) := by unfold Hid; rw [HZ.out]; rfl
      have hnews : ∀ j u, [Value.int .u8 45][j]? = some u → ((W.alloc (.cells (madeCells #[Value.int .u8 0] (1 + (L + 1) * 9)) 5)).alloc (.cells #[Value.int .u8 45] 5)).cell? ((⟨W.heap.size + 1, 0, none⟩ : Addr).add j) = some u := by
        intro j u hj
        match j, hj with
        | 0, hj => injection hj with hj; subst hj; simp [Addr.add]
      have HN := Lib.hid hnews
      clear hnews
      go_wp2_with (at_builtin; refine wpList_append_own _ rfl _ _ 43 rfl W.heap.size 5 i0 (.int .u8 0) 1 1 Tryd.underlying43 hHI.out hH0.out hH1.out hH2.out rfl (by decide) _ 0 [] rfl (HO.out.alloc _) ⟨W.heap.size + 1, 0, none⟩ 1 1 [.int .u8 45] rfl rfl HN.out (by intro u' hu'; simp only [List.mem_singleton] at hu'; subst hu'; rfl) (by unfold maxLen; omega) (by omega) (by simp; omega) ?_)
      intro v0 w0 hown1 hgrow _
      have hb0 : Below W.heap.size W w0 := (((Below.refl _ _).alloc (Nat.le_refl _) _).alloc (by simp) _).grown hgrow (by simp; omega) (fun k hk => by simp [Value.ownBlock] at hk; omega)
      have c02 := hb0.cell (p := ⟨w.heap.size, 0, none⟩) hlt
      have c12 := hb0.cell (p := ⟨w.heap.size, 1, none⟩) hlt
      have ct2 := hb0.cell (p := ⟨b, off + L, none⟩) hblt
      rw [c0] at c02
      rw [c1] at c12
      rw [hbt] at ct2
      have HB0 := Lib.hid hb0
      have HO1 := Lib.hid hown1
      have HW2 : Hid (WT w0) := Lib.tabBelow_of_tabIs HWT.out w0 hb0
      clear hown1 hgrow hb0
      go_wp2_with fail
      refine (appendUint_calls _ HW2.out W.heap.size 1 t Ht9.out.1 Ht9.out.2 _ [.int .u8 45] HO1.out HB0.out.size (by omega)).mono ?_
      rintro e w1 ⟨v1, rfl, hown1, hb1⟩
      have hF : FmtRel W.heap.size W L v1 ([45] ++ Lib.decDigits t) w1 := by
        refine ⟨?_, HB0.out.trans hb1, Nat.le_trans HB0.out.size hb1.size, ?_⟩
        · rw [Lib.byteCells_append, List.length_append]; exact hown1
        · unfold Hid
          have := HDl.out
          simp only [List.length_append, List.length_cons, List.length_nil]
          omega
      have HF := Lib.hid hF
      clear hF hown1 hb1 HZ htI
      obtain ⟨pre, hpre⟩ : ∃ pre : List UInt8, pre = [45] := ⟨_, rfl⟩
      rw [← hpre] at HF hHZ
      clear hpre c02 c12 ct2
      go_wp2_with fail
      go_loopw [4, 5] (fun tx i wr => ∃ k : Nat, k ≤ L ∧ i = .int .i64 ((k : Int) - 1) ∧ FmtRel W.heap.size W k tx (pre ++ Lib.decDigits t ++ groups (lows.drop k)) wr) (fun _ i _ => (intOf i + 1).toNat)
      case atStart => exact ⟨L, Nat.le_refl _, by go_num, by rw [List.drop_of_length_le (by have := HLL.out; omega), groups, List.append_nil]; exact HF.out⟩
      case round =>
        obtain ⟨k, hk, rfl, hR⟩ := hrel
        rcases k with _ | k
        · have htx := hR.text (by rw [List.length_append, List.length_append, Lib.decDigits_length]; have := Lib.nDigits_pos t; omega)
          have HE : Hid (Ext w wr) := by
            unfold Hid
            exact eW.trans hR.2.1
          have HRR := Lib.hid hR
          clear hR
          go_wp2
          go_ret
          refine ⟨?_, HE.out⟩
          rw [hHZ.out, HDec.out, ← List.append_assoc]
          rfl
        · have hk2 : k < L := by omega
          have hcx := hR.2.1.cell (p := ⟨b, off + k, none⟩) hblt
          rw [HLow.out k hk2] at hcx
          have c02 := hR.2.1.cell (p := ⟨w.heap.size, 0, none⟩) hlt
          have c12 := hR.2.1.cell (p := ⟨w.heap.size, 1, none⟩) hlt
          rw [c0] at c02
          rw [c1] at c12
          obtain ⟨x, hx⟩ : ∃ x, x = lows.getD k 0 := ⟨_, rfl⟩
          rw [← hx] at hcx
          have hx9 : x < 1000000000 := HDig.out k x hx
          have hgr := groups_drop lows k (by have := HLL.out; omega)
          rw [← hx] at hgr
          have HG := Lib.hid hgr
          have HRR := Lib.hid hR
          have HX := Lib.hid hx9
          have hkb : k < L + 1 := by omega
          have hkI : ((k + 1 : Nat) : Int) - 1 = (k : Int) := by omega
          rw [hkI]
          clear hR hgr hx hx9 hkI
          go_wp2_with fail
          refine (appendGroup_calls _ W.heap.size _ x HX.out _ _ HRR.out.1 HRR.out.2.2.1 (by have := HRR.out.2.2.2.out; omega)).mono ?_
          rintro e w2 ⟨v2, rfl, hown2, hb2⟩
          have HS : Hid (FmtRel W.heap.size W k v2 (pre ++ Lib.decDigits t ++ groups (lows.drop k)) w2) := by
            unfold Hid
            rw [HG.out, ← List.append_assoc]
            exact HRR.out.step (pad_length _ _) hown2 hb2
          clear hown2 hb2 c02 c12 hcx
          go_wp2
          go_roundw
          case rel => exact ⟨k, by omega, by go_num, HS.out⟩
          case measure => simp [intOf]

end Go.Proofs.YtmofkmdacfdejaaDoor
end
