/-
  Texts of this seat, joined.
-/
import Derived.Below
import Derived.WalkKit
import Derived.Deep.OwnRows
import Derived.Deep.QuietTactic
import Derived.Lib.Hide
import Derived.Test.YtifeacfljfmnpaaGreatProg
import Derived.WalkSpells
import Derived.WalkLawsBesides
import Derived.BigQuiet
import Derived.Deep.RegionHeld3
import Derived.Laws.AppendOwnNone
import Derived.Test.YtifeacfljfmnpaaGreatRows
import Derived.ProofKit
import Derived.OpenShut
import Derived.ChangeOld
import Derived.Lib.SmallJoins
import Derived.Deep.DeepCutAuto
import Derived.Shelf.Bits.Mul64
import Derived.Shelf.Spec.BitsCarry
section
set_option maxRecDepth 100000
namespace Go.Proofs.YtifeacfljfmnpaaGreat
def val : List Nat → Nat
  | [] => 0
  | x :: r => x + 1000000000 * val r

def Dig (xs : List Nat) : Prop := ∀ i, xs.getD i 0 < 1000000000

def limbsF : Nat → Nat → List Nat
  | 0, _ => []
  | f + 1, n => if n = 0 then [] else n % 1000000000 :: limbsF f (n / 1000000000)

def limbs (n : Nat) : List Nat := limbsF n n

theorem limbsF_eq : ∀ (f g n : Nat), n ≤ f → n ≤ g → limbsF f n = limbsF g n := by
  intro f
  induction f with
  | zero => intro g n h _; obtain rfl : n = 0 := by omega
            cases g <;> simp [limbsF]
  | succ f ih =>
    intro g n h hg
    cases g with
    | zero => obtain rfl : n = 0 := by omega
              simp [limbsF]
    | succ g =>
      unfold limbsF
      by_cases h0 : n = 0
      · simp [h0]
      · rw [if_neg h0, if_neg h0, ih g (n / 1000000000) (by omega) (by omega)]

theorem limbs_zero : limbs 0 = [] := rfl
theorem limbs_step {n : Nat} (h : 0 < n) : limbs n = n % 1000000000 :: limbs (n / 1000000000) := by
  obtain ⟨k, rfl⟩ : ∃ k, n = k + 1 := ⟨n - 1, by omega⟩
  show limbsF (k + 1) (k + 1) = _
  rw [limbsF, if_neg (by omega)]
  congr 1
  exact limbsF_eq _ _ _ (by omega) (by omega)

theorem val_limbsF : ∀ (f n : Nat), n ≤ f → val (limbsF f n) = n := by
  intro f
  induction f with
  | zero => intro n h; simp [limbsF, val]; omega
  | succ f ih =>
    intro n h
    unfold limbsF
    by_cases h0 : n = 0
    · simp [h0, val]
    · rw [if_neg h0, val, ih _ (by omega)]; omega
theorem z1q (n : Nat) : val (limbs n) = n := val_limbsF n n (Nat.le_refl _)

theorem Dig.nil : Dig [] := fun i => by simp
theorem Dig.cons {x : Nat} {r : List Nat} (h : x < 1000000000) (hr : Dig r) : Dig (x :: r) := by
  intro i
  cases i with
  | zero => simpa using h
  | succ i => simpa using hr i
theorem Dig.head {x : Nat} {r : List Nat} (h : Dig (x :: r)) : x < 1000000000 := by simpa using h 0
theorem Dig.tail {x : Nat} {r : List Nat} (h : Dig (x :: r)) : Dig r := fun i => by simpa using h (i + 1)
theorem Dig.take {xs : List Nat} (h : Dig xs) (k : Nat) : Dig (xs.take k) := by
  intro i
  have := h i
  simp only [List.getD_eq_getElem?_getD, List.getElem?_take] at this ⊢
  split
  · exact this
  · simp
theorem Dig.drop {xs : List Nat} (h : Dig xs) (k : Nat) : Dig (xs.drop k) := by
  intro i
  have := h (k + i)
  simpa only [List.getD_eq_getElem?_getD, List.getElem?_drop] using this
theorem Dig.append {xs ys : List Nat} (h : Dig xs) (k : Dig ys) : Dig (xs ++ ys) := by
  intro i
  have := h i
  have := k (i - xs.length)
  simp only [List.getD_eq_getElem?_getD] at *
  by_cases hi : i < xs.length
  · rw [List.getElem?_append_left hi]; assumption
  · rw [List.getElem?_append_right (by omega)]; assumption
theorem Dig.set {xs : List Nat} (h : Dig xs) (i : Nat) {x : Nat} (hx : x < 1000000000) : Dig (xs.set i x) := by
  intro j
  have := h j
  simp only [List.getD_eq_getElem?_getD, List.getElem?_set] at *
  split
  · split
    · simpa using hx
    · simp
  · exact this
theorem Dig.replicate (n : Nat) : Dig (List.replicate n 0) := by
  intro i
  simp only [List.getD_eq_getElem?_getD, List.getElem?_replicate]
  split <;> simp

theorem dig_limbsF : ∀ (f n : Nat), Dig (limbsF f n) := by
  intro f
  induction f with
  | zero => intro n; exact Dig.nil
  | succ f ih =>
    intro n
    unfold limbsF
    split
    · exact Dig.nil
    · exact Dig.cons (by omega) (ih _)
theorem z6q (n : Nat) : Dig (limbs n) := dig_limbsF n n

theorem val_append (xs ys : List Nat) : val (xs ++ ys) = val xs + 1000000000 ^ xs.length * val ys := by
  induction xs with
  | nil => simp [val]
  | cons x r ih =>
    simp only [List.cons_append, val, ih, List.length_cons, Nat.pow_succ]
    rw [Nat.mul_add, Nat.mul_comm (1000000000 ^ r.length) 1000000000, Nat.mul_assoc]; omega

theorem val_lt {xs : List Nat} (h : Dig xs) : val xs < 1000000000 ^ xs.length := by
  induction xs with
  | nil => simp [val]
  | cons x r ih =>
    have := ih h.tail
    have := h.head
    simp only [val, List.length_cons, Nat.pow_succ]
    omega

theorem take_succ_getD (xs : List Nat) (k : Nat) (h : k < xs.length) : xs.take (k + 1) = xs.take k ++ [xs.getD k 0] := by
  rw [List.take_succ_eq_append_getElem h]; simp [List.getD_eq_getElem?_getD, h]

theorem val_take_succ (xs : List Nat) (k : Nat) (h : k < xs.length) : val (xs.take (k + 1)) = val (xs.take k) + 1000000000 ^ k * xs.getD k 0 := by
  rw [take_succ_getD _ _ h, val_append, List.length_take, Nat.min_eq_left (by omega)]
  simp [val]

theorem drop_getD (xs : List Nat) (k : Nat) (h : k < xs.length) : xs.drop k = xs.getD k 0 :: xs.drop (k + 1) := by
  rw [List.drop_eq_getElem_cons h]; simp [List.getD_eq_getElem?_getD, h]

theorem val_drop (xs : List Nat) (k : Nat) (h : k < xs.length) : val (xs.drop k) = xs.getD k 0 + 1000000000 * val (xs.drop (k + 1)) := by
  rw [drop_getD _ _ h, val]

theorem val_split (xs : List Nat) (k : Nat) (h : k ≤ xs.length) : val xs = val (xs.take k) + 1000000000 ^ k * val (xs.drop k) := by
  have := val_append (xs.take k) (xs.drop k)
  rw [List.take_append_drop, List.length_take, Nat.min_eq_left h] at this
  exact this

def trimN (xs : List Nat) : Nat → Nat
  | 0 => 0
  | n + 1 => if xs.getD n 0 = 0 then trimN xs n else n + 1

theorem trimN_le (xs : List Nat) : ∀ n, trimN xs n ≤ n
  | 0 => Nat.le_refl _
  | n + 1 => by
    have := trimN_le xs n
    unfold trimN
    split <;> omega

theorem limbs_val : ∀ {xs : List Nat}, Dig xs → (xs ≠ [] → xs.getD (xs.length - 1) 0 ≠ 0) → limbs (val xs) = xs := by
  intro xs
  induction xs with
  | nil => intros; rfl
  | cons x r ih =>
    intro h hl
    have hx := h.head
    have hpos : 0 < val (x :: r) := by
      simp only [val]
      rcases r with _ | ⟨y, r⟩
      · have := hl (by simp); simp at this; omega
      · have hr : 0 < val (y :: r) := by
          rcases Nat.eq_zero_or_pos (val (y :: r)) with h0 | h0
          · have := ih h.tail (fun _ => by have := hl (by simp); simpa using this)
            rw [h0] at this; simp [limbs_zero] at this
          · exact h0
        omega
    rw [limbs_step hpos]
    have e1 : val (x :: r) % 1000000000 = x := by simp only [val]; omega
    have e2 : val (x :: r) / 1000000000 = val r := by simp only [val]; omega
    rw [e1, e2, ih h.tail ?_]
    intro hr
    have := hl (by simp)
    rcases r with _ | ⟨y, r⟩
    · exact absurd rfl hr
    · simpa using this

theorem val_take_trimN (xs : List Nat) : ∀ n, n ≤ xs.length → val (xs.take (trimN xs n)) = val (xs.take n)
  | 0, _ => rfl
  | n + 1, h => by
    unfold trimN
    split
    · rename_i h0
      rw [val_take_trimN xs n (by omega), val_take_succ _ _ (by omega), h0]; omega
    · rfl

theorem trimN_last (xs : List Nat) : ∀ n, 0 < trimN xs n → xs.getD (trimN xs n - 1) 0 ≠ 0
  | 0, h => by simp [trimN] at h
  | n + 1, h => by
    unfold trimN at h ⊢
    split
    · rename_i h0
      rw [if_pos h0] at h
      exact trimN_last xs n h
    · rename_i h0
      simpa using h0

theorem take_trimN {xs : List Nat} (h : Dig xs) : xs.take (trimN xs xs.length) = limbs (val xs) := by
  have hle := trimN_le xs xs.length
  have e : val (xs.take (trimN xs xs.length)) = val xs := by
    rw [val_take_trimN xs _ (Nat.le_refl _), List.take_of_length_le (Nat.le_refl _)]
  rw [← e, limbs_val (h.take _)]
  intro hne
  rw [List.length_take, Nat.min_eq_left hle]
  have hp : 0 < trimN xs xs.length := by
    rcases Nat.eq_zero_or_pos (trimN xs xs.length) with h0 | h0
    · rw [h0] at hne; simp at hne
    · exact h0
  have := trimN_last xs xs.length hp
  simp only [List.getD_eq_getElem?_getD, List.getElem?_take] at this ⊢
  rw [if_pos (by omega)]
  exact this

theorem trimN_length {xs : List Nat} (h : Dig xs) : trimN xs xs.length = (limbs (val xs)).length := by
  rw [← take_trimN h, List.length_take, Nat.min_eq_left (trimN_le _ _)]

theorem limbs_last (n : Nat) (h : limbs n ≠ []) : (limbs n).getD ((limbs n).length - 1) 0 ≠ 0 := by
  have hl : (limbs n).take (trimN (limbs n) (limbs n).length) = limbs n := by
    rw [take_trimN (z6q n), z1q]
  have hlen : trimN (limbs n) (limbs n).length = (limbs n).length := by
    have := congrArg List.length hl
    rw [List.length_take] at this
    have := trimN_le (limbs n) (limbs n).length
    omega
  have := trimN_last (limbs n) (limbs n).length (by rw [hlen]; exact List.length_pos_iff.2 h)
  rwa [hlen] at this

theorem limbs_len_le {n k : Nat} (h : n < 1000000000 ^ k) : (limbs n).length ≤ k := by
  rcases Nat.lt_or_ge k (limbs n).length with hk | hk
  · exfalso
    have hne : limbs n ≠ [] := by intro e; rw [e] at hk; simp at hk
    have hl := limbs_last n hne
    have hs := val_split (limbs n) ((limbs n).length - 1) (by omega)
    rw [z1q, val_drop _ _ (by omega)] at hs
    have hp : 1000000000 ^ k ≤ 1000000000 ^ ((limbs n).length - 1) := Nat.pow_le_pow_right (by omega) (by omega)
    have : 1000000000 ^ ((limbs n).length - 1) * 1 ≤ 1000000000 ^ ((limbs n).length - 1) * ((limbs n).getD ((limbs n).length - 1) 0 + 1000000000 * val ((limbs n).drop ((limbs n).length - 1 + 1))) := Nat.mul_le_mul_left _ (by omega)
    omega
  · exact hk
theorem z4q {n k : Nat} (h : (limbs n).length ≤ k) : n < 1000000000 ^ k := by
  have := val_lt (z6q n)
  rw [z1q] at this
  exact Nat.lt_of_lt_of_le this (Nat.pow_le_pow_right (by omega) h)
theorem limbs_eq_nil {n : Nat} : limbs n = [] ↔ n = 0 := by
  constructor
  · intro h; have := z1q n; rw [h] at this; exact this.symm
  · rintro rfl; rfl
theorem z12q {m n : Nat} (h : m ≤ n) : (limbs m).length ≤ (limbs n).length :=
  limbs_len_le (Nat.lt_of_le_of_lt h (z4q (Nat.le_refl _)))
theorem dig_iff {xs : List Nat} : Dig xs ↔ ∀ i, i < xs.length → xs.getD i 0 < 1000000000 := by
  constructor
  · intro h i _; exact h i
  · intro h i
    by_cases hi : i < xs.length
    · exact h i hi
    · rw [List.getD_eq_getElem?_getD, List.getElem?_eq_none (by omega)]; simp

end Go.Proofs.YtifeacfljfmnpaaGreat
end

section
set_option maxRecDepth 100000
namespace Go.Proofs.YtifeacfljfmnpaaGreat
open Go.RowKit
def Ext (w w' : World) : Prop := Below w.heap.size w w'
theorem Ext.refl (w : World) : Ext w w := Below.refl _ _
theorem Ext.trans {a b c : World} (h : Ext a b) (k : Ext b c) : Ext a c := Below.trans h (Below.mono k h.size)
theorem Ext.alloc {a w : World} (h : Ext a w) (o : Obj) : Ext a (w.alloc o) := Below.alloc h h.size o
theorem Ext.drew {a w : World} (h : Ext a w) : Ext a w.drew := Below.drew h
theorem Ext.drewN {a w : World} (h : Ext a w) (n : Nat) : Ext a (w.drewN n) := ⟨h.os, h.tape, h.output, h.size, h.block⟩
theorem Ext.setCell {a w : World} (h : Ext a w) {p : Addr} (hp : a.heap.size ≤ p.block) (u : Value) : Ext a (w.setCell p u) := Below.setCell h hp u
theorem Ext.size {a w : World} (h : Ext a w) : a.heap.size ≤ w.heap.size := Below.size h

theorem z0q {w : World} {p : Addr} {v : Value} (h : w.cell? p = some v) : p.block < w.heap.size := by
  rcases Nat.lt_or_ge p.block w.heap.size with hlt | hge
  · exact hlt
  · simp [World.cell?, Array.getElem?_eq_none hge] at h
theorem Ext.cell {w w' : World} (h : Ext w w') {p : Addr} {v : Value} (hc : w.cell? p = some v) : w'.cell? p = some v :=
  (Below.cell h (z0q hc)).trans hc
theorem Ext.frozen {w w' : World} (h : Ext w w') {p : Addr} (hp : p.block < w.heap.size) (hc : w.frozen? p = false) : w'.frozen? p = false :=
  (Below.frozen h hp).trans hc

def Cells (w : World) (ao : Option Addr) (xs : List Nat) : Prop :=
  xs = [] ∨ ∃ b off, ao = some ⟨b, off, none⟩ ∧ ∀ i, i < xs.length → w.cell? ⟨b, off + i, none⟩ = some (.int .u32 ((xs.getD i 0 : Nat) : Int))
theorem Cells.nil (w : World) (ao : Option Addr) : Cells w ao [] := .inl rfl
theorem Cells.ext {w w' : World} {ao : Option Addr} {xs : List Nat} (h : Cells w ao xs) (e : Ext w w') : Cells w' ao xs := by
  rcases h with h | ⟨b, off, rfl, h⟩
  · exact .inl h
  · exact .inr ⟨b, off, rfl, fun i hi => e.cell (h i hi)⟩
theorem Cells.drew {w : World} {ao : Option Addr} {xs : List Nat} (h : Cells w ao xs) : Cells w.drew ao xs := h
theorem Cells.take {w : World} {ao : Option Addr} {xs : List Nat} (h : Cells w ao xs) (k : Nat) : Cells w ao (xs.take k) := by
  rcases h with h | ⟨b, off, rfl, h⟩
  · subst h; simp [Cells]
  · refine .inr ⟨b, off, rfl, fun i hi => ?_⟩
    rw [List.length_take] at hi
    rw [h i (by omega)]
    simp only [List.getD_eq_getElem?_getD, List.getElem?_take]
    rw [if_pos (by omega)]
theorem Cells.at_ {w : World} {ao : Option Addr} {xs : List Nat} (h : Cells w ao xs) (hne : 0 < xs.length) :
    ∃ b off, ao = some ⟨b, off, none⟩ ∧ ∀ i, i < xs.length → w.cell? ⟨b, off + i, none⟩ = some (.int .u32 ((xs.getD i 0 : Nat) : Int)) := by
  rcases h with h | h
  · subst h; simp at hne
  · exact h

def u32s (xs : List Nat) : Array Value := (xs.map fun x => Value.int .u32 ((x : Nat) : Int)).toArray
def Blk (w : World) (g : Nat) (xs : List Nat) : Prop := ∃ sp : Array Value, w.heap[g]? = some (.cells (u32s xs ++ sp) 149 (0, 0))
section
variable {w w' : World} {g : Nat} {xs : List Nat}
theorem Blk.lt (h : Blk w g xs) : g < w.heap.size := by
  obtain ⟨sp, h⟩ := h
  rcases Nat.lt_or_ge g w.heap.size with hlt | hge
  · exact hlt
  · rw [Array.getElem?_eq_none hge] at h; cases h
theorem size_u32s (xs : List Nat) : (u32s xs).size = xs.length := by simp [u32s]
theorem u32s_at (xs : List Nat) (i : Nat) (hi : i < xs.length) : (u32s xs)[i]? = some (.int .u32 ((xs.getD i 0 : Nat) : Int)) := by
  simp [u32s, List.getD_eq_getElem?_getD, hi]
theorem Blk.cell (h : Blk w g xs) (i : Nat) (hi : i < xs.length) : w.cell? ⟨g, i, none⟩ = some (.int .u32 ((xs.getD i 0 : Nat) : Int)) := by
  obtain ⟨sp, h⟩ := h
  simp only [World.cell?, h]
  simp only [Option.isSome_none, Bool.false_eq_true, if_false]
  rw [Array.getElem?_append_left (by rw [size_u32s]; exact hi), u32s_at xs i hi]
theorem Blk.frozen (h : Blk w g xs) (i : Nat) : w.frozen? ⟨g, i, none⟩ = false := by
  obtain ⟨sp, h⟩ := h
  simp [World.frozen?, h]
theorem Blk.new (w : World) (xs : List Nat) : Blk (w.alloc (.cells (u32s xs) 149)) w.heap.size xs := by
  refine ⟨#[], ?_⟩
  rw [Array.append_empty]
  show (w.heap.push _)[w.heap.size]? = _
  exact Array.getElem?_push_size
theorem Blk.ext (h : Blk w g xs) (e : Ext w w') : Blk w' g xs := by
  have hl := h.lt
  obtain ⟨sp, h⟩ := h
  exact ⟨sp, (e.block g hl).trans h⟩
theorem Blk.alloc (h : Blk w g xs) (o : Obj) : Blk (w.alloc o) g xs := h.ext ((Ext.refl w).alloc o)
theorem Blk.set (h : Blk w g xs) (i x : Nat) (hi : i < xs.length) : Blk (w.setCell ⟨g, i, none⟩ (.int .u32 ((x : Nat) : Int))) g (xs.set i x) := by
  obtain ⟨sp, h⟩ := h
  refine ⟨sp, ?_⟩
  simp only [World.setCell, Array.getElem?_modify, if_true, h, Option.map_some]
  simp only [Option.isSome_none, Bool.false_eq_true, if_false]
  rw [Array.setIfInBounds_append_left (by rw [size_u32s]; exact hi)]
  simp [u32s, List.map_set]
theorem Blk.far (h : Blk w g xs) {p : Addr} (hp : g ≠ p.block) (u : Value) : Blk (w.setCell p u) g xs := by
  obtain ⟨sp, h⟩ := h
  exact ⟨sp, (Below.heap_setCell w p u g hp).trans h⟩
theorem Blk.cells (h : Blk w g xs) : Cells w (some ⟨g, 0, none⟩) xs := by
  refine .inr ⟨g, 0, rfl, fun i hi => ?_⟩
  rw [Nat.zero_add]
  exact h.cell i hi
theorem Blk.of_owns {base cap n : Nat} (h : w.ownsRow base 149 1 (.slice (some ⟨g, 0, none⟩) n cap) n (xs.map fun x => Value.int .u32 ((x : Nat) : Int))) : Blk w g xs := by
  obtain ⟨h1, h2⟩ := h
  rcases h2 with ⟨hv, _⟩ | ⟨g', cap', cur, hv, _, hh, _, _, hs, ht⟩
  · cases hv
  · injection hv with hv1 hv2 hv3
    injection hv1 with hv1
    injection hv1 with hv1
    subst hv1
    refine ⟨(cur.toList.drop n).toArray, ?_⟩
    rw [hh]
    congr 2
    rw [Nat.mul_one] at ht
    apply Array.toList_inj.1
    rw [Array.toList_append, u32s, List.toList_toArray, List.toList_toArray, ← ht, List.take_append_drop]
end
theorem madeCells_u32 (n : Nat) : madeCells #[Value.int .u32 0] n = u32s (List.replicate n 0) := by
  apply Array.ext
  · simp [madeCells, u32s]
  · intro i h1 h2
    simp [madeCells, u32s, Nat.mod_one]

def IsInt (w : World) (v : Value) (z : Int) : Prop :=
  ∃ ao cap, v = .agg #[.bool (decide (z < 0)), .slice ao (limbs z.natAbs).length cap] ∧ (limbs z.natAbs).length ≤ cap ∧ cap ≤ 9223372036854775807 ∧ Cells w ao (limbs z.natAbs)
theorem IsInt.ext {w w' : World} {v : Value} {z : Int} (h : IsInt w v z) (e : Ext w w') : IsInt w' v z := by
  obtain ⟨ao, cap, h1, h2, h3, h4⟩ := h
  exact ⟨ao, cap, h1, h2, h3, h4.ext e⟩

end Go.Proofs.YtifeacfljfmnpaaGreat
end

section
set_option maxRecDepth 100000
namespace Go.Proofs.YtifeacfljfmnpaaGreat
open Go.RowKit
theorem Cells.trim {w : World} {ao : Option Addr} {xs : List Nat} (h : Cells w ao xs) (hd : Dig xs) : Cells w ao (limbs (val xs)) := by
  rw [← take_trimN hd]
  exact h.take _

set_option maxHeartbeats 400000 in
theorem trim_calls (w : World) (ao : Option Addr) (xs : List Nat) (cap : Nat) (hc : xs.length ≤ cap) (hm : cap ≤ 9223372036854775807) (h : Cells w ao xs) (hd : Dig xs) :
    Calls Tryz.prog 205 #[.slice ao xs.length cap] w fun e w' => e = .returned (.slice ao (limbs (val xs)).length cap) ∧ w = w' := by
  have HL := Lib.hid (trimN_length hd)
  clear hd
  go_enter Tryz.func205, Tryz.ntmps205
  go_wp2
  go_loop [3] (fun n => ∃ k : Nat, k ≤ xs.length ∧ n = .int .i64 k ∧ Hid (trimN xs k = trimN xs xs.length)) (fun n => (intOf n).toNat)
  case atStart => exact ⟨_, Nat.le_refl _, rfl, rfl⟩
  case round =>
    obtain ⟨k, hk, rfl, HT⟩ := hrel
    rcases k with _ | k
    · go_wp2
      go_ret
      exact ⟨by rw [← HL.out, ← HT.out]; rfl, rfl⟩
    · obtain ⟨b, off, rfl, hx⟩ := h.at_ (by omega)
      have hcell := hx k (by omega)
      have hk2 : k < xs.length := by omega
      clear hx
      obtain ⟨x, hx⟩ : ∃ x, x = xs.getD k 0 := ⟨_, rfl⟩
      rw [← hx] at hcell
      have HX := Lib.hid hx
      clear hx
      rcases x with _ | x
      · go_wp2
        go_round
        case rel => exact ⟨k, by omega, by go_num, by have := HT.out; rw [trimN, if_pos HX.out.symm] at this; exact this⟩
        case measure => simp [intOf]
      · go_wp2
        go_ret
        exact ⟨by rw [← HL.out, ← HT.out, trimN, if_neg (by rw [← HX.out]; omega)]; simp, rfl⟩

set_option maxHeartbeats 400000 in
theorem rtrim_calls (w : World) (ao : Option Addr) (xs : List Nat) (cap : Nat) (hc : xs.length ≤ cap) (hm : cap ≤ 9223372036854775807) (h : Cells w ao xs) (hd : Dig xs) :
    Calls Tryz.prog 159 #[.slice ao xs.length cap] w fun e w' => e = .returned (.slice ao (limbs (val xs)).length cap) ∧ w = w' := by
  have HL := Lib.hid (trimN_length hd)
  clear hd
  go_enter Tryz.func159, Tryz.ntmps159
  go_wp2
  go_loop [0] (fun n => ∃ k : Nat, k ≤ xs.length ∧ n = .slice ao k cap ∧ Hid (trimN xs k = trimN xs xs.length)) (fun n => match n with | .slice _ k _ => k | _ => 0)
  case atStart => exact ⟨_, Nat.le_refl _, rfl, rfl⟩
  case round =>
    obtain ⟨k, hk, rfl, HT⟩ := hrel
    rcases k with _ | k
    · go_wp2
      go_ret
      exact ⟨by rw [← HL.out, ← HT.out]; rfl, rfl⟩
    · obtain ⟨b, off, rfl, hx⟩ := h.at_ (by omega)
      have hcell := hx k (by omega)
      have hk2 : k < xs.length := by omega
      clear hx
      obtain ⟨x, hx⟩ : ∃ x, x = xs.getD k 0 := ⟨_, rfl⟩
      rw [← hx] at hcell
      have HX := Lib.hid hx
      clear hx
      rcases x with _ | x
      · go_wp2
        go_round
        case rel => exact ⟨k, by omega, by simp, by have := HT.out; rw [trimN, if_pos HX.out.symm] at this; exact this⟩
        case measure => simp
      · go_wp2
        go_ret
        exact ⟨by rw [← HL.out, ← HT.out, trimN, if_neg (by rw [← HX.out]; omega)]; simp, rfl⟩


def Ret (Q : Value → World → Prop) (w : World) (e : Ending) (w' : World) : Prop := ∃ v, e = .returned v ∧ Q v w' ∧ Ext w w'
def IsLimbs (n : Nat) (v : Value) (w : World) : Prop := ∃ ao cap, v = .slice ao (limbs n).length cap ∧ (limbs n).length ≤ cap ∧ cap ≤ 9223372036854775807 ∧ Cells w ao (limbs n)
theorem IsLimbs.ext {w w' : World} {v : Value} {n : Nat} (h : IsLimbs n v w) (e : Ext w w') : IsLimbs n v w' := by
  obtain ⟨ao, cap, h1, h2, h3, h4⟩ := h
  exact ⟨ao, cap, h1, h2, h3, h4.ext e⟩

theorem val_drop_le (xs : List Nat) (k : Nat) : val (xs.drop k) ≤ val xs := by
  induction xs generalizing k with
  | nil => simp
  | cons x r ih =>
    cases k with
    | zero => simp
    | succ k => have := ih k; simp only [List.drop_succ_cons, val]; omega
theorem val_drop_len (xs : List Nat) : val (xs.drop xs.length) = 0 := by simp [val]

set_option maxHeartbeats 400000 in
theorem valueOf_calls (w : World) (ao : Option Addr) (xs : List Nat) (cap : Nat) (hc : xs.length ≤ cap) (hm : cap ≤ 9223372036854775807) (h : Cells w ao xs) (hv : val xs ≤ 18446744073709551615) :
    Calls Tryz.prog 223 #[.slice ao xs.length cap] w fun e w' => e = .returned (.int .u64 ((val xs : Nat) : Int)) ∧ w = w' := by
  have HV := Lib.hid hv
  clear hv
  go_enter Tryz.func223, Tryz.ntmps223
  go_wp2
  go_loop [3, 4] (fun v i => ∃ k : Nat, k ≤ xs.length ∧ i = .int .i64 ((k : Int) - 1) ∧ v = .int .u64 ((val (xs.drop k) : Nat) : Int)) (fun _ i => (intOf i + 1).toNat)
  case atStart => exact ⟨xs.length, Nat.le_refl _, by go_num, by rw [val_drop_len]; rfl⟩
  case round =>
    obtain ⟨k, hk, rfl, rfl⟩ := hrel
    rcases k with _ | k
    · go_wp2
      go_ret
      exact ⟨by simp, rfl⟩
    · obtain ⟨b, off, rfl, hx⟩ := h.at_ (by omega)
      have hcell := hx k (by omega)
      have hk2 : k < xs.length := by omega
      have hs := val_drop xs k hk2
      have hle := val_drop_le xs k
      clear hx
      obtain ⟨x, hx⟩ : ∃ x, x = xs.getD k 0 := ⟨_, rfl⟩
      obtain ⟨v, hv⟩ : ∃ v, v = val (xs.drop (k + 1)) := ⟨_, rfl⟩
      rw [← hx] at hcell
      rw [← hx, ← hv] at hs
      rw [← hv]
      have hb : v * 1000000000 + x ≤ 18446744073709551615 := by have := HV.out; omega
      have HS := Lib.hid hs
      clear hs hle hx hv
      have ek : ((k + 1 : Nat) : Int) - 1 = (k : Int) := by omega
      rw [ek]
      clear ek
      go_wp2
      go_round
      case rel => exact ⟨k, by omega, by go_num, by rw [HS.out]; go_num⟩
      case measure => simp [intOf]

set_option maxHeartbeats 400000 in
theorem short_calls (w : World) (ao : Option Addr) (xs : List Nat) (cap : Nat) (hc : xs.length ≤ cap) (hm : cap ≤ 9223372036854775807) (h : Cells w ao xs) (hv : val xs ≤ 18446744073709551615) :
    Calls Tryz.prog 96 #[.slice ao xs.length cap] w fun e w' => e = .returned (.int .u64 ((val xs : Nat) : Int)) ∧ w = w' := by
  have HV := Lib.hid hv
  clear hv
  go_enter Tryz.func96, Tryz.ntmps96
  go_wp2
  go_loop [3, 4] (fun v i => ∃ k : Nat, k ≤ xs.length ∧ i = .int .i64 ((k : Int) - 1) ∧ v = .int .u64 ((val (xs.drop k) : Nat) : Int)) (fun _ i => (intOf i + 1).toNat)
  case atStart => exact ⟨xs.length, Nat.le_refl _, by go_num, by rw [val_drop_len]; rfl⟩
  case round =>
    obtain ⟨k, hk, rfl, rfl⟩ := hrel
    rcases k with _ | k
    · go_wp2
      go_ret
      exact ⟨by simp, rfl⟩
    · obtain ⟨b, off, rfl, hx⟩ := h.at_ (by omega)
      have hcell := hx k (by omega)
      have hk2 : k < xs.length := by omega
      have hs := val_drop xs k hk2
      have hle := val_drop_le xs k
      clear hx
      obtain ⟨x, hx⟩ : ∃ x, x = xs.getD k 0 := ⟨_, rfl⟩
      obtain ⟨v, hv⟩ : ∃ v, v = val (xs.drop (k + 1)) := ⟨_, rfl⟩
      rw [← hx] at hcell
      rw [← hx, ← hv] at hs
      rw [← hv]
      have hb : v * 1000000000 + x ≤ 18446744073709551615 := by have := HV.out; omega
      have HS := Lib.hid hs
      clear hs hle hx hv
      have ek : ((k + 1 : Nat) : Int) - 1 = (k : Int) := by omega
      rw [ek]
      clear ek
      go_wp2
      go_round
      case rel => exact ⟨k, by omega, by go_num, by rw [HS.out]; go_num⟩
      case measure => simp [intOf]


theorem cells_lit3 (w : World) (a b c : Nat) {A B C : Int} (hA : A = a) (hB : B = b) (hC : C = c) :
    Cells (w.alloc (.cells #[.int .u32 A, .int .u32 B, .int .u32 C] 149)) (some ⟨w.heap.size, 0, none⟩) [a, b, c] := by
  subst hA hB hC
  exact (Blk.new w [a, b, c]).cells


set_option maxHeartbeats 400000 in
theorem limbsOf_calls (w : World) (n : Nat) (hn : n ≤ 18446744073709551615) :
    Calls Tryz.prog 150 #[.int .u64 (n : Int)] w (Ret (IsLimbs n) w) := by
  have hcl := cells_lit3 w (n % 1000000000) (n / 1000000000 % 1000000000) (n / 1000000000 / 1000000000) (A := ↑n % 1000000000) (B := ↑n / 1000000000 % 1000000000) (C := ↑n / 1000000000 / 1000000000) (by omega) (by omega) (by omega)
  have hd : Dig [n % 1000000000, n / 1000000000 % 1000000000, n / 1000000000 / 1000000000] :=
    Dig.cons (by omega) (Dig.cons (by omega) (Dig.cons (by omega) Dig.nil))
  have hv : val [n % 1000000000, n / 1000000000 % 1000000000, n / 1000000000 / 1000000000] = n := by simp only [val]; omega
  have hfin := hcl.trim hd
  have hln : (limbs n).length ≤ 3 := limbs_len_le (by omega)
  rw [hv] at hfin
  have HV := Lib.hid hv
  clear hv
  go_enter Tryz.func150, Tryz.ntmps150
  go_wp2_with fail
  refine (trim_calls _ _ _ 3 (by simp) (by omega) hcl hd).mono ?_
  rintro e w' ⟨rfl, rfl⟩
  rw [HV.out]
  go_wp2
  go_ret
  exact ⟨_, rfl, ⟨_, _, rfl, hln, by omega, hfin⟩, (Ext.refl w).alloc _⟩

def sgn (s : Bool) (n : Nat) : Int := if s then -(n : Int) else n
theorem sgn_zero (s : Bool) : sgn s 0 = 0 := by cases s <;> rfl
theorem natAbs_sgn (s : Bool) (n : Nat) : (sgn s n).natAbs = n := by unfold sgn; split <;> omega
theorem sgn_neg (s : Bool) {n : Nat} (h : n ≠ 0) : decide (sgn s n < 0) = s := by
  cases s
  · simp [sgn]
  · simp [sgn]; omega
theorem isInt_of {w : World} {s : Bool} {ao : Option Addr} {n cap : Nat} (h0 : n ≠ 0) (h1 : (limbs n).length ≤ cap) (h2 : cap ≤ 9223372036854775807) (h3 : Cells w ao (limbs n)) :
    IsInt w (.agg #[.bool s, .slice ao (limbs n).length cap]) (sgn s n) :=
  ⟨ao, cap, by rw [natAbs_sgn, sgn_neg s h0], by rw [natAbs_sgn]; exact h1, h2, by rw [natAbs_sgn]; exact h3⟩
theorem isInt_zero (w : World) : IsInt w (.agg #[.bool false, .slice none 0 0]) 0 := ⟨none, 0, by simp [limbs_zero], by simp [limbs_zero], by omega, Cells.nil _ _⟩

set_option maxHeartbeats 400000 in
theorem signed_calls (w : World) (s : Bool) (ao : Option Addr) (xs : List Nat) (cap : Nat) (hc : xs.length ≤ cap) (hm : cap ≤ 9223372036854775807) (h : Cells w ao xs) (hd : Dig xs) :
    Calls Tryz.prog 149 #[.bool s, .slice ao xs.length cap] w (Ret (fun v w' => IsInt w' v (sgn s (val xs))) w) := by
  have hfin := h.trim hd
  have hlen : (limbs (val xs)).length ≤ xs.length := limbs_len_le (val_lt hd)
  rcases Nat.eq_zero_or_pos (val xs) with h0 | h0
  · have HZ := Lib.hid h0
    clear h0
    go_enter Tryz.func149, Tryz.ntmps149
    go_wp2_with fail
    refine (trim_calls _ _ _ _ hc hm (h.ext ((Ext.refl w).alloc _)) hd).mono ?_
    rintro e w' ⟨rfl, rfl⟩
    rw [HZ.out, limbs_zero]
    go_wp2
    exact bodyPost_ret (v := .agg #[.bool false, .slice none 0 0]) (by simp [results, Tryz.results149, go_sem]) rfl ⟨_, rfl, by rw [HZ.out, sgn_zero]; exact isInt_zero _, (Ext.refl w).alloc _⟩
  · have hne : (limbs (val xs)).length ≠ 0 := by
      intro e; have := limbs_eq_nil.1 (List.eq_nil_of_length_eq_zero e); omega
    have hI := isInt_of (s := s) (by omega) (Nat.le_trans hlen hc) hm hfin
    obtain ⟨n, hn⟩ : ∃ n, n = (limbs (val xs)).length := ⟨_, rfl⟩
    rw [← hn] at hne
    have hbe : ((n : Int) == 0) = false := by simpa using hne
    have HN := Lib.hid hn
    clear hn
    go_enter Tryz.func149, Tryz.ntmps149
    go_wp2_with fail
    refine (trim_calls _ _ _ _ hc hm (h.ext ((Ext.refl w).alloc _)) hd).mono ?_
    rintro e w' ⟨rfl, rfl⟩
    rw [← HN.out]
    go_wp2
    exact bodyPost_ret (v := .agg #[.bool s, .slice ao n cap]) (by simp [results, Tryz.results149, go_sem]) rfl ⟨_, rfl, by rw [HN.out]; exact hI.ext ((Ext.refl w).alloc _), (Ext.refl w).alloc _⟩

end Go.Proofs.YtifeacfljfmnpaaGreat
end

section
set_option maxRecDepth 100000
namespace Go.Proofs.YtifeacfljfmnpaaGreat
open Go.RowKit
def cmpZ (a b : Int) : Int := if a < b then -1 else if b < a then 1 else 0
theorem cmpZ_lt {a b : Int} (h : a < b) : cmpZ a b = -1 := by unfold cmpZ; rw [if_pos h]
theorem cmpZ_gt {a b : Int} (h : b < a) : cmpZ a b = 1 := by unfold cmpZ; rw [if_neg (by omega), if_pos h]
theorem cmpZ_eq {a b : Int} (h : a = b) : cmpZ a b = 0 := by unfold cmpZ; rw [if_neg (by omega), if_neg (by omega)]

theorem quiet_eq {P : Program} {f : FuncId} {args : Array Value} {w : World} {n : Nat} {v : Value}
    (h : Calls P f args (w.drewN n) fun e w' => e = .returned v ∧ w.drewN n = w') : Calls P f args (w.drewN n) fun e w'' => e = .returned v ∧ ∃ m, w'' = w.drewN m :=
  h.mono fun _ _ ⟨he, hm⟩ => ⟨he, n, hm.symm⟩
theorem ret_int {k : IntKind} {a b : Int} (h : a = b) : Ending.returned (.int k a) = .returned (.int k b) := by rw [h]

set_option maxHeartbeats 400000 in
theorem cmpInt_calls (w : World) (a b : Int) :
    Calls Tryz.prog 218 #[.int .i64 a, .int .i64 b] w fun e w' => e = .returned (.int .i64 (cmpZ a b)) ∧ w = w' := by
  rcases Int.lt_trichotomy a b with h | h | h
  · have HZ := Lib.hid (cmpZ_lt h)
    go_enter Tryz.func218, Tryz.ntmps218
    go_wp2
    go_ret
    exact ⟨ret_int HZ.out.symm, rfl⟩
  · have HZ := Lib.hid (cmpZ_eq h)
    subst h
    go_enter Tryz.func218, Tryz.ntmps218
    go_wp2
    go_ret
    exact ⟨ret_int HZ.out.symm, rfl⟩
  · have HZ := Lib.hid (cmpZ_gt h)
    go_enter Tryz.func218, Tryz.ntmps218
    go_wp2
    go_ret
    exact ⟨ret_int HZ.out.symm, rfl⟩

set_option maxHeartbeats 400000 in
theorem cmpU32_calls (w : World) (a b : Int) :
    Calls Tryz.prog 247 #[.int .u32 a, .int .u32 b] w fun e w' => e = .returned (.int .i64 (cmpZ a b)) ∧ w = w' := by
  rcases Int.lt_trichotomy a b with h | h | h
  · have HZ := Lib.hid (cmpZ_lt h)
    go_enter Tryz.func247, Tryz.ntmps247
    go_wp2
    go_ret
    exact ⟨ret_int HZ.out.symm, rfl⟩
  · have HZ := Lib.hid (cmpZ_eq h)
    subst h
    go_enter Tryz.func247, Tryz.ntmps247
    go_wp2
    go_ret
    exact ⟨ret_int HZ.out.symm, rfl⟩
  · have HZ := Lib.hid (cmpZ_gt h)
    go_enter Tryz.func247, Tryz.ntmps247
    go_wp2
    go_ret
    exact ⟨ret_int HZ.out.symm, rfl⟩

theorem val_lt_of {xs ys : List Nat} {k : Nat} (hx : Dig xs) (hk : k < xs.length) (hk' : k < ys.length) (hd : val (xs.drop (k + 1)) = val (ys.drop (k + 1))) (hlt : xs.getD k 0 < ys.getD k 0) : val xs < val ys := by
  rw [val_split xs k (by omega), val_split ys k (by omega), val_drop xs k hk, val_drop ys k hk', hd]
  have h1 := val_lt (hx.take k)
  rw [List.length_take, Nat.min_eq_left (by omega)] at h1
  generalize 1000000000 ^ k = p at *
  generalize val (ys.drop (k + 1)) = d
  have : p * (xs.getD k 0 + 1000000000 * d) + p ≤ p * (ys.getD k 0 + 1000000000 * d) := by
    rw [← Nat.mul_succ]; exact Nat.mul_le_mul_left _ (by omega)
  omega

theorem lt_of_len {m n : Nat} (h : (limbs m).length < (limbs n).length) : m < n := by
  rcases Nat.lt_or_ge m n with h1 | h1
  · exact h1
  · have := z12q h1; omega


theorem limbs_eq_of {m n : Nat} (h : val (limbs m) = val (limbs n)) : m = n := by rwa [z1q, z1q] at h
theorem lt_of_digit {m n k : Nat} (hk : k < (limbs m).length) (hk' : k < (limbs n).length) (hd : val ((limbs m).drop (k + 1)) = val ((limbs n).drop (k + 1))) (hlt : (limbs m).getD k 0 < (limbs n).getD k 0) : m < n := by
  have := val_lt_of (z6q m) hk hk' hd hlt
  rwa [z1q, z1q] at this

theorem drop_eq_step {xs ys : List Nat} {k : Nat} (hk : k < xs.length) (hk' : k < ys.length) (hd : val (xs.drop (k + 1)) = val (ys.drop (k + 1))) (he : xs.getD k 0 = ys.getD k 0) : val (xs.drop k) = val (ys.drop k) := by
  rw [val_drop _ _ hk, val_drop _ _ hk', hd, he]

set_option maxHeartbeats 800000 in
theorem compareLimbs_calls (w : World) (ax ay : Option Addr) (m n cx cy : Nat) (lx : (limbs m).length ≤ 9223372036854775807) (ly : (limbs n).length ≤ 9223372036854775807) (hx : Cells w ax (limbs m)) (hy : Cells w ay (limbs n)) :
    Calls Tryz.prog 219 #[.slice ax (limbs m).length cx, .slice ay (limbs n).length cy] w fun e w' => e = .returned (.int .i64 (cmpZ m n)) ∧ ∃ k, w' = w.drewN k := by
  rcases Nat.lt_trichotomy (limbs m).length (limbs n).length with hl | hl | hl
  · have H1 := Lib.hid (cmpZ_lt (Int.ofNat_lt.2 hl))
    have H2 := Lib.hid (cmpZ_lt (Int.ofNat_lt.2 (lt_of_len hl)))
    go_enter Tryz.func219, Tryz.ntmps219
    go_wp2_with (go_at_call 218; refine (cmpInt_calls _ _ _).mono ?_; rintro e w' ⟨rfl, rfl⟩; rw [H1.out])
    go_ret
    exact ⟨ret_int H2.out.symm, 0, rfl⟩
  · have H1 := Lib.hid (cmpZ_eq (congrArg (fun x : Nat => (x : Int)) hl))
    have HL := Lib.hid hl
    clear hl
    go_enter Tryz.func219, Tryz.ntmps219
    go_wp2_with (go_at_call 218; refine (cmpInt_calls _ _ _).mono ?_; rintro e w' ⟨rfl, rfl⟩; rw [H1.out])
    go_loopw [6, 7] (fun i _ wr => ∃ k j : Nat, k ≤ (limbs m).length ∧ i = .int .i64 ((k : Int) - 1) ∧ Hid (wr = w.drewN j) ∧ Hid (val ((limbs m).drop k) = val ((limbs n).drop k))) (fun i _ _ => (intOf i + 1).toNat)
    case atStart => exact ⟨_, 0, Nat.le_refl _, rfl, rfl, by rw [val_drop_len, HL.out, val_drop_len]; rfl⟩
    case round =>
      obtain ⟨k, j, hk, rfl, HW, HD⟩ := hrel
      rcases k with _ | k
      · go_wp2
        go_ret
        exact ⟨ret_int (cmpZ_eq (congrArg (fun x : Nat => (x : Int)) (limbs_eq_of HD.out))).symm, j, HW.out⟩
      · have hk2 : k < (limbs m).length := by omega
        have hk3 : k < (limbs n).length := by rw [← HL.out]; omega
        obtain ⟨b1, o1, rfl, hx1⟩ := hx.at_ (by omega)
        obtain ⟨b2, o2, rfl, hy1⟩ := hy.at_ (by omega)
        have hcx : wr.cell? ⟨b1, o1 + k, none⟩ = some (.int .u32 (((limbs m).getD k 0 : Nat) : Int)) := by rw [HW.out]; exact hx1 k (by omega)
        have hcy : wr.cell? ⟨b2, o2 + k, none⟩ = some (.int .u32 (((limbs n).getD k 0 : Nat) : Int)) := by rw [HW.out]; exact hy1 k (by omega)
        clear hx hy hx1 hy1
        have ek : ((k + 1 : Nat) : Int) - 1 = (k : Int) := by omega
        rw [ek]
        clear ek
        have HR := Lib.hid (fun he => drop_eq_step hk2 hk3 HD.out he)
        have H1 := Lib.hid (fun hlt => lt_of_digit hk2 hk3 HD.out hlt)
        have H2 := Lib.hid (fun hlt => lt_of_digit hk3 hk2 HD.out.symm hlt)
        obtain ⟨x, hxx⟩ : ∃ x, x = (limbs m).getD k 0 := ⟨_, rfl⟩
        obtain ⟨y, hyy⟩ : ∃ y, y = (limbs n).getD k 0 := ⟨_, rfl⟩
        rw [← hxx] at hcx HR H1 H2
        rw [← hyy] at hcy HR H1 H2
        clear hxx hyy
        have bx1 : (0 : Int) ≤ (k : Int) := by omega
        have bx2 : (k : Int) < ((limbs m).length : Int) := by omega
        have bx3 : (k : Int) < ((limbs n).length : Int) := by omega
        rcases Nat.lt_trichotomy x y with hxy | hxy | hxy
        · have HZ := Lib.hid (cmpZ_lt (Int.ofNat_lt.2 hxy))
          have HF := Lib.hid (cmpZ_lt (Int.ofNat_lt.2 (H1.out hxy)))
          go_wp2
          go_quiet ((go_at_call 247; exact quiet_eq (cmpU32_calls _ _ _)))
          rw [HZ.out]
          go_wp2
          go_ret
          exact ⟨ret_int HF.out.symm, _, by rw [HW.out, World.drewN_drewN]⟩
        · have HZ := Lib.hid (cmpZ_eq (congrArg (fun x : Nat => (x : Int)) hxy))
          have HE := Lib.hid (HR.out hxy)
          subst hxy
          go_wp2
          go_quiet ((go_at_call 247; exact quiet_eq (cmpU32_calls _ _ _)))
          rw [HZ.out]
          go_wp2
          go_roundw
          case rel => exact ⟨k, j + nq, by omega, by go_num, by unfold Hid; rw [HW.out, World.drewN_drewN], HE⟩
          case measure => simp [intOf]
        · have HZ := Lib.hid (cmpZ_gt (Int.ofNat_lt.2 hxy))
          have HF := Lib.hid (cmpZ_gt (Int.ofNat_lt.2 (H2.out hxy)))
          go_wp2
          go_quiet ((go_at_call 247; exact quiet_eq (cmpU32_calls _ _ _)))
          rw [HZ.out]
          go_wp2
          go_ret
          exact ⟨ret_int HF.out.symm, _, by rw [HW.out, World.drewN_drewN]⟩
  · have H1 := Lib.hid (cmpZ_gt (Int.ofNat_lt.2 hl))
    have H2 := Lib.hid (cmpZ_gt (Int.ofNat_lt.2 (lt_of_len hl)))
    go_enter Tryz.func219, Tryz.ntmps219
    go_wp2_with (go_at_call 218; refine (cmpInt_calls _ _ _).mono ?_; rintro e w' ⟨rfl, rfl⟩; rw [H1.out])
    go_ret
    exact ⟨ret_int H2.out.symm, 0, rfl⟩

set_option maxHeartbeats 800000 in
theorem rcompare_calls (w : World) (ax ay : Option Addr) (m n cx cy : Nat) (lx : (limbs m).length ≤ 9223372036854775807) (ly : (limbs n).length ≤ 9223372036854775807) (hx : Cells w ax (limbs m)) (hy : Cells w ay (limbs n)) :
    Calls Tryz.prog 160 #[.slice ax (limbs m).length cx, .slice ay (limbs n).length cy] w fun e w' => e = .returned (.int .i64 (cmpZ m n)) ∧ ∃ k, w' = w.drewN k := by
  rcases Nat.lt_trichotomy (limbs m).length (limbs n).length with hl | hl | hl
  · have H1 := Lib.hid (cmpZ_lt (Int.ofNat_lt.2 hl))
    have H2 := Lib.hid (cmpZ_lt (Int.ofNat_lt.2 (lt_of_len hl)))
    go_enter Tryz.func160, Tryz.ntmps160
    go_wp2
    go_ret
    exact ⟨ret_int H2.out.symm, 0, rfl⟩
  · have H1 := Lib.hid (cmpZ_eq (congrArg (fun x : Nat => (x : Int)) hl))
    have HL := Lib.hid hl
    have hb0 : (((limbs m).length : Int) != ((limbs n).length : Int)) = false := by simp [hl]
    clear hl
    go_enter Tryz.func160, Tryz.ntmps160
    go_wp2
    go_loopw [5] (fun i wr => ∃ k j : Nat, k ≤ (limbs m).length ∧ i = .int .i64 ((k : Int) - 1) ∧ Hid (wr = w.drewN j) ∧ Hid (val ((limbs m).drop k) = val ((limbs n).drop k))) (fun i _ => (intOf i + 1).toNat)
    case atStart => exact ⟨_, 0, Nat.le_refl _, rfl, rfl, by rw [val_drop_len, HL.out, val_drop_len]; rfl⟩
    case round =>
      obtain ⟨k, j, hk, rfl, HW, HD⟩ := hrel
      rcases k with _ | k
      · go_wp2
        go_ret
        exact ⟨ret_int (cmpZ_eq (congrArg (fun x : Nat => (x : Int)) (limbs_eq_of HD.out))).symm, j, HW.out⟩
      · have hk2 : k < (limbs m).length := by omega
        have hk3 : k < (limbs n).length := by rw [← HL.out]; omega
        obtain ⟨b1, o1, rfl, hx1⟩ := hx.at_ (by omega)
        obtain ⟨b2, o2, rfl, hy1⟩ := hy.at_ (by omega)
        have hcx : wr.cell? ⟨b1, o1 + k, none⟩ = some (.int .u32 (((limbs m).getD k 0 : Nat) : Int)) := by rw [HW.out]; exact hx1 k (by omega)
        have hcy : wr.cell? ⟨b2, o2 + k, none⟩ = some (.int .u32 (((limbs n).getD k 0 : Nat) : Int)) := by rw [HW.out]; exact hy1 k (by omega)
        clear hx hy hx1 hy1
        have ek : ((k + 1 : Nat) : Int) - 1 = (k : Int) := by omega
        rw [ek]
        clear ek
        have HR := Lib.hid (fun he => drop_eq_step hk2 hk3 HD.out he)
        have H1 := Lib.hid (fun hlt => lt_of_digit hk2 hk3 HD.out hlt)
        have H2 := Lib.hid (fun hlt => lt_of_digit hk3 hk2 HD.out.symm hlt)
        obtain ⟨x, hxx⟩ : ∃ x, x = (limbs m).getD k 0 := ⟨_, rfl⟩
        obtain ⟨y, hyy⟩ : ∃ y, y = (limbs n).getD k 0 := ⟨_, rfl⟩
        rw [← hxx] at hcx HR H1 H2
        rw [← hyy] at hcy HR H1 H2
        clear hxx hyy
        have bx1 : (0 : Int) ≤ (k : Int) := by omega
        have bx2 : (k : Int) < ((limbs m).length : Int) := by omega
        have bx3 : (k : Int) < ((limbs n).length : Int) := by omega
        rcases Nat.lt_trichotomy x y with hxy | hxy | hxy
        · have hxz : (x : Int) < (y : Int) := by omega
          have HF := Lib.hid (cmpZ_lt (Int.ofNat_lt.2 (H1.out hxy)))
          go_wp2
          go_quiet (fail)
          go_wp2
          go_ret
          exact ⟨ret_int HF.out.symm, _, by rw [HW.out, World.drewN_drewN]⟩
        · have HE := Lib.hid (HR.out hxy)
          subst hxy
          go_wp2
          go_quiet (fail)
          go_wp2
          go_quiet (fail)
          go_wp2
          go_roundw
          case rel => exact ⟨k, _, by omega, by go_num, by unfold Hid; rw [HW.out, World.drewN_drewN], HE⟩
          case measure => simp [intOf]
        · have hxz : (y : Int) < (x : Int) := by omega
          have HF := Lib.hid (cmpZ_gt (Int.ofNat_lt.2 (H2.out hxy)))
          go_wp2
          go_quiet (fail)
          go_wp2
          go_quiet (fail)
          go_wp2
          go_ret
          exact ⟨ret_int HF.out.symm, _, by rw [HW.out, World.drewN_drewN, World.drewN_drewN]⟩
  · have H1 := Lib.hid (cmpZ_gt (Int.ofNat_lt.2 hl))
    have H2 := Lib.hid (cmpZ_gt (Int.ofNat_lt.2 (lt_of_len hl)))
    go_enter Tryz.func160, Tryz.ntmps160
    go_wp2
    go_ret
    exact ⟨ret_int H2.out.symm, 0, rfl⟩


end Go.Proofs.YtifeacfljfmnpaaGreat
end

section
set_option maxRecDepth 100000
namespace Go.Proofs.YtifeacfljfmnpaaGreat
open Go.RowKit
theorem IsInt.open_ {w : World} {v : Value} {z : Int} (h : IsInt w v z) : ∃ ao cap s n, v = .agg #[.bool s, .slice ao (limbs n).length cap] ∧ (limbs n).length ≤ cap ∧ cap ≤ 9223372036854775807 ∧ Cells w ao (limbs n) ∧
    Hid (n = z.natAbs) ∧ Hid (z = sgn s n) ∧ Hid (s = true → 0 < n) := by
  obtain ⟨ao, cap, rfl, h1, h2, h3⟩ := h
  refine ⟨ao, cap, decide (z < 0), z.natAbs, rfl, h1, h2, h3, rfl, ?_, ?_⟩
  · unfold Hid sgn; by_cases hz : z < 0 <;> simp [hz] <;> omega
  · intro hs; have := of_decide_eq_true hs; omega

theorem cmpZ_sgn_pos {n : Nat} (s : Bool) (h : 0 < n) : cmpZ (sgn s n) 0 = if s then -1 else 1 := by
  cases s
  · simp only [sgn]; exact cmpZ_gt (by simp; omega)
  · simp only [sgn]; exact cmpZ_lt (by simp; omega)

theorem limbs_pos {n : Nat} (h : 0 < n) : 0 < (limbs n).length := by
  rcases Nat.eq_zero_or_pos (limbs n).length with h0 | h0
  · have := limbs_eq_nil.1 (List.eq_nil_of_length_eq_zero h0); omega
  · exact h0

set_option maxHeartbeats 400000 in
theorem sign_calls (w : World) (v : Value) (z : Int) (h : IsInt w v z) :
    Calls Tryz.prog 175 #[v] w fun e w' => e = .returned (.int .i64 (cmpZ z 0)) ∧ Ext w w' := by
  obtain ⟨ao, cap, s, n, rfl, h1, h2, h3, H4, H5, H6⟩ := h.open_
  clear h h3
  rcases Nat.eq_zero_or_pos n with h0 | h0
  · have HZ : Hid (cmpZ z 0 = 0) := by
      unfold Hid; rw [H5.out, h0, sgn_zero]; rfl
    subst h0
    go_enter Tryz.func175, Tryz.ntmps175
    rw [limbs_zero]
    go_wp2
    go_ret
    exact ⟨ret_int HZ.out.symm, (Ext.refl w).alloc _⟩
  · have hp := limbs_pos h0
    have HZ := Lib.hid (cmpZ_sgn_pos s h0)
    have hbe : (((limbs n).length : Int) == 0) = false := by rw [beq_eq_false_iff_ne]; omega
    cases s
    · go_enter Tryz.func175, Tryz.ntmps175
      go_wp2
      go_ret
      exact ⟨ret_int (by rw [H5.out, HZ.out]; rfl), (Ext.refl w).alloc _⟩
    · go_enter Tryz.func175, Tryz.ntmps175
      go_wp2
      go_ret
      exact ⟨ret_int (by rw [H5.out, HZ.out]; rfl), (Ext.refl w).alloc _⟩

theorem boxes2 (w : World) (u0 u1 v0 v1 : Value) (t : TypeId) : ∃ W, ((w.alloc (.cells #[u0, u1] t)).alloc (.cells #[v0, v1] t)) = W ∧ Ext w W ∧ W.heap.size = w.heap.size + 2 ∧
    W.cell? ⟨w.heap.size, 0, none⟩ = some u0 ∧ W.cell? ⟨w.heap.size, 1, none⟩ = some u1 ∧ W.cell? ⟨w.heap.size + 1, 0, none⟩ = some v0 ∧ W.cell? ⟨w.heap.size + 1, 1, none⟩ = some v1 := by
  refine ⟨_, rfl, ((Ext.refl w).alloc _).alloc _, by simp, ?_, ?_, ?_, ?_⟩
  · rw [World.cell?_alloc_lt _ _ _ (by simp)]; simp
  · rw [World.cell?_alloc_lt _ _ _ (by simp)]; simp
  · have := World.cell?_alloc_new (w.alloc (.cells #[u0, u1] t)) #[v0, v1] t 0
    rw [World.size_alloc] at this; exact this
  · have := World.cell?_alloc_new (w.alloc (.cells #[u0, u1] t)) #[v0, v1] t 1
    rw [World.size_alloc] at this; exact this
theorem Ext.of_drew {a w : World} (h : Ext a.drew w) : Ext a w := ⟨h.os, h.tape, h.output, h.size, h.block⟩

theorem z2q (a b : Int) : (a < b ∧ cmpZ a b = -1) ∨ (a = b ∧ cmpZ a b = 0) ∨ (b < a ∧ cmpZ a b = 1) := by
  rcases Int.lt_trichotomy a b with h | h | h
  · exact .inl ⟨h, cmpZ_lt h⟩
  · exact .inr (.inl ⟨h, cmpZ_eq h⟩)
  · exact .inr (.inr ⟨h, cmpZ_gt h⟩)
theorem cmpZ_neg (a b : Int) : cmpZ (-a) (-b) = cmpZ b a := by
  have := z2q (-a) (-b)
  have := z2q b a
  omega
theorem cmpZ_signs_ne (a b : Int) (h : cmpZ (cmpZ a 0) (cmpZ b 0) ≠ 0) : cmpZ a b = cmpZ (cmpZ a 0) (cmpZ b 0) := by
  have h1 := z2q a 0
  have h2 := z2q b 0
  have h3 := z2q (cmpZ a 0) (cmpZ b 0)
  have h4 := z2q a b
  generalize cmpZ a b = y at *
  generalize cmpZ (cmpZ a 0) (cmpZ b 0) = x at *
  generalize cmpZ a 0 = u at *
  generalize cmpZ b 0 = v at *
  omega
theorem cmpZ_signs_eq {s s' : Bool} {n n' : Nat} (h1 : s = true → 0 < n) (h2 : s' = true → 0 < n') (h : cmpZ (cmpZ (sgn s n) 0) (cmpZ (sgn s' n') 0) = 0) :
    s = s' := by
  have e1 : s = true → cmpZ (sgn s n) 0 = -1 := by
    rintro rfl; have := h1 rfl; exact cmpZ_lt (by unfold sgn; simp; omega)
  have e2 : s' = true → cmpZ (sgn s' n') 0 = -1 := by
    rintro rfl; have := h2 rfl; exact cmpZ_lt (by unfold sgn; simp; omega)
  have e3 : s = false → cmpZ (sgn s n) 0 ≠ -1 := by
    rintro rfl; have := z2q (sgn false n) 0; have : sgn false n = n := rfl; omega
  have e4 : s' = false → cmpZ (sgn s' n') 0 ≠ -1 := by
    rintro rfl; have := z2q (sgn false n') 0; have : sgn false n' = n' := rfl; omega
  have h3 := z2q (cmpZ (sgn s n) 0) (cmpZ (sgn s' n') 0)
  have he : cmpZ (sgn s n) 0 = cmpZ (sgn s' n') 0 := by omega
  cases s <;> cases s' <;> first | rfl | (exfalso; have := e1 rfl; have := e4 rfl; omega) | (exfalso; have := e3 rfl; have := e2 rfl; omega)

set_option maxHeartbeats 400000 in
theorem cmp_calls (w : World) (v1 v2 : Value) (z1 z2 : Int) (h : IsInt w v1 z1) (k : IsInt w v2 z2) :
    Calls Tryz.prog 171 #[v1, v2] w fun e w' => e = .returned (.int .i64 (cmpZ z1 z2)) ∧ Ext w w' := by
  obtain ⟨ao, cap, s, n, rfl, h1, h2, h3, H4, H5, H6⟩ := h.open_
  obtain ⟨ao', cap', s', n', rfl, k1, k2, k3, K4, K5, K6⟩ := k.open_
  obtain ⟨W, hW, eW, hz, c0, c1, d0, d1⟩ := boxes2 w (.bool s) (.slice ao (limbs n).length cap) (.bool s') (.slice ao' (limbs n').length cap') 24
  have HZ := Lib.hid hz
  clear hz
  by_cases hc : cmpZ (cmpZ z1 0) (cmpZ z2 0) = 0
  · obtain rfl : s = s' := cmpZ_signs_eq H6.out K6.out (by rw [← H5.out, ← K5.out]; exact hc)
    have hb : (cmpZ (cmpZ z1 0) (cmpZ z2 0) != 0) = false := by rw [hc]; rfl
    have HC := Lib.hid hc
    clear hc
    go_enter Tryz.func171, Tryz.ntmps171
    go_wp2_with fail
    clear hW
    go_region_held3 (fun w' => w'.cell? ⟨w.heap.size, 0, none⟩ = some (.bool s) ∧ w'.cell? ⟨w.heap.size, 1, none⟩ = some (.slice ao (limbs n).length cap) ∧ w'.cell? ⟨w.heap.size + 1, 0, none⟩ = some (.bool s) ∧ w'.cell? ⟨w.heap.size + 1, 1, none⟩ = some (.slice ao' (limbs n').length cap'))
      (go_keep) ((first
        | (go_at_call 175; ((with_reducible refine (sign_calls _ _ z1 (h.ext eW.drew)).mono ?_)); rintro e w1 ⟨rfl, e1⟩; have c01 := e1.of_drew.cell c0; have c11 := e1.of_drew.cell c1; have d01 := e1.of_drew.cell d0; have d11 := e1.of_drew.cell d1)
        | (go_at_call 175; ((with_reducible refine (sign_calls _ _ z2 (k.ext (eW.trans e1.of_drew))).mono ?_)); rintro e w2 ⟨rfl, e2⟩; have c02 := e2.cell c01; have c12 := e2.cell c11; have d02 := e2.cell d01; have d12 := e2.cell d11)
        | (go_at_call 218; refine (cmpInt_calls _ _ _).mono ?_; rintro e w3 ⟨rfl, rfl⟩)))
    have eX := (eW.trans e1.of_drew).trans e2
    cases s
    · go_wp2_with fail
      refine (compareLimbs_calls _ _ _ n n' _ _ (by omega) (by omega) (h3.ext eX) (k3.ext eX)).mono ?_
      rintro e w3 ⟨rfl, j, rfl⟩
      go_wp2
      go_ret
      exact ⟨ret_int (by rw [H5.out, K5.out]; rfl), eX.drewN j⟩
    · go_wp2_with fail
      refine (compareLimbs_calls _ _ _ n' n _ _ (by omega) (by omega) (k3.ext eX) (h3.ext eX)).mono ?_
      rintro e w3 ⟨rfl, j, rfl⟩
      go_wp2
      go_ret
      exact ⟨ret_int (by rw [H5.out, K5.out]; exact (cmpZ_neg _ _).symm), eX.drewN j⟩
  · have hb : (cmpZ (cmpZ z1 0) (cmpZ z2 0) != 0) = true := by rw [bne_iff_ne]; exact hc
    have HF := Lib.hid (cmpZ_signs_ne z1 z2 hc)
    clear hc
    go_enter Tryz.func171, Tryz.ntmps171
    go_wp2_with fail
    clear hW
    go_region_held3 (fun w' => w'.cell? ⟨w.heap.size, 0, none⟩ = some (.bool s) ∧ w'.cell? ⟨w.heap.size, 1, none⟩ = some (.slice ao (limbs n).length cap) ∧ w'.cell? ⟨w.heap.size + 1, 0, none⟩ = some (.bool s') ∧ w'.cell? ⟨w.heap.size + 1, 1, none⟩ = some (.slice ao' (limbs n').length cap'))
      (go_keep) ((first
        | (go_at_call 175; ((with_reducible refine (sign_calls _ _ z1 (h.ext eW.drew)).mono ?_)); rintro e w1 ⟨rfl, e1⟩; have c01 := e1.of_drew.cell c0; have c11 := e1.of_drew.cell c1; have d01 := e1.of_drew.cell d0; have d11 := e1.of_drew.cell d1)
        | (go_at_call 175; ((with_reducible refine (sign_calls _ _ z2 (k.ext (eW.trans e1.of_drew))).mono ?_)); rintro e w2 ⟨rfl, e2⟩; have c02 := e2.cell c01; have c12 := e2.cell c11; have d02 := e2.cell d01; have d12 := e2.cell d11)
        | (go_at_call 218; refine (cmpInt_calls _ _ _).mono ?_; rintro e w3 ⟨rfl, rfl⟩)))
    have eX := (eW.trans e1.of_drew).trans e2
    go_wp2
    go_ret
    exact ⟨ret_int HF.out.symm, eX⟩

set_option maxHeartbeats 400000 in
theorem rsign_calls (w : World) (v : Value) (z : Int) (h : IsInt w v z) :
    Calls Tryz.prog 86 #[v] w fun e w' => e = .returned (.int .i64 (cmpZ z 0)) ∧ Ext w w' := by
  obtain ⟨ao, cap, s, n, rfl, h1, h2, h3, H4, H5, H6⟩ := h.open_
  clear h h3
  rcases Nat.eq_zero_or_pos n with h0 | h0
  · have HZ : Hid (cmpZ z 0 = 0) := by
      unfold Hid; rw [H5.out, h0, sgn_zero]; rfl
    subst h0
    go_enter Tryz.func86, Tryz.ntmps86
    rw [limbs_zero]
    go_wp2
    go_ret
    exact ⟨ret_int HZ.out.symm, (Ext.refl w).alloc _⟩
  · have hp := limbs_pos h0
    have HZ := Lib.hid (cmpZ_sgn_pos s h0)
    have hbe : (((limbs n).length : Int) == 0) = false := by rw [beq_eq_false_iff_ne]; omega
    cases s
    · go_enter Tryz.func86, Tryz.ntmps86
      go_wp2
      go_ret
      exact ⟨ret_int (by rw [H5.out, HZ.out]; rfl), (Ext.refl w).alloc _⟩
    · go_enter Tryz.func86, Tryz.ntmps86
      go_wp2
      go_ret
      exact ⟨ret_int (by rw [H5.out, HZ.out]; rfl), (Ext.refl w).alloc _⟩


set_option maxHeartbeats 400000 in
theorem rcmp_calls (w : World) (v1 v2 : Value) (z1 z2 : Int) (h : IsInt w v1 z1) (k : IsInt w v2 z2) :
    Calls Tryz.prog 95 #[v1, v2] w fun e w' => e = .returned (.int .i64 (cmpZ z1 z2)) ∧ Ext w w' := by
  obtain ⟨ao, cap, s, n, rfl, h1, h2, h3, H4, H5, H6⟩ := h.open_
  obtain ⟨ao', cap', s', n', rfl, k1, k2, k3, K4, K5, K6⟩ := k.open_
  obtain ⟨W, hW, eW, hz, c0, c1, d0, d1⟩ := boxes2 w (.bool s) (.slice ao (limbs n).length cap) (.bool s') (.slice ao' (limbs n').length cap') 24
  clear hz
  cases s <;> cases s'
  · go_enter Tryz.func95, Tryz.ntmps95
    go_wp2_with fail
    refine (rcompare_calls _ _ _ n n' _ _ (by omega) (by omega) (h3.ext eW) (k3.ext eW)).mono ?_
    rintro e w3 ⟨rfl, j, rfl⟩
    go_wp2
    go_ret
    exact ⟨ret_int (by rw [H5.out, K5.out]; rfl), eW.drewN j⟩
  · have HF := Lib.hid (cmpZ_gt (show z2 < z1 by have := K6.out rfl; rw [H5.out, K5.out]; simp [sgn]; omega))
    go_enter Tryz.func95, Tryz.ntmps95
    go_wp2
    go_ret
    exact ⟨ret_int HF.out.symm, eW⟩
  · have HF := Lib.hid (cmpZ_lt (show z1 < z2 by have := H6.out rfl; rw [H5.out, K5.out]; simp [sgn]; omega))
    go_enter Tryz.func95, Tryz.ntmps95
    go_wp2
    go_ret
    exact ⟨ret_int HF.out.symm, eW⟩
  · go_enter Tryz.func95, Tryz.ntmps95
    go_wp2_with fail
    refine (rcompare_calls _ _ _ n' n _ _ (by omega) (by omega) (k3.ext eW) (h3.ext eW)).mono ?_
    rintro e w3 ⟨rfl, j, rfl⟩
    go_wp2
    go_ret
    exact ⟨ret_int (by rw [H5.out, K5.out]; exact (cmpZ_neg _ _).symm), eW.drewN j⟩

theorem ret_bool {a b : Bool} (h : a = b) : Ending.returned (.bool a) = .returned (.bool b) := by rw [h]

set_option maxHeartbeats 400000 in
theorem rsame_calls (w : World) (v1 v2 : Value) (z1 z2 : Int) (h : IsInt w v1 z1) (k : IsInt w v2 z2) :
    Calls Tryz.prog 87 #[v1, v2] w fun e w' => e = .returned (.bool (decide (z1 = z2))) ∧ Ext w w' := by
  obtain ⟨ao, cap, s, n, rfl, h1, h2, h3, H4, H5, H6⟩ := h.open_
  obtain ⟨ao', cap', s', n', rfl, k1, k2, k3, K4, K5, K6⟩ := k.open_
  obtain ⟨W, hW, eW, hz, c0, c1, d0, d1⟩ := boxes2 w (.bool s) (.slice ao (limbs n).length cap) (.bool s') (.slice ao' (limbs n').length cap') 24
  clear hz
  by_cases hs : s = s'
  · subst hs
    have HF : Hid ((cmpZ n n' == 0) = decide (z1 = z2)) := by
      unfold Hid
      rw [H5.out, K5.out, Bool.eq_iff_iff, beq_iff_eq, decide_eq_true_iff]
      have := z2q n n'
      unfold sgn
      split <;> omega
    cases s
    · go_enter Tryz.func87, Tryz.ntmps87
      go_wp2_with fail
      refine (rcompare_calls _ _ _ n n' _ _ (by omega) (by omega) (h3.ext eW) (k3.ext eW)).mono ?_
      rintro e w3 ⟨rfl, j, rfl⟩
      go_wp2
      go_ret
      exact ⟨ret_bool HF.out, eW.drewN j⟩
    · go_enter Tryz.func87, Tryz.ntmps87
      go_wp2_with fail
      refine (rcompare_calls _ _ _ n n' _ _ (by omega) (by omega) (h3.ext eW) (k3.ext eW)).mono ?_
      rintro e w3 ⟨rfl, j, rfl⟩
      go_wp2
      go_ret
      exact ⟨ret_bool HF.out, eW.drewN j⟩
  · have HF : Hid (decide (z1 = z2) = false) := by
      unfold Hid
      rw [H5.out, K5.out, decide_eq_false_iff_not]
      have a1 := H6.out
      have a2 := K6.out
      cases s <;> cases s' <;> simp_all [sgn] <;> omega
    cases s <;> cases s'
    · exact absurd rfl hs
    · go_enter Tryz.func87, Tryz.ntmps87
      go_wp2
      go_ret
      exact ⟨ret_bool HF.out.symm, eW⟩
    · go_enter Tryz.func87, Tryz.ntmps87
      go_wp2
      go_ret
      exact ⟨ret_bool HF.out.symm, eW⟩
    · exact absurd rfl hs

end Go.Proofs.YtifeacfljfmnpaaGreat
end

section
set_option maxRecDepth 100000
namespace Go.Proofs.YtifeacfljfmnpaaGreat
open Go.RowKit
theorem info_u32 : (Tryz.prog.info? 149).map (fun i => (i.zero, i.size, i.bytes)) = some (some (.int .u32 0), 1, 4) := by kernel_rfl
theorem run_mk (n : Nat) (hn : n ≤ 70368744177664) (N : Int) (hN : N = n) (w : World) :
    (Instr.makeSlice 22 (.int .i64 N) (.int .i64 N)).run Tryz.prog w = .ok (.slice (some ⟨w.heap.size, 0, none⟩) n n) (w.alloc (.cells (u32s (List.replicate n 0)) 149)) := by
  subst hN
  rw [← madeCells_u32]
  exact run_make_row' 22 149 (.int .u32 0) 4 Tryz.underlying22 info_u32 rfl .i64 .i64 n (by omega) (by omega) w

theorem val_take_succ' (xs : List Nat) (k : Nat) : val (xs.take (k + 1)) = val (xs.take k) + 1000000000 ^ k * xs.getD k 0 := by
  by_cases h : k < xs.length
  · exact val_take_succ xs k h
  · rw [List.take_of_length_le (by omega), List.take_of_length_le (by omega), List.getD_eq_getElem?_getD, List.getElem?_eq_none (by omega)]; simp
theorem take_set (zs : List Nat) (k d : Nat) (h : k < zs.length) : (zs.set k d).take (k + 1) = zs.take k ++ [d] := by
  rw [take_succ_getD _ _ (by simpa using h)]
  congr 1
  · rw [List.take_set_of_le (Nat.le_refl k)]
  · simp [List.getD_eq_getElem?_getD, h]
theorem val_take_set (zs : List Nat) (k d : Nat) (h : k < zs.length) : val ((zs.set k d).take (k + 1)) = val (zs.take k) + 1000000000 ^ k * d := by
  rw [take_set zs k d h, val_append, List.length_take, Nat.min_eq_left (by omega)]
  simp [val]

theorem Blk.set' {w : World} {g : Nat} {xs : List Nat} (h : Blk w g xs) (i d : Nat) (hi : i < xs.length) {V : Int} (hV : V = d) : Blk (w.setCell ⟨g, i, none⟩ (.int .u32 V)) g (xs.set i d) := by
  subst hV; exact h.set i d hi

def AddRel (w : World) (g : Nat) (xs ys : List Nat) (k cv : Nat) (zs : List Nat) (wr : World) : Prop :=
  zs.length = xs.length + 1 ∧ Dig zs ∧ Blk wr g zs ∧ Ext w wr ∧ val (zs.take k) + 1000000000 ^ k * cv = val (xs.take k) + val (ys.take k)
theorem AddRel.step {w : World} {g : Nat} {xs ys : List Nat} {k cv : Nat} {zs : List Nat} {wr : World} (h : AddRel w g xs ys k cv zs wr) (hg : w.heap.size ≤ g) (hk : k < xs.length)
    (d cv' : Nat) (hd : d < 1000000000) (he : xs.getD k 0 + cv + ys.getD k 0 = d + 1000000000 * cv') {V : Int} (hV : V = d) :
    AddRel w g xs ys (k + 1) cv' (zs.set k d) (wr.setCell ⟨g, k, none⟩ (.int .u32 V)) := by
  obtain ⟨h1, h2, h3, h4, h5⟩ := h
  refine ⟨by simpa using h1, h2.set k hd, h3.set' k d (by omega) hV, h4.setCell (p := ⟨g, k, none⟩) hg _, ?_⟩
  rw [val_take_set _ _ _ (by omega), val_take_succ', val_take_succ' ys, Nat.pow_succ]
  generalize 1000000000 ^ k = p at *
  have e : p * (xs.getD k 0) + p * cv + p * (ys.getD k 0) = p * d + p * 1000000000 * cv' := by
    rw [← Nat.mul_add, ← Nat.mul_add, he, Nat.mul_add, Nat.mul_assoc]
  omega
theorem AddRel.done {w : World} {g : Nat} {xs ys : List Nat} {k cv : Nat} {zs : List Nat} {wr : World} (h : AddRel w g xs ys k cv zs wr) (hg : w.heap.size ≤ g) (hk : k = xs.length) (hy : ys.length ≤ xs.length) (hc : cv ≤ 1) :
    ∃ rs : List Nat, rs.length = xs.length + 1 ∧ Dig rs ∧ Blk (wr.setCell ⟨g, xs.length, none⟩ (.int .u32 cv)) g rs ∧ Ext w (wr.setCell ⟨g, xs.length, none⟩ (.int .u32 cv)) ∧ val rs = val xs + val ys := by
  subst hk
  obtain ⟨h1, h2, h3, h4, h5⟩ := h
  refine ⟨zs.set xs.length cv, by simpa using h1, h2.set _ (by omega), h3.set' _ cv (by omega) rfl, h4.setCell (p := ⟨g, xs.length, none⟩) hg _, ?_⟩
  have := val_take_set zs xs.length cv (by omega)
  rw [List.take_of_length_le (by simp; omega)] at this
  rw [this, h5, List.take_of_length_le (Nat.le_refl _), List.take_of_length_le hy]

set_option maxRecDepth 100000 in
set_option maxHeartbeats 800000 in
theorem addLimbs_calls (w : World) (ax ay : Option Addr) (xs ys : List Nat) (cx cy : Nat) (lx : xs.length ≤ 1099511627776) (ly : ys.length ≤ 1099511627776) (hx : Cells w ax xs) (hy : Cells w ay ys) (dx : Dig xs) (dy : Dig ys) :
    Calls Tryz.prog 242 #[.slice ax xs.length cx, .slice ay ys.length cy] w (Ret (IsLimbs (val xs + val ys)) w) := by
  by_cases hlt : xs.length < ys.length
  · have hmk := run_mk (ys.length + 1) (by omega) (↑ys.length + 1) (by omega)
    go_enter Tryz.func242, Tryz.ntmps242
    go_wp2
    clear hmk
    have h0 : AddRel w w.heap.size ys xs 0 0 (List.replicate (ys.length + 1) 0) (w.alloc (.cells (u32s (List.replicate (ys.length + 1) 0)) 149)) :=
      ⟨by simp, Dig.replicate _, Blk.new _ _, (Ext.refl w).alloc _, by simp [val]⟩
    go_loopw [6, 7, 8, 22] (fun c _ _ n wr => ∃ (k cv : Nat) (zs : List Nat), k ≤ ys.length ∧ n = .int .i64 k ∧ c = .int .u32 cv ∧ cv ≤ 1 ∧ AddRel w w.heap.size ys xs k cv zs wr) (fun _ _ _ n _ => ys.length - (intOf n).toNat)
    case atStart => exact ⟨0, 0, _, Nat.zero_le _, rfl, rfl, by omega, h0⟩
    case round =>
      obtain ⟨k, cv, zs, hk, rfl, rfl, hcv, hR⟩ := hrel
      clear h0
      by_cases hk2 : k < ys.length
      · have hzc := hR.2.2.1.cell k (by have := hR.1; omega)
        have hzf := hR.2.2.1.frozen k
        obtain ⟨b1, o1, rfl, hx1⟩ := hy.at_ (by omega)
        have hcx := hR.2.2.2.1.cell (hx1 k hk2)
        have bx0 := dy k
        have by0 := dx k
        have hst := fun d cv' hd he V hV => hR.step (Nat.le_refl _) hk2 d cv' hd he (V := V) hV
        have HST := Lib.hid hst
        clear hst hx1
        by_cases hk3 : k < xs.length
        · obtain ⟨b2, o2, rfl, hy1⟩ := hx.at_ (by omega)
          have hcy := hR.2.2.2.1.cell (hy1 k hk3)
          clear hy1
          generalize ys.getD k 0 = x at *
          generalize xs.getD k 0 = y at *
          have bx : (x : Int) < 1000000000 := by omega
          have by_ : (y : Int) < 1000000000 := by omega
          clear bx0 by0
          by_cases hb : (1000000000 : Int) ≤ x + cv + y
          · go_wp2
            go_roundw
            case rel => exact ⟨k + 1, 1, _, by omega, by go_num, by go_num, by omega, HST.out (x + cv + y - 1000000000) 1 (by omega) (by omega) _ (by omega)⟩
            case measure => simp [intOf]; omega
          · go_wp2
            go_roundw
            case rel => exact ⟨k + 1, 0, _, by omega, by go_num, by go_num, by omega, HST.out (x + cv + y) 0 (by omega) (by omega) _ (by omega)⟩
            case measure => simp [intOf]; omega
        · have hy0 : xs.getD k 0 = 0 := by rw [List.getD_eq_getElem?_getD, List.getElem?_eq_none (by omega)]; rfl
          rw [hy0] at HST
          clear hy0 by0
          generalize ys.getD k 0 = x at *
          have bx : (x : Int) < 1000000000 := by omega
          clear bx0
          by_cases hb : (1000000000 : Int) ≤ x + cv
          · go_wp2
            go_roundw
            case rel => exact ⟨k + 1, 1, _, by omega, by go_num, by go_num, by omega, HST.out (x + cv - 1000000000) 1 (by omega) (by omega) _ (by omega)⟩
            case measure => simp [intOf]; omega
          · go_wp2
            go_roundw
            case rel => exact ⟨k + 1, 0, _, by omega, by go_num, by go_num, by omega, HST.out (x + cv) 0 (by omega) (by omega) _ (by omega)⟩
            case measure => simp [intOf]; omega
      · obtain ⟨rs, r1, r2, r3, r4, r5⟩ := hR.done (Nat.le_refl _) (by omega) (by omega) hcv
        have hzc := hR.2.2.1.cell ys.length (by have := hR.1; omega)
        have hzf := hR.2.2.1.frozen ys.length
        have R1 := Lib.hid r1
        have R5 := Lib.hid r5
        clear r1 r5
        go_wp2_with fail
        rw [← R1.out]
        refine (trim_calls _ _ _ _ (Nat.le_refl _) (by rw [R1.out]; omega) r3.cells r2).mono ?_
        rintro e w' ⟨rfl, rfl⟩
        go_wp2
        go_ret
        exact ⟨_, rfl, by rw [Nat.add_comm, ← R5.out]; exact ⟨_, _, rfl, by rw [R1.out, ← trimN_length r2, ← R1.out]; exact trimN_le _ _, by rw [R1.out]; omega, r3.cells.trim r2⟩, r4⟩
  · have hmk := run_mk (xs.length + 1) (by omega) (↑xs.length + 1) (by omega)
    go_enter Tryz.func242, Tryz.ntmps242
    go_wp2
    clear hmk
    have h0 : AddRel w w.heap.size xs ys 0 0 (List.replicate (xs.length + 1) 0) (w.alloc (.cells (u32s (List.replicate (xs.length + 1) 0)) 149)) :=
      ⟨by simp, Dig.replicate _, Blk.new _ _, (Ext.refl w).alloc _, by simp [val]⟩
    go_loopw [6, 7, 8, 22] (fun c _ _ n wr => ∃ (k cv : Nat) (zs : List Nat), k ≤ xs.length ∧ n = .int .i64 k ∧ c = .int .u32 cv ∧ cv ≤ 1 ∧ AddRel w w.heap.size xs ys k cv zs wr) (fun _ _ _ n _ => xs.length - (intOf n).toNat)
    case atStart => exact ⟨0, 0, _, Nat.zero_le _, rfl, rfl, by omega, h0⟩
    case round =>
      obtain ⟨k, cv, zs, hk, rfl, rfl, hcv, hR⟩ := hrel
      clear h0
      by_cases hk2 : k < xs.length
      · have hzc := hR.2.2.1.cell k (by have := hR.1; omega)
        have hzf := hR.2.2.1.frozen k
        obtain ⟨b1, o1, rfl, hx1⟩ := hx.at_ (by omega)
        have hcx := hR.2.2.2.1.cell (hx1 k hk2)
        have bx0 := dx k
        have by0 := dy k
        have hst := fun d cv' hd he V hV => hR.step (Nat.le_refl _) hk2 d cv' hd he (V := V) hV
        have HST := Lib.hid hst
        clear hst hx1
        by_cases hk3 : k < ys.length
        · obtain ⟨b2, o2, rfl, hy1⟩ := hy.at_ (by omega)
          have hcy := hR.2.2.2.1.cell (hy1 k hk3)
          clear hy1
          generalize xs.getD k 0 = x at *
          generalize ys.getD k 0 = y at *
          have bx : (x : Int) < 1000000000 := by omega
          have by_ : (y : Int) < 1000000000 := by omega
          clear bx0 by0
          by_cases hb : (1000000000 : Int) ≤ x + cv + y
          · go_wp2
            go_roundw
            case rel => exact ⟨k + 1, 1, _, by omega, by go_num, by go_num, by omega, HST.out (x + cv + y - 1000000000) 1 (by omega) (by omega) _ (by omega)⟩
            case measure => simp [intOf]; omega
          · go_wp2
            go_roundw
            case rel => exact ⟨k + 1, 0, _, by omega, by go_num, by go_num, by omega, HST.out (x + cv + y) 0 (by omega) (by omega) _ (by omega)⟩
            case measure => simp [intOf]; omega
        · have hy0 : ys.getD k 0 = 0 := by rw [List.getD_eq_getElem?_getD, List.getElem?_eq_none (by omega)]; rfl
          rw [hy0] at HST
          clear hy0 by0
          generalize xs.getD k 0 = x at *
          have bx : (x : Int) < 1000000000 := by omega
          clear bx0
          by_cases hb : (1000000000 : Int) ≤ x + cv
          · go_wp2
            go_roundw
            case rel => exact ⟨k + 1, 1, _, by omega, by go_num, by go_num, by omega, HST.out (x + cv - 1000000000) 1 (by omega) (by omega) _ (by omega)⟩
            case measure => simp [intOf]; omega
          · go_wp2
            go_roundw
            case rel => exact ⟨k + 1, 0, _, by omega, by go_num, by go_num, by omega, HST.out (x + cv) 0 (by omega) (by omega) _ (by omega)⟩
            case measure => simp [intOf]; omega
      · obtain ⟨rs, r1, r2, r3, r4, r5⟩ := hR.done (Nat.le_refl _) (by omega) (by omega) hcv
        have hzc := hR.2.2.1.cell xs.length (by have := hR.1; omega)
        have hzf := hR.2.2.1.frozen xs.length
        have R1 := Lib.hid r1
        have R5 := Lib.hid r5
        clear r1 r5
        go_wp2_with fail
        rw [← R1.out]
        refine (trim_calls _ _ _ _ (Nat.le_refl _) (by rw [R1.out]; omega) r3.cells r2).mono ?_
        rintro e w' ⟨rfl, rfl⟩
        go_wp2
        go_ret
        exact ⟨_, rfl, by rw [← R5.out]; exact ⟨_, _, rfl, by rw [R1.out, ← trimN_length r2, ← R1.out]; exact trimN_le _ _, by rw [R1.out]; omega, r3.cells.trim r2⟩, r4⟩

end Go.Proofs.YtifeacfljfmnpaaGreat
end

section
set_option maxRecDepth 100000
namespace Go.Proofs.YtifeacfljfmnpaaGreat
open Go.RowKit
set_option maxRecDepth 100000 in
set_option maxHeartbeats 800000 in
theorem plus_calls (w : World) (ax ay : Option Addr) (xs ys : List Nat) (cx cy : Nat) (lx : xs.length ≤ 1099511627776) (ly : ys.length ≤ 1099511627776) (hx : Cells w ax xs) (hy : Cells w ay ys) (dx : Dig xs) (dy : Dig ys) :
    Calls Tryz.prog 166 #[.slice ax xs.length cx, .slice ay ys.length cy] w (Ret (IsLimbs (val xs + val ys)) w) := by
  by_cases hlt : xs.length < ys.length
  · have hmk := run_mk (ys.length + 1) (by omega) (↑ys.length + 1) (by omega)
    go_enter Tryz.func166, Tryz.ntmps166
    go_wp2
    clear hmk
    have h0 : AddRel w w.heap.size ys xs 0 0 (List.replicate (ys.length + 1) 0) (w.alloc (.cells (u32s (List.replicate (ys.length + 1) 0)) 149)) :=
      ⟨by simp, Dig.replicate _, Blk.new _ _, (Ext.refl w).alloc _, by simp [val]⟩
    go_loopw [6, 7] (fun c n wr => ∃ (k cv : Nat) (zs : List Nat), k ≤ ys.length ∧ n = .int .i64 k ∧ c = .int .u32 cv ∧ cv ≤ 1 ∧ AddRel w w.heap.size ys xs k cv zs wr) (fun _ n _ => ys.length - (intOf n).toNat)
    case atStart => exact ⟨0, 0, _, Nat.zero_le _, rfl, rfl, by omega, h0⟩
    case round =>
      obtain ⟨k, cv, zs, hk, rfl, rfl, hcv, hR⟩ := hrel
      clear h0
      by_cases hk2 : k < ys.length
      · have hzc := hR.2.2.1.cell k (by have := hR.1; omega)
        have hzf := hR.2.2.1.frozen k
        obtain ⟨b1, o1, rfl, hx1⟩ := hy.at_ (by omega)
        have hcx := hR.2.2.2.1.cell (hx1 k hk2)
        have bx0 := dy k
        have by0 := dx k
        have hst := fun d cv' hd he V hV => hR.step (Nat.le_refl _) hk2 d cv' hd he (V := V) hV
        have HST := Lib.hid hst
        clear hst hx1
        by_cases hk3 : k < xs.length
        · obtain ⟨b2, o2, rfl, hy1⟩ := hx.at_ (by omega)
          have hcy := hR.2.2.2.1.cell (hy1 k hk3)
          clear hy1
          generalize ys.getD k 0 = x at *
          generalize xs.getD k 0 = y at *
          have bx : (x : Int) < 1000000000 := by omega
          have by_ : (y : Int) < 1000000000 := by omega
          clear bx0 by0
          go_wp2
          go_roundw
          case rel => exact ⟨k + 1, (cv + x + y) / 1000000000, _, by omega, by go_num, by go_num, by omega, HST.out ((cv + x + y) % 1000000000) _ (by omega) (by omega) _ (by omega)⟩
          case measure => simp [intOf]; omega
        · have hy0 : xs.getD k 0 = 0 := by rw [List.getD_eq_getElem?_getD, List.getElem?_eq_none (by omega)]; rfl
          rw [hy0] at HST
          clear hy0 by0
          generalize ys.getD k 0 = x at *
          have bx : (x : Int) < 1000000000 := by omega
          clear bx0
          go_wp2
          go_roundw
          case rel => exact ⟨k + 1, (cv + x) / 1000000000, _, by omega, by go_num, by go_num, by omega, HST.out ((cv + x) % 1000000000) _ (by omega) (by omega) _ (by omega)⟩
          case measure => simp [intOf]; omega
      · obtain ⟨rs, r1, r2, r3, r4, r5⟩ := hR.done (Nat.le_refl _) (by omega) (by omega) hcv
        have hzc := hR.2.2.1.cell ys.length (by have := hR.1; omega)
        have hzf := hR.2.2.1.frozen ys.length
        have R1 := Lib.hid r1
        have R5 := Lib.hid r5
        clear r1 r5
        go_wp2_with fail
        rw [← R1.out]
        refine (rtrim_calls _ _ _ _ (Nat.le_refl _) (by rw [R1.out]; omega) r3.cells r2).mono ?_
        rintro e w' ⟨rfl, rfl⟩
        go_wp2
        go_ret
        exact ⟨_, rfl, by rw [Nat.add_comm, ← R5.out]; exact ⟨_, _, rfl, by rw [R1.out, ← trimN_length r2, ← R1.out]; exact trimN_le _ _, by rw [R1.out]; omega, r3.cells.trim r2⟩, r4⟩
  · have hmk := run_mk (xs.length + 1) (by omega) (↑xs.length + 1) (by omega)
    go_enter Tryz.func166, Tryz.ntmps166
    go_wp2
    clear hmk
    have h0 : AddRel w w.heap.size xs ys 0 0 (List.replicate (xs.length + 1) 0) (w.alloc (.cells (u32s (List.replicate (xs.length + 1) 0)) 149)) :=
      ⟨by simp, Dig.replicate _, Blk.new _ _, (Ext.refl w).alloc _, by simp [val]⟩
    go_loopw [6, 7] (fun c n wr => ∃ (k cv : Nat) (zs : List Nat), k ≤ xs.length ∧ n = .int .i64 k ∧ c = .int .u32 cv ∧ cv ≤ 1 ∧ AddRel w w.heap.size xs ys k cv zs wr) (fun _ n _ => xs.length - (intOf n).toNat)
    case atStart => exact ⟨0, 0, _, Nat.zero_le _, rfl, rfl, by omega, h0⟩
    case round =>
      obtain ⟨k, cv, zs, hk, rfl, rfl, hcv, hR⟩ := hrel
      clear h0
      by_cases hk2 : k < xs.length
      · have hzc := hR.2.2.1.cell k (by have := hR.1; omega)
        have hzf := hR.2.2.1.frozen k
        obtain ⟨b1, o1, rfl, hx1⟩ := hx.at_ (by omega)
        have hcx := hR.2.2.2.1.cell (hx1 k hk2)
        have bx0 := dx k
        have by0 := dy k
        have hst := fun d cv' hd he V hV => hR.step (Nat.le_refl _) hk2 d cv' hd he (V := V) hV
        have HST := Lib.hid hst
        clear hst hx1
        by_cases hk3 : k < ys.length
        · obtain ⟨b2, o2, rfl, hy1⟩ := hy.at_ (by omega)
          have hcy := hR.2.2.2.1.cell (hy1 k hk3)
          clear hy1
          generalize xs.getD k 0 = x at *
          generalize ys.getD k 0 = y at *
          have bx : (x : Int) < 1000000000 := by omega
          have by_ : (y : Int) < 1000000000 := by omega
          clear bx0 by0
          go_wp2
          go_roundw
          case rel => exact ⟨k + 1, (cv + x + y) / 1000000000, _, by omega, by go_num, by go_num, by omega, HST.out ((cv + x + y) % 1000000000) _ (by omega) (by omega) _ (by omega)⟩
          case measure => simp [intOf]; omega
        · have hy0 : ys.getD k 0 = 0 := by rw [List.getD_eq_getElem?_getD, List.getElem?_eq_none (by omega)]; rfl
          rw [hy0] at HST
          clear hy0 by0
          generalize xs.getD k 0 = x at *
          have bx : (x : Int) < 1000000000 := by omega
          clear bx0
          go_wp2
          go_roundw
          case rel => exact ⟨k + 1, (cv + x) / 1000000000, _, by omega, by go_num, by go_num, by omega, HST.out ((cv + x) % 1000000000) _ (by omega) (by omega) _ (by omega)⟩
          case measure => simp [intOf]; omega
      · obtain ⟨rs, r1, r2, r3, r4, r5⟩ := hR.done (Nat.le_refl _) (by omega) (by omega) hcv
        have hzc := hR.2.2.1.cell xs.length (by have := hR.1; omega)
        have hzf := hR.2.2.1.frozen xs.length
        have R1 := Lib.hid r1
        have R5 := Lib.hid r5
        clear r1 r5
        go_wp2_with fail
        rw [← R1.out]
        refine (rtrim_calls _ _ _ _ (Nat.le_refl _) (by rw [R1.out]; omega) r3.cells r2).mono ?_
        rintro e w' ⟨rfl, rfl⟩
        go_wp2
        go_ret
        exact ⟨_, rfl, by rw [← R5.out]; exact ⟨_, _, rfl, by rw [R1.out, ← trimN_length r2, ← R1.out]; exact trimN_le _ _, by rw [R1.out]; omega, r3.cells.trim r2⟩, r4⟩

def SubRel (w : World) (g : Nat) (xs ys : List Nat) (k bv : Nat) (zs : List Nat) (wr : World) : Prop :=
  zs.length = xs.length ∧ Dig zs ∧ Blk wr g zs ∧ Ext w wr ∧ val (zs.take k) + val (ys.take k) = val (xs.take k) + 1000000000 ^ k * bv
theorem SubRel.step {w : World} {g : Nat} {xs ys : List Nat} {k bv : Nat} {zs : List Nat} {wr : World} (h : SubRel w g xs ys k bv zs wr) (hg : w.heap.size ≤ g) (hk : k < xs.length)
    (d bv' : Nat) (hd : d < 1000000000) (he : d + bv + ys.getD k 0 = xs.getD k 0 + 1000000000 * bv') {V : Int} (hV : V = d) :
    SubRel w g xs ys (k + 1) bv' (zs.set k d) (wr.setCell ⟨g, k, none⟩ (.int .u32 V)) := by
  obtain ⟨h1, h2, h3, h4, h5⟩ := h
  refine ⟨by simpa using h1, h2.set k hd, h3.set' k d (by omega) hV, h4.setCell (p := ⟨g, k, none⟩) hg _, ?_⟩
  rw [val_take_set _ _ _ (by omega), val_take_succ', val_take_succ' xs, Nat.pow_succ]
  generalize 1000000000 ^ k = p at *
  have e : p * d + p * bv + p * (ys.getD k 0) = p * (xs.getD k 0) + p * 1000000000 * bv' := by
    rw [← Nat.mul_add, ← Nat.mul_add, he, Nat.mul_add, Nat.mul_assoc]
  omega
theorem SubRel.val_eq {w : World} {g : Nat} {xs ys : List Nat} {k bv : Nat} {zs : List Nat} {wr : World} (h : SubRel w g xs ys k bv zs wr) (hk : k = xs.length) (hy : ys.length ≤ xs.length) (hb : bv ≤ 1) (hle : val ys ≤ val xs) :
    val zs = val xs - val ys := by
  subst hk
  obtain ⟨h1, h2, h3, h4, h5⟩ := h
  rw [List.take_of_length_le (by omega), List.take_of_length_le hy, List.take_of_length_le (Nat.le_refl _)] at h5
  have := val_lt h2
  rw [h1] at this
  rcases Nat.eq_zero_or_pos bv with h0 | h0
  · rw [h0] at h5; omega
  · obtain rfl : bv = 1 := by omega
    omega

set_option maxRecDepth 100000 in
set_option maxHeartbeats 800000 in
theorem minus_calls (w : World) (ax ay : Option Addr) (m n : Nat) (cx cy : Nat) (lx : (limbs m).length ≤ 1099511627776) (hmn : n ≤ m) (hx : Cells w ax (limbs m)) (hy : Cells w ay (limbs n)) :
    Calls Tryz.prog 167 #[.slice ax (limbs m).length cx, .slice ay (limbs n).length cy] w (Ret (IsLimbs (m - n)) w) := by
  have hle := z12q hmn
  have dx := z6q m
  have dy := z6q n
  have HV : Hid (val (limbs n) ≤ val (limbs m)) := by unfold Hid; rw [z1q, z1q]; exact hmn
  have HE : Hid (val (limbs m) - val (limbs n) = m - n) := by unfold Hid; rw [z1q, z1q]
  clear hmn
  generalize limbs m = xs at *
  generalize limbs n = ys at *
  have hmk := run_mk xs.length (by omega) (↑xs.length) (by omega)
  go_enter Tryz.func167, Tryz.ntmps167
  go_wp2
  clear hmk
  have h0 : SubRel w w.heap.size xs ys 0 0 (List.replicate xs.length 0) (w.alloc (.cells (u32s (List.replicate xs.length 0)) 149)) :=
    ⟨by simp, Dig.replicate _, Blk.new _ _, (Ext.refl w).alloc _, by simp [val]⟩
  go_loopw [6, 7, 8] (fun c n _ wr => ∃ (k bv : Nat) (zs : List Nat), k ≤ xs.length ∧ n = .int .i64 k ∧ c = .int .u32 bv ∧ bv ≤ 1 ∧ SubRel w w.heap.size xs ys k bv zs wr) (fun _ n _ _ => xs.length - (intOf n).toNat)
  case atStart => exact ⟨0, 0, _, Nat.zero_le _, rfl, rfl, by omega, h0⟩
  case round =>
    obtain ⟨k, bv, zs, hk, rfl, rfl, hbv, hR⟩ := hrel
    clear h0
    by_cases hk2 : k < xs.length
    · have hzc := hR.2.2.1.cell k (by have := hR.1; omega)
      have hzf := hR.2.2.1.frozen k
      obtain ⟨b1, o1, rfl, hx1⟩ := hx.at_ (by omega)
      have hcx := hR.2.2.2.1.cell (hx1 k hk2)
      have bx0 := dx k
      have by0 := dy k
      have hst := fun d bv' hd he V hV => hR.step (Nat.le_refl _) hk2 d bv' hd he (V := V) hV
      have HST := Lib.hid hst
      clear hst hx1
      by_cases hk3 : k < ys.length
      · obtain ⟨b2, o2, rfl, hy1⟩ := hy.at_ (by omega)
        have hcy := hR.2.2.2.1.cell (hy1 k hk3)
        clear hy1
        generalize xs.getD k 0 = x at *
        generalize ys.getD k 0 = y at *
        have bx : (x : Int) < 1000000000 := by omega
        have by_ : (y : Int) < 1000000000 := by omega
        clear bx0 by0
        by_cases hb : (1000000000 : Int) ≤ x + 1000000000 - bv - y
        · go_wp2
          go_roundw
          case rel => exact ⟨k + 1, 0, _, by omega, by go_num, by go_num, by omega, HST.out (x - bv - y) 0 (by omega) (by omega) _ (by omega)⟩
          case measure => simp [intOf]; omega
        · go_wp2
          go_roundw
          case rel => exact ⟨k + 1, 1, _, by omega, by go_num, by go_num, by omega, HST.out (x + 1000000000 - bv - y) 1 (by omega) (by omega) _ (by omega)⟩
          case measure => simp [intOf]; omega
      · have hy0 : ys.getD k 0 = 0 := by rw [List.getD_eq_getElem?_getD, List.getElem?_eq_none (by omega)]; rfl
        rw [hy0] at HST
        clear hy0 by0
        generalize xs.getD k 0 = x at *
        have bx : (x : Int) < 1000000000 := by omega
        clear bx0
        by_cases hb : (1000000000 : Int) ≤ x + 1000000000 - bv
        · go_wp2
          go_roundw
          case rel => exact ⟨k + 1, 0, _, by omega, by go_num, by go_num, by omega, HST.out (x - bv) 0 (by omega) (by omega) _ (by omega)⟩
          case measure => simp [intOf]; omega
        · go_wp2
          go_roundw
          case rel => exact ⟨k + 1, 1, _, by omega, by go_num, by go_num, by omega, HST.out (x + 1000000000 - bv) 1 (by omega) (by omega) _ (by omega)⟩
          case measure => simp [intOf]; omega
    · have r5 := hR.val_eq (by omega) hle hbv HV.out
      obtain ⟨r1, r2, r3, r4, _⟩ := hR
      rw [HE.out] at r5
      have R1 := Lib.hid r1
      have R5 := Lib.hid r5
      clear r1 r5
      go_wp2_with fail
      rw [← R1.out]
      refine (rtrim_calls _ _ _ _ (Nat.le_refl _) (by rw [R1.out]; omega) r3.cells r2).mono ?_
      rintro e w' ⟨rfl, rfl⟩
      go_wp2
      go_ret
      exact ⟨_, rfl, by rw [← R5.out]; exact ⟨_, _, rfl, by rw [← trimN_length r2]; exact trimN_le _ _, by rw [R1.out]; omega, r3.cells.trim r2⟩, r4⟩

end Go.Proofs.YtifeacfljfmnpaaGreat
end

section
set_option maxRecDepth 100000
namespace Go.Proofs.YtifeacfljfmnpaaGreat
open Go.RowKit
set_option maxRecDepth 100000
def Cloned (xs : List Nat) (w : World) (e : Ending) (w' : World) : Prop :=
  ∃ ao cap, e = .returned (.slice ao xs.length cap) ∧ xs.length ≤ cap ∧ cap ≤ 9223372036854775807 ∧ Ext w w' ∧ (0 < xs.length → ∃ g, ao = some ⟨g, 0, none⟩ ∧ w.heap.size ≤ g ∧ Blk w' g xs)
theorem Cloned.cells {xs : List Nat} {ao : Option Addr} {w w' : World} (h : 0 < xs.length → ∃ g, ao = some ⟨g, 0, none⟩ ∧ w.heap.size ≤ g ∧ Blk w' g xs) : Cells w' ao xs := by
  rcases xs with _ | ⟨x, r⟩
  · exact Cells.nil _ _
  · obtain ⟨g, rfl, _, hb⟩ := h (by simp)
    exact hb.cells

set_option maxHeartbeats 400000 in
theorem clone_calls (w : World) (ao : Option Addr) (xs : List Nat) (c : Nat) (lx : xs.length ≤ 1099511627776) (h : Cells w ao xs) (hc : xs.length ≤ c) :
    Calls Tryz.prog 211 #[.slice ao xs.length c] w (Cloned xs w) := by
  rcases ao with _ | a
  · obtain rfl : xs = [] := by
      rcases h with h | ⟨b, off, hh, _⟩
      · exact h
      · cases hh
    have heq := fun w => Lib.run_eql_slice_nil (P := Tryz.prog) w 22 149 none 0 c 0 0 Tryz.underlying22
    go_enter Tryz.func211, Tryz.ntmps211
    go_wp2
    go_ret
    exact ⟨none, 0, rfl, by simp, by omega, Ext.refl w, fun h => absurd h (by simp)⟩
  · have heq := fun w => Lib.run_eql_slice_nil (P := Tryz.prog) w 22 149 (some a) xs.length c 0 0 Tryz.underlying22
    obtain ⟨i0, hi, hz0, hz1, hz2⟩ := info_parts info_u32
    have hnews : ∀ j u, (xs.map fun x => Value.int .u32 ((x : Nat) : Int))[j]? = some u → w.cell? (a.add j) = some u := by
      intro j u hu
      rcases h with h | ⟨b, off, hh, hx⟩
      · subst h; simp at hu
      · injection hh with hh
        subst hh
        rw [List.getElem?_map] at hu
        obtain ⟨x, hx1, rfl⟩ := Option.map_eq_some_iff.1 hu
        have hj : j < xs.length := (List.getElem?_eq_some_iff.1 hx1).1
        have := hx j hj
        rw [List.getD_eq_getElem?_getD, hx1] at this
        by_cases h0 : j = 0
        · subst h0; simpa [Addr.add] using this
        · simpa [Addr.add, h0] using this
    go_enter Tryz.func211, Tryz.ntmps211
    go_wp2_with (at_builtin; refine wpList_append_own _ rfl _ _ 22 rfl w.heap.size 149 i0 (.int .u32 0) 1 4 Tryz.underlying22 hi hz0 hz1 hz2 rfl (by decide) _ 0 [] rfl (World.ownsRow_made w #[] 0 (Nat.le_refl _) (by simp) (by simp)) a xs.length c (xs.map fun x => Value.int .u32 ((x : Nat) : Int)) rfl (by simp) ?c1 ?c2 ?c3 ?c4 ?c5 ?_)
    case c1 => exact fun j u hu => ((Ext.refl w).alloc _).cell (hnews j u hu)
    case c2 => intro u hu; obtain ⟨x, _, rfl⟩ := List.mem_map.1 hu; rfl
    case c3 => unfold maxLen; omega
    case c4 => omega
    case c5 => simp
    intro v' w1 hown hgrow hnil
    have hE : Ext w w1 := Below.grown ((Ext.refl w).alloc _) hgrow (by simp) (fun k hk => by simp [Value.ownBlock] at hk; omega)
    rcases hown.2 with ⟨rfl, _⟩ | ⟨g, cap, cur, rfl, hg, _, hnc, hcm, _, _⟩
    · exact absurd rfl hnil
    · have hb := Blk.of_owns hown
      clear hnil hgrow
      go_wp2
      go_ret
      exact ⟨_, _, rfl, hnc, by unfold maxLen at hcm; omega, hE, fun _ => ⟨g, rfl, hg, hb⟩⟩


theorem drop_ext {xs zs : List Nat} {k : Nat} (hl : zs.length = xs.length) (h : ∀ i, k ≤ i → zs.getD i 0 = xs.getD i 0) : zs.drop k = xs.drop k := by
  apply List.ext_getElem
  · simp [hl]
  · intro i h1 h2
    rw [List.length_drop] at h1 h2
    have := h (k + i) (by omega)
    simp only [List.getElem_drop]
    rw [List.getD_eq_getElem?_getD, List.getD_eq_getElem?_getD, List.getElem?_eq_getElem (by omega), List.getElem?_eq_getElem (by omega)] at this
    simpa using this
def SubAt (w : World) (g : Nat) (xs ys : List Nat) (k : Nat) (b : Bool) (zs : List Nat) (wr : World) : Prop :=
  SubRel w g xs ys k b.toNat zs wr ∧ ∀ i, k ≤ i → zs.getD i 0 = xs.getD i 0
theorem getD_set_other (zs : List Nat) (k i d : Nat) (h : k ≠ i) : (zs.set k d).getD i 0 = zs.getD i 0 := by
  simp only [List.getD_eq_getElem?_getD, List.getElem?_set]
  rw [if_neg h]
theorem SubAt.step {w : World} {g : Nat} {xs ys : List Nat} {k : Nat} {b : Bool} {zs : List Nat} {wr : World} (h : SubAt w g xs ys k b zs wr) (hg : w.heap.size ≤ g) (hk : k < xs.length)
    (d : Nat) (b' : Bool) (hd : d < 1000000000) (he : d + b.toNat + ys.getD k 0 = xs.getD k 0 + 1000000000 * b'.toNat) {V : Int} (hV : V = d) :
    SubAt w g xs ys (k + 1) b' (zs.set k d) (wr.setCell ⟨g, k, none⟩ (.int .u32 V)) :=
  ⟨h.1.step hg hk d b'.toNat hd he hV, fun i hi => by rw [getD_set_other _ _ _ _ (by omega)]; exact h.2 i (by omega)⟩
theorem SubAt.step2 {w : World} {g : Nat} {xs ys : List Nat} {k : Nat} {b : Bool} {zs : List Nat} {wr : World} (h : SubAt w g xs ys k b zs wr) (hg : w.heap.size ≤ g) (hk : k < xs.length)
    (d : Nat) (b' : Bool) (hd : d < 1000000000) (he : d + b.toNat + ys.getD k 0 = xs.getD k 0 + 1000000000 * b'.toNat) {V U : Int} (u : Nat) (hU : U = u) (hV : V = d) :
    SubAt w g xs ys (k + 1) b' (zs.set k d) ((wr.setCell ⟨g, k, none⟩ (.int .u32 U)).setCell ⟨g, k, none⟩ (.int .u32 V)) := by
  obtain ⟨⟨h1, h2, h3, h4, h5⟩, h6⟩ := h
  have hs := SubAt.step (w := w) ⟨⟨h1, h2, h3, h4, h5⟩, h6⟩ hg hk d b' hd he hV
  have hb := (h3.set' k u (by omega) hU).set' k d (by simp; omega) hV
  rw [List.set_set] at hb
  exact ⟨⟨hs.1.1, hs.1.2.1, hb, (h4.setCell (p := ⟨g, k, none⟩) hg _).setCell (p := ⟨g, k, none⟩) hg _, hs.1.2.2.2.2⟩, hs.2⟩
theorem SubAt.stop {w : World} {g : Nat} {xs ys : List Nat} {k : Nat} {zs : List Nat} {wr : World} (h : SubAt w g xs ys k false zs wr) (hk : k ≤ xs.length) (hy : ys.length ≤ k) : val zs = val xs - val ys := by
  obtain ⟨⟨h1, h2, h3, h4, h5⟩, h6⟩ := h
  have hd := drop_ext h1 h6
  have e1 := val_split zs k (by omega)
  have e2 := val_split xs k hk
  rw [List.take_of_length_le hy] at h5
  rw [hd] at e1
  simp only [Bool.toNat_false, Nat.mul_zero, Nat.add_zero] at h5
  omega


def SubLoop (w : World) (az : Option Addr) (xs ys : List Nat) (k : Nat) (b : Bool) (wr : World) : Prop :=
  Ext w wr ∧ (xs.length = 0 ∨ ∃ g zs, az = some ⟨g, 0, none⟩ ∧ w.heap.size ≤ g ∧ SubAt w g xs ys k b zs wr)
theorem SubLoop.at_ {w : World} {az : Option Addr} {xs ys : List Nat} {k : Nat} {b : Bool} {wr : World} (h : SubLoop w az xs ys k b wr) (hk : k < xs.length) :
    ∃ g, az = some ⟨g, 0, none⟩ ∧ wr.cell? ⟨g, k, none⟩ = some (.int .u32 ((xs.getD k 0 : Nat) : Int)) ∧ wr.frozen? ⟨g, k, none⟩ = false ∧
      Hid (∀ (V : Int) (b' : Bool), 0 ≤ V → V < 1000000000 → V + (b.toNat : Int) + ((ys.getD k 0 : Nat) : Int) = ((xs.getD k 0 : Nat) : Int) + 1000000000 * (b'.toNat : Int) → SubLoop w az xs ys (k + 1) b' (wr.setCell ⟨g, k, none⟩ (.int .u32 V))) ∧
      Hid (∀ (U V : Int) (b' : Bool), 0 ≤ V → V < 1000000000 → V + (b.toNat : Int) + ((ys.getD k 0 : Nat) : Int) = ((xs.getD k 0 : Nat) : Int) + 1000000000 * (b'.toNat : Int) → 0 ≤ U → SubLoop w az xs ys (k + 1) b' ((wr.setCell ⟨g, k, none⟩ (.int .u32 U)).setCell ⟨g, k, none⟩ (.int .u32 V))) := by
  obtain ⟨_, h0 | ⟨g, zs, rfl, hg, hR⟩⟩ := h
  · omega
  · have hzc := hR.1.2.2.1.cell k (by have := hR.1.1; omega)
    rw [hR.2 k (Nat.le_refl _)] at hzc
    refine ⟨g, rfl, hzc, hR.1.2.2.1.frozen k, ?_, ?_⟩
    · intro V b' v0 v1 he
      have hs := hR.step hg hk V.toNat b' (by omega) (by omega) (V := V) (by omega)
      exact ⟨hs.1.2.2.2.1, .inr ⟨g, _, rfl, hg, hs⟩⟩
    · intro U V b' v0 v1 he u0
      have hs := hR.step2 hg hk V.toNat b' (by omega) (by omega) (V := V) (U := U) U.toNat (by omega) (by omega)
      exact ⟨hs.1.2.2.2.1, .inr ⟨g, _, rfl, hg, hs⟩⟩
def SubEnd (w : World) (az : Option Addr) (cz d : Nat) (L : Nat) (wr : World) : Prop :=
  ∃ zs, zs.length = L ∧ Dig zs ∧ Cells wr az zs ∧ (limbs (val zs)).length = (limbs d).length ∧ Cells wr az (limbs d) ∧ (limbs d).length ≤ cz ∧ Ext w wr
theorem SubLoop.end_ {w : World} {az : Option Addr} {xs ys : List Nat} {k cz : Nat} {b : Bool} {wr : World} (h : SubLoop w az xs ys k b wr) (hcz : xs.length ≤ cz) (hy : ys.length ≤ xs.length) (hv : val ys ≤ val xs)
    (hk : k = xs.length ∨ (b = false ∧ k ≤ xs.length ∧ ys.length ≤ k)) : SubEnd w az cz (val xs - val ys) xs.length wr := by
  have hE : ∃ zs', zs'.length = xs.length ∧ Dig zs' ∧ Cells wr az zs' ∧ val zs' = val xs - val ys := by
    obtain ⟨_, h0 | ⟨g, zs, rfl, hg, hR⟩⟩ := h
    · have e1 : xs = [] := List.eq_nil_of_length_eq_zero h0
      refine ⟨[], by simp [h0], Dig.nil, Cells.nil _ _, ?_⟩
      rw [e1]; simp [val]
    · refine ⟨zs, hR.1.1, hR.1.2.1, hR.1.2.2.1.cells, ?_⟩
      rcases hk with hk | ⟨rfl, h1, h2⟩
      · exact hR.1.val_eq hk hy (by cases b <;> simp) hv
      · exact hR.stop h1 h2
  obtain ⟨zs, h1, h2, h3, h4⟩ := hE
  have h5 := h3.trim h2
  have h6 := trimN_length h2
  have h7 := trimN_le zs zs.length
  rw [h4] at h5 h6
  exact ⟨zs, h1, h2, h3, by rw [h4], h5, by omega, h.1⟩

set_option maxRecDepth 100000 in
set_option maxHeartbeats 1600000 in
theorem subtractLimbs_calls (w : World) (ax ay : Option Addr) (m n : Nat) (cx cy : Nat) (lx : (limbs m).length ≤ 1099511627776) (hmn : n ≤ m) (hcx : (limbs m).length ≤ cx) (hx : Cells w ax (limbs m)) (hy : Cells w ay (limbs n)) :
    Calls Tryz.prog 243 #[.slice ax (limbs m).length cx, .slice ay (limbs n).length cy] w (Ret (IsLimbs (m - n)) w) := by
  have hle := z12q hmn
  have dx := z6q m
  have dy := z6q n
  have HV : Hid (val (limbs n) ≤ val (limbs m)) := by unfold Hid; rw [z1q, z1q]; exact hmn
  have HE : Hid (val (limbs m) - val (limbs n) = m - n) := by unfold Hid; rw [z1q, z1q]
  clear hmn
  generalize limbs m = xs at *
  generalize limbs n = ys at *
  go_enter Tryz.func243, Tryz.ntmps243
  go_wp2_with fail
  refine (clone_calls w ax xs cx lx hx hcx).mono ?_
  rintro e w1 ⟨az, cz, rfl, hz1, hz2, hE, hz⟩
  have h0 : SubLoop w az xs ys 0 false w1 := by
    refine ⟨hE, ?_⟩
    rcases Nat.eq_zero_or_pos xs.length with h0 | h0
    · exact .inl h0
    · obtain ⟨g, h1, h2, h3⟩ := hz h0
      exact .inr ⟨g, xs, h1, h2, ⟨rfl, dx, h3, hE, by simp [val]⟩, fun _ _ => rfl⟩
  clear hz hE hx
  go_wp2
  go_loopw [6, 7, 8, 13] (fun b _ _ n wr => ∃ (k : Nat) (bv : Bool), k ≤ xs.length ∧ n = .int .i64 k ∧ b = .bool bv ∧ SubLoop w az xs ys k bv wr) (fun _ _ _ n _ => xs.length - (intOf n).toNat)
  case atStart => exact ⟨0, false, Nat.zero_le _, rfl, rfl, h0⟩
  case round =>
    obtain ⟨k, bv, hk, rfl, rfl, hR⟩ := hrel
    clear h0
    by_cases hk2 : k < xs.length
    · have hEr := hR.1
      have hend := fun h1 h2 => hR.end_ (cz := cz) hz1 hle HV.out (.inr ⟨h1, hk, h2⟩)
      have HEND := Lib.hid hend
      obtain ⟨g, rfl, hzc, hzf, H1, H2⟩ := hR.at_ hk2
      have bx0 := dx k
      have by0 := dy k
      clear hend hR dx dy
      by_cases hk3 : k < ys.length
      · obtain ⟨b2, o2, rfl, hy1⟩ := hy.at_ (by omega)
        have hcy := hEr.cell (hy1 k hk3)
        clear hy1 HEND hEr hy
        generalize xs.getD k 0 = x at *
        generalize ys.getD k 0 = y at *
        have bx : (x : Int) < 1000000000 := by omega
        have by_ : (y : Int) < 1000000000 := by omega
        clear bx0 by0
        cases bv
        · by_cases hb : (x : Int) < y
          · go_wp2
            go_roundw
            case rel => exact ⟨k + 1, true, by omega, by go_num, rfl, H2.out _ _ true (by omega) (by omega) (by show _ + ((0 : Nat) : Int) + _ = _ + _ * ((1 : Nat) : Int); omega) (by omega)⟩
            case measure => simp [intOf]; omega
          · go_wp2
            go_roundw
            case rel => exact ⟨k + 1, false, by omega, by go_num, rfl, H1.out _ false (by omega) (by omega) (by show _ + ((0 : Nat) : Int) + _ = _ + _ * ((0 : Nat) : Int); omega)⟩
            case measure => simp [intOf]; omega

        · by_cases hb : (x : Int) < y + 1
          · go_wp2
            go_roundw
            case rel => exact ⟨k + 1, true, by omega, by go_num, rfl, H2.out _ _ true (by omega) (by omega) (by show _ + ((1 : Nat) : Int) + _ = _ + _ * ((1 : Nat) : Int); omega) (by omega)⟩
            case measure => simp [intOf]; omega
          · go_wp2
            go_roundw
            case rel => exact ⟨k + 1, false, by omega, by go_num, rfl, H1.out _ false (by omega) (by omega) (by show _ + ((1 : Nat) : Int) + _ = _ + _ * ((0 : Nat) : Int); omega)⟩
            case measure => simp [intOf]; omega

      · have hy0 : ys.getD k 0 = 0 := by rw [List.getD_eq_getElem?_getD, List.getElem?_eq_none (by omega)]; rfl
        rw [hy0] at H1 H2
        clear hy0 by0
        cases bv
        · obtain ⟨zs, r1, r2, r3, r4, r5, r6, r7⟩ := HEND.out rfl (by omega)
          rw [HE.out] at r4 r5 r6
          have R1 := Lib.hid r1
          have R4 := Lib.hid r4
          clear r1 r4 H1 H2 hzc bx0 HEND hEr
          go_wp2_with fail
          rw [← R1.out]
          refine (trim_calls _ _ _ _ (by rw [R1.out]; exact hz1) hz2 r3 r2).mono ?_
          rintro e w' ⟨rfl, rfl⟩
          rw [R4.out]
          go_wp2
          go_ret
          exact ⟨_, rfl, ⟨_, _, rfl, r6, hz2, r5⟩, r7⟩
        · clear HEND hEr
          generalize xs.getD k 0 = x at *
          have bx : (x : Int) < 1000000000 := by omega
          clear bx0
          by_cases hb : (x : Int) < 1
          · go_wp2
            go_roundw
            case rel => exact ⟨k + 1, true, by omega, by go_num, rfl, H2.out _ _ true (by omega) (by omega) (by show _ + ((1 : Nat) : Int) + ((0 : Nat) : Int) = _ + _ * ((1 : Nat) : Int); omega) (by omega)⟩
            case measure => simp [intOf]; omega
          · go_wp2
            go_roundw
            case rel => exact ⟨k + 1, false, by omega, by go_num, rfl, H1.out _ false (by omega) (by omega) (by show _ + ((1 : Nat) : Int) + ((0 : Nat) : Int) = _ + _ * ((0 : Nat) : Int); omega)⟩
            case measure => simp [intOf]; omega

    · obtain ⟨zs, r1, r2, r3, r4, r5, r6, r7⟩ := hR.end_ (cz := cz) hz1 hle HV.out (.inl (by omega))
      rw [HE.out] at r4 r5 r6
      have R1 := Lib.hid r1
      have R4 := Lib.hid r4
      clear r1 r4 hR dx dy
      go_wp2_with fail
      rw [← R1.out]
      refine (trim_calls _ _ _ _ (by rw [R1.out]; exact hz1) hz2 r3 r2).mono ?_
      rintro e w' ⟨rfl, rfl⟩
      rw [R4.out]
      go_wp2
      go_ret
      exact ⟨_, rfl, ⟨_, _, rfl, r6, hz2, r5⟩, r7⟩

end Go.Proofs.YtifeacfljfmnpaaGreat
end

section
set_option maxRecDepth 100000
namespace Go.Proofs.YtifeacfljfmnpaaGreat
open Go.RowKit
theorem val_set : ∀ (zs : List Nat) (i d : Nat), i < zs.length → val (zs.set i d) + 1000000000 ^ i * zs.getD i 0 = val zs + 1000000000 ^ i * d := by
  intro zs
  induction zs with
  | nil => intro i d h; simp at h
  | cons z r ih =>
    intro i d h
    cases i with
    | zero => simp [val]; omega
    | succ i =>
      have := ih i d (by simpa using h)
      simp only [List.set_cons_succ, val, List.getD_cons_succ, Nat.pow_succ]
      generalize 1000000000 ^ i = p at *
      have e1 : p * 1000000000 * r.getD i 0 = 1000000000 * (p * r.getD i 0) := by rw [Nat.mul_comm p, Nat.mul_assoc]
      have e2 : p * 1000000000 * d = 1000000000 * (p * d) := by rw [Nat.mul_comm p, Nat.mul_assoc]
      rw [e1, e2]; omega
theorem mul_lt (x y : Nat) (hx : x < 1000000000) (hy : y < 1000000000) : x * y ≤ 999999998000000001 := by
  have : x * y ≤ 999999999 * 999999999 := Nat.mul_le_mul (by omega) (by omega)
  omega

def TimesOut (w : World) (g : Nat) (xs ys : List Nat) (i : Nat) (wr : World) : Prop :=
  ∃ zs : List Nat, zs.length = xs.length + ys.length ∧ Dig zs ∧ Blk wr g zs ∧ Ext w wr ∧ val zs = val (xs.take i) * val ys ∧ ∀ j, i + ys.length ≤ j → zs.getD j 0 = 0
def TimesIn (w : World) (g : Nat) (xs ys : List Nat) (i k cv : Nat) (wr : World) : Prop :=
  ∃ zs : List Nat, zs.length = xs.length + ys.length ∧ Dig zs ∧ Blk wr g zs ∧ Ext w wr ∧
    val zs + 1000000000 ^ (i + k) * cv = val (xs.take i) * val ys + 1000000000 ^ i * (xs.getD i 0 * val (ys.take k)) ∧ ∀ j, i + ys.length ≤ j → zs.getD j 0 = 0
theorem TimesOut.begin_ {w : World} {g : Nat} {xs ys : List Nat} {i : Nat} {wr : World} (h : TimesOut w g xs ys i wr) : TimesIn w g xs ys i 0 0 wr := by
  obtain ⟨zs, h1, h2, h3, h4, h5, h6⟩ := h
  exact ⟨zs, h1, h2, h3, h4, by simp [val, h5], h6⟩
theorem TimesIn.at_ {w : World} {g : Nat} {xs ys : List Nat} {i k cv : Nat} {wr : World} (h : TimesIn w g xs ys i k cv wr) (hg : w.heap.size ≤ g) (hi : i < xs.length) (hk : k < ys.length) :
    ∃ z : Nat, (z : Int) < 1000000000 ∧ wr.cell? ⟨g, i + k, none⟩ = some (.int .u32 (z : Int)) ∧ wr.frozen? ⟨g, i + k, none⟩ = false ∧ Ext w wr ∧
      Hid (∀ (nq t : Nat) (V : Int), t = cv + z + xs.getD i 0 * ys.getD k 0 → V = ((t % 1000000000 : Nat) : Int) → TimesIn w g xs ys i (k + 1) (t / 1000000000) ((wr.drewN nq).setCell ⟨g, i + k, none⟩ (.int .u32 V))) := by
  obtain ⟨zs, h1, h2, h3, h4, h5, h6⟩ := h
  refine ⟨zs.getD (i + k) 0, by have := h2 (i + k); omega, h3.cell _ (by omega), h3.frozen _, h4, fun nq t V ht hV => ?_⟩
  have h3' : Blk (wr.drewN nq) g zs := h3
  refine ⟨zs.set (i + k) (t % 1000000000), by simpa using h1, h2.set _ (by omega), h3'.set' _ _ (by omega) hV, (h4.drewN nq).setCell (p := ⟨g, i + k, none⟩) hg _, ?_, fun j hj => by rw [getD_set_other _ _ _ _ (by omega)]; exact h6 j hj⟩
  have e := val_set zs (i + k) (t % 1000000000) (by omega)
  rw [val_take_succ']
  have ep : 1000000000 ^ (i + (k + 1)) = 1000000000 ^ (i + k) * 1000000000 := by rw [← Nat.add_assoc, Nat.pow_succ]
  have eq : 1000000000 ^ (i + k) = 1000000000 ^ i * 1000000000 ^ k := Nat.pow_add _ _ _
  rw [ep]
  have et : t = t % 1000000000 + 1000000000 * (t / 1000000000) := by omega
  have e3 : 1000000000 ^ (i + k) * t = 1000000000 ^ (i + k) * (t % 1000000000) + 1000000000 ^ (i + k) * 1000000000 * (t / 1000000000) := by
    rw [Nat.mul_assoc, ← Nat.mul_add, ← et]
  have e4 : 1000000000 ^ (i + k) * t = 1000000000 ^ (i + k) * cv + 1000000000 ^ (i + k) * zs.getD (i + k) 0 + 1000000000 ^ (i + k) * (xs.getD i 0 * ys.getD k 0) := by
    rw [ht, Nat.mul_add, Nat.mul_add]
  have e5 : 1000000000 ^ i * (xs.getD i 0 * (val (ys.take k) + 1000000000 ^ k * ys.getD k 0)) = 1000000000 ^ i * (xs.getD i 0 * val (ys.take k)) + 1000000000 ^ (i + k) * (xs.getD i 0 * ys.getD k 0) := by
    rw [eq, Nat.mul_add, Nat.mul_add, Nat.mul_left_comm (xs.getD i 0) (1000000000 ^ k), Nat.mul_assoc]
  rw [e5]
  omega
theorem TimesIn.end_ {w : World} {g : Nat} {xs ys : List Nat} {i k cv : Nat} {wr : World} (h : TimesIn w g xs ys i k cv wr) (hg : w.heap.size ≤ g) (hi : i < xs.length) (hk : k = ys.length) (hc : cv < 1000000000) :
    wr.cell? ⟨g, i + ys.length, none⟩ = some (.int .u32 0) ∧ wr.frozen? ⟨g, i + ys.length, none⟩ = false ∧ Hid (∀ V : Int, V = (cv : Int) → TimesOut w g xs ys (i + 1) (wr.setCell ⟨g, i + ys.length, none⟩ (.int .u32 V))) := by
  subst hk
  obtain ⟨zs, h1, h2, h3, h4, h5, h6⟩ := h
  have hz := h6 (i + ys.length) (Nat.le_refl _)
  refine ⟨by rw [h3.cell _ (by omega), hz]; rfl, h3.frozen _, fun V hV => ?_⟩
  refine ⟨zs.set (i + ys.length) cv, by simpa using h1, h2.set _ hc, h3.set' _ _ (by omega) hV, h4.setCell (p := ⟨g, i + ys.length, none⟩) hg _, ?_, fun j hj => by rw [getD_set_other _ _ _ _ (by omega)]; exact h6 j (by omega)⟩
  have e := val_set zs (i + ys.length) cv (by omega)
  rw [hz, Nat.mul_zero, Nat.add_zero, h5, List.take_of_length_le (Nat.le_refl _)] at e
  rw [e, val_take_succ', Nat.add_mul, Nat.mul_assoc]

set_option maxRecDepth 100000 in
set_option maxHeartbeats 1600000 in
theorem times_calls (w : World) (ax ay : Option Addr) (xs ys : List Nat) (cx cy : Nat) (lx : xs.length ≤ 1099511627776) (ly : ys.length ≤ 1099511627776) (hx : Cells w ax xs) (hy : Cells w ay ys) (dx : Dig xs) (dy : Dig ys) :
    Calls Tryz.prog 165 #[.slice ax xs.length cx, .slice ay ys.length cy] w (Ret (IsLimbs (val xs * val ys)) w) := by
  have hmk := run_mk (xs.length + ys.length) (by omega) (↑xs.length + ↑ys.length) (by omega)
  go_enter Tryz.func165, Tryz.ntmps165
  go_wp2
  clear hmk
  have h0 : TimesOut w w.heap.size xs ys 0 (w.alloc (.cells (u32s (List.replicate (xs.length + ys.length) 0)) 149)) := by
    refine ⟨List.replicate (xs.length + ys.length) 0, by simp, Dig.replicate _, Blk.new _ _, (Ext.refl w).alloc _, ?_, ?_⟩
    · have : ∀ n, val (List.replicate n 0) = 0 := by
        intro n; induction n with
        | zero => rfl
        | succ n ih => rw [List.replicate_succ, val, ih]
      rw [this]; simp [val]
    · intro j _; simp only [List.getD_eq_getElem?_getD, List.getElem?_replicate]; split <;> rfl
  go_loopw [6, 7, 8] (fun i _ _ wr => ∃ k : Nat, k ≤ xs.length ∧ i = .int .i64 k ∧ TimesOut w w.heap.size xs ys k wr) (fun i _ _ _ => xs.length - (intOf i).toNat)
  case atStart => exact ⟨0, Nat.zero_le _, rfl, h0⟩
  case round =>
    obtain ⟨i, hi, rfl, hR⟩ := hrel
    clear h0
    by_cases hi2 : i < xs.length
    · have hR0 := hR.begin_
      clear hR
      obtain ⟨b1, o1, rfl, hx1⟩ := hx.at_ (by omega)
      have bx0 := dx i
      go_wp2
      obtain ⟨wo, rfl⟩ : ∃ wo : World, wo = wr := ⟨_, rfl⟩
      go_loopw [7, 8] (fun c n wr => ∃ k cv : Nat, k ≤ ys.length ∧ n = .int .i64 k ∧ c = .int .u64 cv ∧ (cv : Int) < 1000000000 ∧ TimesIn w w.heap.size xs ys i k cv wr) (fun _ n _ => ys.length - (intOf n).toNat)
      case atStart => exact ⟨0, 0, Nat.zero_le _, rfl, rfl, by omega, hR0⟩
      case round =>
        obtain ⟨k, cv, hk, rfl, rfl, hcv, hR⟩ := hrel
        clear hR0
        by_cases hk2 : k < ys.length
        · obtain ⟨b2, o2, rfl, hy1⟩ := hy.at_ (by omega)
          obtain ⟨z, bz, hzc, hzf, hE, HST⟩ := hR.at_ (Nat.le_refl _) hi2 hk2
          have hcx := hE.cell (hx1 i hi2)
          have hcy := hE.cell (hy1 k hk2)
          have by0 := dy k
          clear hR hx1 hy1 dx dy hx hy
          generalize xs.getD i 0 = x at *
          generalize ys.getD k 0 = y at *
          have hm := mul_lt x y bx0 by0
          have bm : (x : Int) * (y : Int) ≤ 999999998000000001 := by rw [← Int.natCast_mul]; omega
          have bm0 : 0 ≤ (x : Int) * (y : Int) := by rw [← Int.natCast_mul]; omega
          have bx : (x : Int) < 1000000000 := by omega
          have by_ : (y : Int) < 1000000000 := by omega
          clear bx0 by0 hm
          have hi3 : (i : Int) < (xs.length : Int) := by omega
          have hk3 : (k : Int) < (ys.length : Int) := by omega
          go_wp2
          go_quiet (fail)
          go_wp2
          go_roundw
          case rel => exact ⟨k + 1, (cv + z + x * y) / 1000000000, by omega, by go_num, by rw [Int.natCast_ediv]; simp, by rw [Int.natCast_ediv]; simp; omega, HST.out _ _ _ rfl (by rw [Int.natCast_emod]; simp)⟩
          case measure => simp [intOf]; omega
        · obtain ⟨hzc, hzf, HST⟩ := hR.end_ (Nat.le_refl _) hi2 (by omega) (by omega)
          clear hx1 hR dx dy hx hy bx0
          go_wp2
          go_roundw
          case rel => exact ⟨i + 1, by omega, by go_num, HST.out _ (by omega)⟩
          case measure => simp [intOf]; omega
    · obtain ⟨zs, h1, h2, h3, h4, h5, _⟩ := hR
      rw [List.take_of_length_le (by omega)] at h5
      have R1 := Lib.hid h1
      have R5 := Lib.hid h5
      clear h1 h5 dx dy
      go_wp2_with fail
      rw [← R1.out]
      refine (rtrim_calls _ _ _ _ (Nat.le_refl _) (by rw [R1.out]; omega) h3.cells h2).mono ?_
      rintro e w' ⟨rfl, rfl⟩
      go_wp2
      go_ret
      exact ⟨_, rfl, by rw [← R5.out]; exact ⟨_, _, rfl, by rw [← trimN_length h2]; exact trimN_le _ _, by rw [R1.out]; omega, h3.cells.trim h2⟩, h4⟩

end Go.Proofs.YtifeacfljfmnpaaGreat
end

section
set_option maxRecDepth 100000
namespace Go.Proofs.YtifeacfljfmnpaaGreat
open Go.RowKit
def conv : List Nat → List Nat → Nat → Nat
  | [], _, _ => 0
  | x :: _, ys, 0 => x * ys.getD 0 0
  | x :: r, ys, k + 1 => x * ys.getD (k + 1) 0 + conv r ys k
def mulLow : List Nat → List Nat → Nat → Nat
  | [], _, _ => 0
  | _ :: _, _, 0 => 0
  | x :: r, ys, k + 1 => x * val (ys.take (k + 1)) + 1000000000 * mulLow r ys k
theorem mulLow_zero (xs ys : List Nat) : mulLow xs ys 0 = 0 := by cases xs <;> rfl
theorem mulLow_succ : ∀ (xs ys : List Nat) (k : Nat), mulLow xs ys (k + 1) = mulLow xs ys k + 1000000000 ^ k * conv xs ys k := by
  intro xs
  induction xs with
  | nil => intros; simp [mulLow, conv]
  | cons x r ih =>
    intro ys k
    cases k with
    | zero => simp only [mulLow, conv, mulLow_zero, val_take_succ']; simp [val]
    | succ k =>
      rw [mulLow, val_take_succ', ih ys k]
      simp only [mulLow, conv, Nat.pow_succ]
      generalize 1000000000 ^ k = p
      generalize ys.getD (k + 1) 0 = y
      generalize conv r ys k = c
      have e1 : x * (val (List.take (k + 1) ys) + p * 1000000000 * y) = x * val (List.take (k + 1) ys) + p * 1000000000 * (x * y) := by
        rw [Nat.mul_add, Nat.mul_left_comm x]
      have e2 : p * 1000000000 * (x * y + c) = p * 1000000000 * (x * y) + 1000000000 * (p * c) := by
        rw [Nat.mul_add, Nat.mul_comm p, Nat.mul_assoc 1000000000 p c]
      rw [e1, e2, Nat.mul_add]; omega
theorem mulLow_all : ∀ (xs ys : List Nat) (n : Nat), xs.length + ys.length ≤ n → mulLow xs ys n = val xs * val ys := by
  intro xs
  induction xs with
  | nil => intros; simp [mulLow, val]
  | cons x r ih =>
    intro ys n h
    cases n with
    | zero => simp at h
    | succ n =>
      rw [mulLow, ih ys n (by simp at h; omega), List.take_of_length_le (by simp at h; omega), val, Nat.add_mul, Nat.mul_assoc]
theorem conv_zero : ∀ (xs ys : List Nat) (k : Nat), xs.length + ys.length ≤ k + 1 → conv xs ys k = 0 := by
  intro xs
  induction xs with
  | nil => intros; rfl
  | cons x r ih =>
    intro ys k h
    simp at h
    have hy : ys.getD k 0 = 0 := by rw [List.getD_eq_getElem?_getD, List.getElem?_eq_none (by omega)]; rfl
    cases k with
    | zero => rw [conv, hy]; rfl
    | succ k => rw [conv, hy, ih ys k (by omega)]; rfl
theorem conv_snoc : ∀ (xs ys : List Nat) (k : Nat) (x : Nat), xs.length ≤ k → conv (xs ++ [x]) ys k = conv xs ys k + x * ys.getD (k - xs.length) 0 := by
  intro xs
  induction xs with
  | nil => intro ys k x _; cases k <;> simp [conv]
  | cons a r ih =>
    intro ys k x h
    simp at h
    cases k with
    | zero => omega
    | succ k =>
      simp only [List.cons_append, conv, ih ys k x (by omega), List.length_cons, Nat.succ_sub_succ]
      omega
theorem conv_take : ∀ (xs ys : List Nat) (k n : Nat), k < n → conv (xs.take n) ys k = conv xs ys k := by
  intro xs
  induction xs with
  | nil => intros; simp
  | cons x r ih =>
    intro ys k n h
    cases n with
    | zero => omega
    | succ n =>
      cases k with
      | zero => rfl
      | succ k => simp only [List.take_succ_cons, conv, ih ys k n (by omega)]
theorem conv_le : ∀ (xs ys : List Nat) (k : Nat), Dig xs → Dig ys → conv xs ys k ≤ xs.length * 999999998000000001 := by
  intro xs
  induction xs with
  | nil => intros; simp [conv]
  | cons x r ih =>
    intro ys k hx hy
    have := mul_lt x (ys.getD k 0) hx.head (hy k)
    cases k with
    | zero => simp only [conv, List.length_cons, Nat.add_mul]; omega
    | succ k =>
      have := ih ys k hx.tail hy
      simp only [conv, List.length_cons, Nat.add_mul]; omega

def MulOut (w : World) (g : Nat) (xs ys : List Nat) (k cv : Nat) (wr : World) : Prop :=
  ∃ zs : List Nat, zs.length = xs.length + ys.length ∧ Dig zs ∧ Blk wr g zs ∧ Ext w wr ∧ val (zs.take k) + 1000000000 ^ k * cv = mulLow xs ys k ∧ cv ≤ xs.length * 1000000000
theorem MulOut.at_ {w : World} {g : Nat} {xs ys : List Nat} {k cv : Nat} {wr : World} (h : MulOut w g xs ys k cv wr) (hg : w.heap.size ≤ g) (dx : Dig xs) (dy : Dig ys) (hk : k < xs.length + ys.length) :
    (∃ z : Nat, wr.cell? ⟨g, k, none⟩ = some (.int .u32 (z : Int))) ∧ wr.frozen? ⟨g, k, none⟩ = false ∧ Ext w wr ∧
      Hid (∀ (j t f : Nat) (V : Int), t + 1000000000 * f = cv + conv xs ys k → V = ((t % 1000000000 : Nat) : Int) → MulOut w g xs ys (k + 1) (t / 1000000000 + f) ((wr.drewN j).setCell ⟨g, k, none⟩ (.int .u32 V))) := by
  obtain ⟨zs, h1, h2, h3, h4, h5, h6⟩ := h
  refine ⟨⟨_, h3.cell k (by omega)⟩, h3.frozen _, h4, fun j t f V ht hV => ?_⟩
  have h3' : Blk (wr.drewN j) g zs := h3
  refine ⟨zs.set k (t % 1000000000), by simpa using h1, h2.set _ (by omega), h3'.set' _ _ (by omega) hV, (h4.drewN j).setCell (p := ⟨g, k, none⟩) hg _, ?_, ?_⟩
  · rw [val_take_set _ _ _ (by omega), mulLow_succ, ← h5, Nat.pow_succ]
    generalize 1000000000 ^ k = p
    have e : p * (t + 1000000000 * f) = p * cv + p * conv xs ys k := by rw [ht, Nat.mul_add]
    have e2 : p * t = p * (t % 1000000000) + p * 1000000000 * (t / 1000000000) := by
      rw [Nat.mul_assoc, ← Nat.mul_add]; congr 1; omega
    rw [Nat.mul_add, ← Nat.mul_assoc] at e
    rw [Nat.mul_add]
    omega
  · have := conv_le xs ys k dx dy
    have e : xs.length * 1000000000 + xs.length * 999999998000000001 ≤ xs.length * 1000000000000000000 := by omega
    omega
theorem MulOut.carry {w : World} {g : Nat} {xs ys : List Nat} {k cv : Nat} {wr : World} (h : MulOut w g xs ys k cv wr) (lx : xs.length ≤ 1048576) (dx : Dig xs) (dy : Dig ys) :
    (cv : Int) ≤ 1048576000000000 ∧ ∀ i, cv + conv (xs.take i) ys k ≤ 1048576000000000000000000 := by
  obtain ⟨zs, h1, h2, h3, h4, h5, h6⟩ := h
  refine ⟨by omega, fun i => ?_⟩
  have h7 := conv_le (xs.take i) ys k (dx.take i) dy
  rw [List.length_take] at h7
  have : min i xs.length * 999999998000000001 ≤ 1048576 * 999999998000000001 := Nat.mul_le_mul_right _ (by omega)
  omega
theorem vint {k : IntKind} {a b : Int} (h : a = b) : Value.int k a = .int k b := by rw [h]
def MulIn (xs ys : List Nat) (k cv i t f : Nat) : Prop := t + 1000000000 * f = cv + conv (xs.take i) ys k
theorem MulIn.start {xs ys : List Nat} {k cv i : Nat} (hi : i + ys.length ≤ k + 1 ∨ i = 0) (hi' : i ≤ xs.length) : MulIn xs ys k cv i cv 0 := by
  unfold MulIn
  rcases hi with hi | rfl
  · rw [conv_zero _ _ _ (by rw [List.length_take]; omega)]
  · cases k <;> simp [conv]
theorem MulIn.step {xs ys : List Nat} {k cv i t f : Nat} (h : MulIn xs ys k cv i t f) (hi : i ≤ k) (hi' : i < xs.length) (t' f' : Nat) (he : t' + 1000000000 * f' = t + 1000000000 * f + xs.getD i 0 * ys.getD (k - i) 0) : MulIn xs ys k cv (i + 1) t' f' := by
  unfold MulIn at *
  have hc := conv_snoc (xs.take i) ys k (xs.getD i 0) (by rw [List.length_take]; omega)
  rw [List.length_take, Nat.min_eq_left (by omega)] at hc
  rw [take_succ_getD _ _ hi', hc]; omega
theorem MulIn.done {xs ys : List Nat} {k cv i t f : Nat} (h : MulIn xs ys k cv i t f) (hi : k + 1 ≤ i ∨ xs.length ≤ i) : t + 1000000000 * f = cv + conv xs ys k := by
  unfold MulIn at h
  rcases hi with hi | hi
  · rwa [conv_take _ _ _ _ (by omega)] at h
  · rwa [List.take_of_length_le hi] at h

set_option maxRecDepth 100000 in
set_option maxHeartbeats 1600000 in
theorem multiplyLimbs_calls (w : World) (ax ay : Option Addr) (xs ys : List Nat) (cx cy : Nat) (lx : xs.length ≤ 1048576) (ly : ys.length ≤ 1099511627776) (hx : Cells w ax xs) (hy : Cells w ay ys) (dx : Dig xs) (dy : Dig ys) :
    Calls Tryz.prog 206 #[.slice ax xs.length cx, .slice ay ys.length cy] w (Ret (IsLimbs (val xs * val ys)) w) := by
  have hmk := run_mk (xs.length + ys.length) (by omega) (↑xs.length + ↑ys.length) (by omega)
  go_enter Tryz.func206, Tryz.ntmps206
  go_wp2
  clear hmk
  have h0 : MulOut w w.heap.size xs ys 0 0 (w.alloc (.cells (u32s (List.replicate (xs.length + ys.length) 0)) 149)) :=
    ⟨List.replicate (xs.length + ys.length) 0, by simp, Dig.replicate _, Blk.new _ _, (Ext.refl w).alloc _, by simp [val, mulLow_zero], by omega⟩
  go_loopw [6, 7, 8, 9, 10, 11, 12, 21] (fun c _ _ _ _ _ _ n wr => ∃ k cv : Nat, k ≤ xs.length + ys.length ∧ n = .int .i64 k ∧ c = .int .u64 cv ∧ MulOut w w.heap.size xs ys k cv wr) (fun _ _ _ _ _ _ _ n _ => xs.length + ys.length - (intOf n).toNat)
  case atStart => exact ⟨0, 0, Nat.zero_le _, rfl, rfl, h0⟩
  case round =>
    obtain ⟨k, cv, hk, rfl, rfl, hR⟩ := hrel
    clear h0
    obtain ⟨hcv, hbd⟩ := hR.carry lx dx dy
    by_cases hk2 : k < xs.length + ys.length
    · obtain ⟨⟨z, hzc⟩, hzf, hE, HST⟩ := hR.at_ (Nat.le_refl _) dx dy hk2
      have HB := Lib.hid hbd
      clear hbd hR
      have lxI : (xs.length : Int) ≤ 1048576 := by omega
      have lyI : (ys.length : Int) ≤ 1099511627776 := by omega
      clear lx ly
      obtain ⟨wo, rfl⟩ : ∃ wo : World, wo = wr := ⟨_, rfl⟩
      by_cases h1 : k + 1 ≤ ys.length <;> by_cases h2 : k + 1 ≤ xs.length
      all_goals
        go_wp2
        go_loopw [8, 9, 12] (fun t f i wi => ∃ i' t' f' j : Nat, i = .int .i64 i' ∧ t = .int .u64 t' ∧ f = .int .u64 f' ∧ (t' : Int) < 8000000000000000000 ∧ k + 1 ≤ i' + ys.length ∧ i' ≤ xs.length ∧ i' ≤ k + 1 ∧ Hid (MulIn xs ys k cv i' t' f') ∧ Hid (wi = wo.drewN j)) (fun _ _ i _ => xs.length - (intOf i).toNat)
        case atStart => first | exact ⟨0, cv, 0, 0, rfl, rfl, rfl, by omega, by omega, by omega, by omega, MulIn.start (.inr rfl) (by omega), rfl⟩ | exact ⟨k + 1 - ys.length, cv, 0, 0, by go_num, rfl, rfl, by omega, by omega, by omega, by omega, MulIn.start (.inl (by omega)) (by omega), rfl⟩
        case round =>
          obtain ⟨i, t, f, j, rfl, rfl, rfl, ht, hi1, hi2, hi3, HI, HW⟩ := hrel
          have hf : (f : Int) ≤ 1048576000000000 := by have := HI.out; have := HB.out i; unfold MulIn at *; omega
          by_cases hi : i < k + 1 ∧ i < xs.length
          · obtain ⟨hi4, hi5⟩ := hi
            have hi6 : k - i < ys.length := by omega
            obtain ⟨b1, o1, rfl, hx1⟩ := hx.at_ (by omega)
            obtain ⟨b2, o2, rfl, hy1⟩ := hy.at_ (by omega)
            have hcx : wr.cell? ⟨b1, o1 + i, none⟩ = some (.int .u32 ((xs.getD i 0 : Nat) : Int)) := by rw [HW.out]; exact hE.cell (hx1 i hi5)
            have hcy : wr.cell? ⟨b2, o2 + (k - i), none⟩ = some (.int .u32 ((ys.getD (k - i) 0 : Nat) : Int)) := by rw [HW.out]; exact hE.cell (hy1 (k - i) hi6)
            have HS := Lib.hid (fun t' f' he => HI.out.step (by omega) hi5 t' f' he)
            have bx0 := dx i
            have by0 := dy (k - i)
            clear hx1 hy1 hx hy dx dy hzc hzf
            generalize xs.getD i 0 = x at *
            generalize ys.getD (k - i) 0 = y at *
            have hm := mul_lt x y bx0 by0
            have bm : (x : Int) * (y : Int) ≤ 999999998000000001 := by rw [← Int.natCast_mul]; omega
            have bm0 : 0 ≤ (x : Int) * (y : Int) := by rw [← Int.natCast_mul]; omega
            have bx : (x : Int) < 1000000000 := by omega
            have by_ : (y : Int) < 1000000000 := by omega
            clear bx0 by0 hm
            have hi4I : (i : Int) < (k : Int) + 1 := by omega
            have hi5I : (i : Int) < (xs.length : Int) := by omega
            have hi6I : (k : Int) - (i : Int) < (ys.length : Int) := by omega
            have ek : ((k : Int) - (i : Int)).toNat = k - i := by omega
            have HN := Lib.hid (show k + 1 ≤ i + 1 + ys.length ∧ i + 1 ≤ xs.length ∧ i + 1 ≤ k + 1 by omega)
            have HK := Lib.hid ek
            clear hi1 hi2 hi3 hi4 hi5 hi6 h1 h2 hk hk2 ek
            rcases Int.lt_or_le ((t : Int) + x * y) 8000000000000000000 with hb | hb
            rotate_left
            · go_wp2
              go_quiet (fail)
              go_wp2
              go_roundw
              case rel => exact ⟨i + 1, t + x * y - 8000000000000000000, f + 8000000000, _, by go_num, vint (by rw [← Int.natCast_mul] at hb ⊢; omega), by go_num, by rw [← Int.natCast_mul] at bm hb; omega, HN.out.1, HN.out.2.1, HN.out.2.2, HS.out _ _ (by rw [← Int.natCast_mul] at hb; omega), by unfold Hid; rw [HW.out, World.drewN_drewN]⟩
              case measure => simp [intOf]; omega
            · have HBB := Lib.hid hb
              have hbb : decide ((8000000000000000000 : Int) ≤ t + x * y) = false := decide_eq_false (by omega)
              have ht9 : (t : Int) ≤ 9000000000000000000 := by omega
              clear hb ht
              go_wp2
              go_quiet (fail)
              go_wp2
              go_roundw
              case rel => exact ⟨i + 1, t + x * y, f, _, by go_num, vint (by rw [← Int.natCast_mul]; omega), rfl, by have hb := HBB.out; rw [← Int.natCast_mul] at hb; omega, HN.out.1, HN.out.2.1, HN.out.2.2, HS.out _ _ (by omega), by unfold Hid; rw [HW.out, World.drewN_drewN]⟩
              case measure => simp [intOf]; omega
          · have HD := Lib.hid (HI.out.done (by omega))
            have hw := HW.out
            subst hw
            have HN := Lib.hid (show k + 1 ≤ xs.length + ys.length by omega)
            have HM := Lib.hid (show xs.length + ys.length - (k + 1) < xs.length + ys.length - k by omega)
            first | have hiI : (k : Int) + 1 ≤ i := by omega | have hiI : (xs.length : Int) ≤ i := by omega
            have ht9 : (t : Int) / 1000000000 ≤ 8000000000 := by omega
            clear hx hy dx dy hi hi1 hi2 hi3 h1 h2 hk hk2 ht
            go_wp2
            go_roundw
            case rel => exact ⟨k + 1, t / 1000000000 + f, HN.out, by go_num, vint (by omega), HST.out j t f _ HD.out (by omega)⟩
            case measure => have := HM.out; simp [intOf]; omega
    · obtain ⟨zs, h1, h2, h3, h4, h5, h6⟩ := hR
      have e2 : cv = 0 ∧ val zs = val xs * val ys := by
        rw [mulLow_all _ _ _ (by omega), List.take_of_length_le (by omega)] at h5
        have b1 := val_lt dx
        have b2 := val_lt dy
        have b3 : val xs * val ys < 1000000000 ^ (xs.length + ys.length) := by
          rw [Nat.pow_add]; exact Nat.mul_lt_mul'' b1 b2
        have ek : k = xs.length + ys.length := by omega
        rw [ek] at h5
        rcases Nat.eq_zero_or_pos cv with h0 | h0
        · exact ⟨h0, by rw [h0] at h5; omega⟩
        · exfalso
          have : 1000000000 ^ (xs.length + ys.length) * 1 ≤ 1000000000 ^ (xs.length + ys.length) * cv := Nat.mul_le_mul_left _ h0
          omega
      have R1 := Lib.hid h1
      have R5 := Lib.hid e2.2
      clear h1 h5 h6 e2 dx dy hbd
      go_wp2_with fail
      rw [← R1.out]
      refine (trim_calls _ _ _ _ (Nat.le_refl _) (by rw [R1.out]; omega) h3.cells h2).mono ?_
      rintro e w' ⟨rfl, rfl⟩
      go_wp2
      go_ret
      exact ⟨_, rfl, by rw [← R5.out]; exact ⟨_, _, rfl, by rw [← trimN_length h2]; exact trimN_le _ _, by rw [R1.out]; omega, h3.cells.trim h2⟩, h4⟩

end Go.Proofs.YtifeacfljfmnpaaGreat
end

section
set_option maxRecDepth 100000
namespace Go.Proofs.YtifeacfljfmnpaaGreat
open Go.RowKit
theorem Cells.store {w : World} {ao : Option Addr} {xs : List Nat} (h : Cells w ao xs) {p : Addr} {u : Value} (hp : w.cell? p = some u) (hu : ∀ x, u ≠ .int .u32 x) (v : Value) : Cells (w.setCell p v) ao xs := by
  rcases h with h | ⟨b, off, rfl, h⟩
  · exact .inl h
  · refine .inr ⟨b, off, rfl, fun i hi => ?_⟩
    rw [World.cell?_setCell_other _ _ _ _ (fun e => ?_)]
    · exact h i hi
    · have h1 := h i hi
      rw [← e, hp] at h1
      injection h1 with h1
      exact hu _ h1
theorem res_new (w : World) (t : TypeId) : ∃ W, w.alloc (.cells #[.bool false, .slice none 0 0] t) = W ∧ Ext w W ∧ W.heap.size = w.heap.size + 1 ∧
    W.cell? ⟨w.heap.size, 0, none⟩ = some (.bool false) ∧ W.cell? ⟨w.heap.size, 1, none⟩ = some (.slice none 0 0) ∧ W.frozen? ⟨w.heap.size, 0, none⟩ = false ∧ W.frozen? ⟨w.heap.size, 1, none⟩ = false := by
  refine ⟨_, rfl, (Ext.refl w).alloc _, by simp, by simp, by simp, ?_, ?_⟩
  · show (match (w.heap.push _)[w.heap.size]? with | some (.cells _ _ (lo, hi)) => _ | _ => _) = _
    rw [Array.getElem?_push_size]; rfl
  · show (match (w.heap.push _)[w.heap.size]? with | some (.cells _ _ (lo, hi)) => _ | _ => _) = _
    rw [Array.getElem?_push_size]; rfl

theorem sgn_add_same (s : Bool) (m n : Nat) : sgn s m + sgn s n = sgn s (m + n) := by cases s <;> simp [sgn] <;> omega
theorem sgn_add_ge (s s' : Bool) (m n : Nat) (hs : s ≠ s') (h : n ≤ m) : sgn s m + sgn s' n = sgn s (m - n) := by
  cases s <;> cases s' <;> simp_all [sgn] <;> omega
theorem sgn_add_le (s s' : Bool) (m n : Nat) (hs : s ≠ s') (h : m ≤ n) : sgn s m + sgn s' n = sgn s' (n - m) := by
  cases s <;> cases s' <;> simp_all [sgn] <;> omega

theorem signedL_calls (w : World) (s : Bool) (ao : Option Addr) (n : Nat) (cap : Nat) (hc : (limbs n).length ≤ cap) (hm : cap ≤ 9223372036854775807) (h : Cells w ao (limbs n)) :
    Calls Tryz.prog 149 #[.bool s, .slice ao (limbs n).length cap] w (Ret (fun v w' => IsInt w' v (sgn s n)) w) := by
  have := signed_calls w s ao (limbs n) cap hc hm h (z6q n)
  rw [z1q] at this
  exact this
theorem fin_int {w w2 : World} {s2 b0 : Bool} {ao a0 : Option Addr} {n2 cap l0 k0 : Nat} {z : Int} {r : Nat} (h : IsInt w2 (.agg #[.bool s2, .slice ao (limbs n2).length cap]) z)
    (c0 : w2.cell? ⟨r, 0, none⟩ = some (.bool b0)) (c1 : w2.cell? ⟨r, 1, none⟩ = some (.slice a0 l0 k0)) (hr : w.heap.size ≤ r) (e : Ext w w2) :
    Ret (fun v w' => IsInt w' v z) w (.returned (.agg #[.bool s2, .slice ao (limbs n2).length cap])) ((w2.setCell ⟨r, 0, none⟩ (.bool s2)).setCell ⟨r, 1, none⟩ (.slice ao (limbs n2).length cap)) := by
  obtain ⟨ao', cap', hv, h1, h2, h3⟩ := h
  refine ⟨_, rfl, ⟨ao', cap', hv, h1, h2, ?_⟩, (e.setCell (p := ⟨r, 0, none⟩) hr _).setCell (p := ⟨r, 1, none⟩) hr _⟩
  have k1 : (w2.setCell ⟨r, 0, none⟩ (.bool s2)).cell? ⟨r, 1, none⟩ = some (.slice a0 l0 k0) := by
    rw [World.cell?_setCell_other _ _ _ _ (by simp)]; exact c1
  exact (h3.store c0 (by simp) _).store k1 (by simp) _

set_option maxHeartbeats 800000 in
theorem sum_calls (w : World) (s s' : Bool) (ax ay : Option Addr) (m n cx cy : Nat) (lx : (limbs m).length ≤ 1099511627776) (ly : (limbs n).length ≤ 1099511627776) (kx : (limbs m).length ≤ cx) (ky : (limbs n).length ≤ cy) (hx : Cells w ax (limbs m)) (hy : Cells w ay (limbs n)) :
    Calls Tryz.prog 226 #[.bool s, .slice ax (limbs m).length cx, .bool s', .slice ay (limbs n).length cy] w (Ret (fun v w' => IsInt w' v (sgn s m + sgn s' n)) w) := by
  obtain ⟨W, hW, eW, hz, c0, c1, f0, f1⟩ := res_new w 24
  have HZ := Lib.hid hz
  clear hz
  by_cases hs : s = s'
  · subst hs
    have hb : (s == s) = true := by cases s <;> rfl
    rw [sgn_add_same]
    have hadd := addLimbs_calls W ax ay _ _ cx cy lx ly (hx.ext eW) (hy.ext eW) (z6q m) (z6q n)
    rw [z1q, z1q] at hadd
    have HA := Lib.hid hadd
    clear hadd
    go_enter Tryz.func226, Tryz.ntmps226
    go_wp2_with fail
    clear hW
    refine HA.out.mono ?_
    rintro e w1 ⟨v, rfl, ⟨ao, cap, rfl, h1, h2, h3⟩, e1⟩
    go_wp2_with fail
    refine (signedL_calls _ _ _ _ _ h1 h2 h3).mono ?_
    rintro e w2 ⟨v, rfl, hI, e2⟩
    obtain ⟨ao2, cap2, s2, n2, rfl, _⟩ := hI.open_
    have c02 := e2.cell (e1.cell c0)
    have c12 := e2.cell (e1.cell c1)
    have f02 := e2.frozen (z0q (e1.cell c0)) (e1.frozen (z0q c0) f0)
    have f12 := e2.frozen (z0q (e1.cell c1)) (e1.frozen (z0q c1) f1)
    clear c0 c1 f0 f1
    go_wp2
    exact bodyPost_ret (v := .agg #[.bool s2, .slice ao2 (limbs n2).length cap2]) (by simp [results, Tryz.results226, go_sem, c02, c12]) rfl (fin_int hI c02 c12 (Nat.le_refl _) ((eW.trans e1).trans e2))
  · have hb : (s == s') = false := by cases s <;> cases s' <;> simp_all
    rcases Nat.lt_trichotomy m n with hmn | hmn | hmn
    · rw [sgn_add_le s s' m n hs (by omega)]
      have HC := Lib.hid (cmpZ_lt (Int.ofNat_lt.2 hmn))
      clear hs
      go_enter Tryz.func226, Tryz.ntmps226
      go_wp2_with fail
      clear hW
      refine (compareLimbs_calls _ _ _ m n _ _ (by omega) (by omega) (hx.ext eW) (hy.ext eW)).mono ?_
      rintro e w0 ⟨rfl, j, hw0⟩
      have e0 : Ext W w0 := by rw [hw0]; exact (Ext.refl W).drewN j
      clear hw0
      rw [HC.out]
      go_wp2_with fail
      refine (subtractLimbs_calls _ _ _ n m _ _ ly (by omega) ky (hy.ext (eW.trans e0)) (hx.ext (eW.trans e0))).mono ?_
      rintro e w1 ⟨v, rfl, ⟨ao, cap, rfl, h1, h2, h3⟩, e1⟩
      go_wp2_with fail
      refine (signedL_calls _ _ _ _ _ h1 h2 h3).mono ?_
      rintro e w2 ⟨v, rfl, hI, e2⟩
      obtain ⟨ao2, cap2, s2, n2, rfl, _⟩ := hI.open_
      have eA := (e0.trans e1).trans e2
      have c02 := eA.cell c0
      have c12 := eA.cell c1
      have f02 := eA.frozen (z0q c0) f0
      have f12 := eA.frozen (z0q c1) f1
      clear c0 c1 f0 f1
      go_wp2
      exact bodyPost_ret (v := .agg #[.bool s2, .slice ao2 (limbs n2).length cap2]) (by simp [results, Tryz.results226, go_sem, c02, c12]) rfl (fin_int hI c02 c12 (Nat.le_refl _) (eW.trans eA))
    · have HI : Hid (sgn s m + sgn s' n = 0) := by
        unfold Hid; rw [sgn_add_le s s' m n hs (by omega), hmn, Nat.sub_self, sgn_zero]
      have HC := Lib.hid (cmpZ_eq (congrArg (fun x : Nat => (x : Int)) hmn))
      rw [HI.out]
      clear hs hmn
      go_enter Tryz.func226, Tryz.ntmps226
      go_wp2_with fail
      clear hW
      refine (compareLimbs_calls _ _ _ m n _ _ (by omega) (by omega) (hx.ext eW) (hy.ext eW)).mono ?_
      rintro e w0 ⟨rfl, j, hw0⟩
      have e0 : Ext W w0 := by rw [hw0]; exact (Ext.refl W).drewN j
      clear hw0
      rw [HC.out]
      have c02 := e0.cell c0
      have c12 := e0.cell c1
      have f02 := e0.frozen (z0q c0) f0
      have f12 := e0.frozen (z0q c1) f1
      clear c0 c1 f0 f1
      go_wp2
      exact bodyPost_ret (v := .agg #[.bool false, .slice none 0 0]) (by simp [results, Tryz.results226, go_sem, c02, c12]) rfl (fin_int (n2 := 0) (isInt_zero w0) c02 c12 (Nat.le_refl _) (eW.trans e0))
    · rw [sgn_add_ge s s' m n hs (by omega)]
      have HC := Lib.hid (cmpZ_gt (Int.ofNat_lt.2 hmn))
      clear hs
      go_enter Tryz.func226, Tryz.ntmps226
      go_wp2_with fail
      clear hW
      refine (compareLimbs_calls _ _ _ m n _ _ (by omega) (by omega) (hx.ext eW) (hy.ext eW)).mono ?_
      rintro e w0 ⟨rfl, j, hw0⟩
      have e0 : Ext W w0 := by rw [hw0]; exact (Ext.refl W).drewN j
      clear hw0
      rw [HC.out]
      go_wp2_with fail
      refine (subtractLimbs_calls _ _ _ m n _ _ lx (by omega) kx (hx.ext (eW.trans e0)) (hy.ext (eW.trans e0))).mono ?_
      rintro e w1 ⟨v, rfl, ⟨ao, cap, rfl, h1, h2, h3⟩, e1⟩
      go_wp2_with fail
      refine (signedL_calls _ _ _ _ _ h1 h2 h3).mono ?_
      rintro e w2 ⟨v, rfl, hI, e2⟩
      obtain ⟨ao2, cap2, s2, n2, rfl, _⟩ := hI.open_
      have eA := (e0.trans e1).trans e2
      have c02 := eA.cell c0
      have c12 := eA.cell c1
      have f02 := eA.frozen (z0q c0) f0
      have f12 := eA.frozen (z0q c1) f1
      clear c0 c1 f0 f1
      go_wp2
      exact bodyPost_ret (v := .agg #[.bool s2, .slice ao2 (limbs n2).length cap2]) (by simp [results, Tryz.results226, go_sem, c02, c12]) rfl (fin_int hI c02 c12 (Nat.le_refl _) (eW.trans eA))

theorem boxes1r (w : World) (u0 u1 : Value) (t : TypeId) : ∃ W, ((w.alloc (.cells #[u0, u1] t)).alloc (.cells #[.bool false, .slice none 0 0] t)) = W ∧ Ext w W ∧
    W.cell? ⟨w.heap.size, 0, none⟩ = some u0 ∧ W.cell? ⟨w.heap.size, 1, none⟩ = some u1 ∧
    W.cell? ⟨w.heap.size + 1, 0, none⟩ = some (.bool false) ∧ W.cell? ⟨w.heap.size + 1, 1, none⟩ = some (.slice none 0 0) ∧ W.frozen? ⟨w.heap.size + 1, 0, none⟩ = false ∧ W.frozen? ⟨w.heap.size + 1, 1, none⟩ = false := by
  obtain ⟨W, hW, eW, hz, a0, a1, a2, a3⟩ := res_new (w.alloc (.cells #[u0, u1] t)) t
  rw [World.size_alloc] at a0 a1 a2 a3
  exact ⟨W, hW, ((Ext.refl w).alloc _).trans eW, eW.cell (by simp), eW.cell (by simp), a0, a1, a2, a3⟩
theorem boxes2r (w : World) (u0 u1 v0 v1 : Value) (t : TypeId) : ∃ W, (((w.alloc (.cells #[u0, u1] t)).alloc (.cells #[v0, v1] t)).alloc (.cells #[.bool false, .slice none 0 0] t)) = W ∧ Ext w W ∧
    W.cell? ⟨w.heap.size, 0, none⟩ = some u0 ∧ W.cell? ⟨w.heap.size, 1, none⟩ = some u1 ∧ W.cell? ⟨w.heap.size + 1, 0, none⟩ = some v0 ∧ W.cell? ⟨w.heap.size + 1, 1, none⟩ = some v1 ∧
    W.cell? ⟨w.heap.size + 2, 0, none⟩ = some (.bool false) ∧ W.cell? ⟨w.heap.size + 2, 1, none⟩ = some (.slice none 0 0) ∧ W.frozen? ⟨w.heap.size + 2, 0, none⟩ = false ∧ W.frozen? ⟨w.heap.size + 2, 1, none⟩ = false := by
  obtain ⟨V, hV, eV, hz, c0, c1, d0, d1⟩ := boxes2 w u0 u1 v0 v1 t
  obtain ⟨W, hW, eW, _, a0, a1, a2, a3⟩ := res_new V t
  rw [hz] at a0 a1 a2 a3
  exact ⟨W, by rw [hV, hW], eV.trans eW, eW.cell c0, eW.cell c1, eW.cell d0, eW.cell d1, a0, a1, a2, a3⟩

theorem z3q {w2 : World} {b r o i j : Nat} {u x y : Value} (h : w2.cell? ⟨b, o, none⟩ = some u) (hb : b ≠ r) : ((w2.setCell ⟨r, i, none⟩ x).setCell ⟨r, j, none⟩ y).cell? ⟨b, o, none⟩ = some u := by
  rw [World.cell?_setCell_other _ _ _ _ (by intro e; injection e with e; omega), World.cell?_setCell_other _ _ _ _ (by intro e; injection e with e; omega)]
  exact h
def Sm (z : Int) : Prop := (limbs z.natAbs).length ≤ 1048576

set_option maxHeartbeats 400000 in
theorem add_calls (w : World) (v1 v2 : Value) (z1 z2 : Int) (h : IsInt w v1 z1) (k : IsInt w v2 z2) (l1 : Sm z1) (l2 : Sm z2) :
    Calls Tryz.prog 181 #[v1, v2] w (Ret (fun v w' => IsInt w' v (z1 + z2)) w) := by
  obtain ⟨ao, cap, s, n, rfl, h1, h2, h3, H4, H5, H6⟩ := h.open_
  obtain ⟨ao', cap', s', n', rfl, k1, k2, k3, K4, K5, K6⟩ := k.open_
  unfold Sm at l1 l2
  rw [← H4.out] at l1
  rw [← K4.out] at l2
  obtain ⟨W, hW, eW, c0, c1, d0, d1, r0, r1, f0, f1⟩ := boxes2r w (.bool s) (.slice ao (limbs n).length cap) (.bool s') (.slice ao' (limbs n').length cap') 24
  have HS := Lib.hid (sum_calls W s s' ao ao' n n' cap cap' (by omega) (by omega) h1 k1 (h3.ext eW) (k3.ext eW))
  go_enter Tryz.func181, Tryz.ntmps181
  go_wp2_with fail
  clear hW
  refine HS.out.mono ?_
  rintro e w2 ⟨v, rfl, hI, e2⟩
  rw [← H5.out, ← K5.out] at hI
  obtain ⟨ao2, cap2, s2, n2, rfl, _⟩ := hI.open_
  have c02 := e2.cell r0
  have c12 := e2.cell r1
  have f02 := e2.frozen (z0q r0) f0
  have f12 := e2.frozen (z0q r1) f1
  clear c0 c1 d0 d1 r0 r1 f0 f1
  go_wp2
  exact bodyPost_ret (v := .agg #[.bool s2, .slice ao2 (limbs n2).length cap2]) (by simp [results, Tryz.results181, go_sem, c02, c12]) rfl (fin_int hI c02 c12 (by omega) (eW.trans e2))

theorem sgn_not (s : Bool) (n : Nat) : sgn (!s) n = -sgn s n := by cases s <;> simp [sgn]
set_option maxHeartbeats 400000 in
theorem sub_calls (w : World) (v1 v2 : Value) (z1 z2 : Int) (h : IsInt w v1 z1) (k : IsInt w v2 z2) (l1 : Sm z1) (l2 : Sm z2) :
    Calls Tryz.prog 182 #[v1, v2] w (Ret (fun v w' => IsInt w' v (z1 - z2)) w) := by
  obtain ⟨ao, cap, s, n, rfl, h1, h2, h3, H4, H5, H6⟩ := h.open_
  obtain ⟨ao', cap', s', n', rfl, k1, k2, k3, K4, K5, K6⟩ := k.open_
  unfold Sm at l1 l2
  rw [← H4.out] at l1
  rw [← K4.out] at l2
  obtain ⟨W, hW, eW, c0, c1, d0, d1, r0, r1, f0, f1⟩ := boxes2r w (.bool s) (.slice ao (limbs n).length cap) (.bool s') (.slice ao' (limbs n').length cap') 24
  have HS := Lib.hid (sum_calls W s (!s') ao ao' n n' cap cap' (by omega) (by omega) h1 k1 (h3.ext eW) (k3.ext eW))
  have HE : Hid (sgn s n + sgn (!s') n' = z1 - z2) := by unfold Hid; rw [sgn_not, ← H5.out, ← K5.out]; omega
  go_enter Tryz.func182, Tryz.ntmps182
  go_wp2_with fail
  clear hW
  refine HS.out.mono ?_
  rintro e w2 ⟨v, rfl, hI, e2⟩
  rw [HE.out] at hI
  obtain ⟨ao2, cap2, s2, n2, rfl, _⟩ := hI.open_
  have c02 := e2.cell r0
  have c12 := e2.cell r1
  have f02 := e2.frozen (z0q r0) f0
  have f12 := e2.frozen (z0q r1) f1
  clear c0 c1 d0 d1 r0 r1 f0 f1
  go_wp2
  exact bodyPost_ret (v := .agg #[.bool s2, .slice ao2 (limbs n2).length cap2]) (by simp [results, Tryz.results182, go_sem, c02, c12]) rfl (fin_int hI c02 c12 (by omega) (eW.trans e2))

theorem sgn_mul (s s' : Bool) (m n : Nat) : sgn s m * sgn s' n = sgn (!(s == s')) (m * n) := by
  cases s <;> cases s' <;> simp [sgn, Int.neg_mul, Int.mul_neg]

set_option maxHeartbeats 800000 in
theorem mul_calls (w : World) (v1 v2 : Value) (z1 z2 : Int) (h : IsInt w v1 z1) (k : IsInt w v2 z2) (l1 : Sm z1) (l2 : Sm z2) :
    Calls Tryz.prog 151 #[v1, v2] w (Ret (fun v w' => IsInt w' v (z1 * z2)) w) := by
  obtain ⟨ao, cap, s, n, rfl, h1, h2, h3, H4, H5, H6⟩ := h.open_
  obtain ⟨ao', cap', s', n', rfl, k1, k2, k3, K4, K5, K6⟩ := k.open_
  unfold Sm at l1 l2
  rw [← H4.out] at l1
  rw [← K4.out] at l2
  obtain ⟨W, hW, eW, c0, c1, d0, d1, r0, r1, f0, f1⟩ := boxes2r w (.bool s) (.slice ao (limbs n).length cap) (.bool s') (.slice ao' (limbs n').length cap') 24
  have hm := multiplyLimbs_calls W.drew ao ao' _ _ cap cap' l1 (by omega) ((h3.ext eW).drew) ((k3.ext eW).drew) (z6q n) (z6q n')
  rw [z1q, z1q] at hm
  have HM := Lib.hid hm
  have HE : Hid (sgn (!(s == s')) (n * n') = z1 * z2) := by unfold Hid; rw [← sgn_mul, ← H5.out, ← K5.out]
  clear hm
  go_enter Tryz.func151, Tryz.ntmps151
  go_wp2_with fail
  clear hW
  go_region_held3 (fun w' => w'.cell? ⟨w.heap.size, 0, none⟩ = some (.bool s) ∧ w'.cell? ⟨w.heap.size, 1, none⟩ = some (.slice ao (limbs n).length cap) ∧ w'.cell? ⟨w.heap.size + 1, 0, none⟩ = some (.bool s') ∧ w'.cell? ⟨w.heap.size + 1, 1, none⟩ = some (.slice ao' (limbs n').length cap'))
    (first | exact ⟨z3q c02 (by omega), z3q c12 (by omega), z3q d02 (by omega), z3q d12 (by omega)⟩ | go_keep) ((first
      | (go_at_call 206; refine HM.out.mono ?_; rintro e w1 ⟨v, rfl, ⟨ao1, cap1, rfl, m1, m2, m3⟩, e1⟩; have c01 := e1.of_drew.cell c0; have c11 := e1.of_drew.cell c1; have d01 := e1.of_drew.cell d0; have d11 := e1.of_drew.cell d1)
      | (go_at_call 149; refine (signedL_calls _ _ _ _ _ m1 m2 m3).mono ?_; rintro e w2 ⟨v, rfl, hI, e2⟩; obtain ⟨ao2, cap2, s2, n2, rfl, _⟩ := hI.open_; have c02 := e2.cell c01; have c12 := e2.cell c11; have d02 := e2.cell d01; have d12 := e2.cell d11; have eA := e1.of_drew.trans e2; have r02 := eA.cell r0; have r12 := eA.cell r1; have f02 := eA.frozen (z0q r0) f0; have f12 := eA.frozen (z0q r1) f1)))
  rw [HE.out] at hI
  go_wp2
  exact bodyPost_ret (v := .agg #[.bool s2, .slice ao2 (limbs n2).length cap2]) (by simp [results, Tryz.results151, go_sem, r02, r12]) rfl (fin_int hI r02 r12 (by omega) (eW.trans eA))

set_option maxHeartbeats 800000 in
theorem neg_calls (w : World) (v1 : Value) (z1 : Int) (h : IsInt w v1 z1) (l1 : Sm z1) :
    Calls Tryz.prog 156 #[v1] w (Ret (fun v w' => IsInt w' v (-z1)) w) := by
  obtain ⟨ao, cap, s, n, rfl, h1, h2, h3, H4, H5, H6⟩ := h.open_
  unfold Sm at l1
  rw [← H4.out] at l1
  obtain ⟨W, hW, eW, c0, c1, r0, r1, f0, f1⟩ := boxes1r w (.bool s) (.slice ao (limbs n).length cap) 24
  have HM := Lib.hid (clone_calls W.drew ao (limbs n) cap (by omega) ((h3.ext eW).drew) h1)
  have HE : Hid (sgn (!s) n = -z1) := by unfold Hid; rw [sgn_not, ← H5.out]
  go_enter Tryz.func156, Tryz.ntmps156
  go_wp2_with fail
  clear hW
  go_region_held3 (fun w' => w'.cell? ⟨w.heap.size, 0, none⟩ = some (.bool s) ∧ w'.cell? ⟨w.heap.size, 1, none⟩ = some (.slice ao (limbs n).length cap))
    (first | exact ⟨z3q c02 (by omega), z3q c12 (by omega)⟩ | go_keep) ((first
      | (go_at_call 211; refine HM.out.mono ?_; rintro e w1 ⟨ao1, cap1, rfl, m1, m2, e1, m3⟩; have m4 := Cloned.cells m3; have c01 := e1.of_drew.cell c0; have c11 := e1.of_drew.cell c1)
      | (go_at_call 149; refine (signedL_calls _ _ _ _ _ m1 m2 m4).mono ?_; rintro e w2 ⟨v, rfl, hI, e2⟩; obtain ⟨ao2, cap2, s2, n2, rfl, _⟩ := hI.open_; have c02 := e2.cell c01; have c12 := e2.cell c11; have eA := e1.of_drew.trans e2; have r02 := eA.cell r0; have r12 := eA.cell r1; have f02 := eA.frozen (z0q r0) f0; have f12 := eA.frozen (z0q r1) f1)))
  rw [HE.out] at hI
  go_wp2
  exact bodyPost_ret (v := .agg #[.bool s2, .slice ao2 (limbs n2).length cap2]) (by simp [results, Tryz.results156, go_sem, r02, r12]) rfl (fin_int hI r02 r12 (by omega) (eW.trans eA))

end Go.Proofs.YtifeacfljfmnpaaGreat
end

section
set_option maxRecDepth 100000
namespace Go.Proofs.YtifeacfljfmnpaaGreat
open Go.RowKit
theorem isInt_zero' {w : World} {ao : Option Addr} {cap : Nat} (h : cap ≤ 9223372036854775807) : IsInt w (.agg #[.bool false, .slice ao 0 cap]) 0 := ⟨ao, cap, by simp [limbs_zero], by simp [limbs_zero], h, Cells.nil _ _⟩

set_option maxHeartbeats 400000 in
theorem rsigned_calls (w : World) (s : Bool) (ao : Option Addr) (xs : List Nat) (cap : Nat) (hc : xs.length ≤ cap) (hm : cap ≤ 9223372036854775807) (h : Cells w ao xs) (hd : Dig xs) :
    Calls Tryz.prog 162 #[.bool s, .slice ao xs.length cap] w (Ret (fun v w' => IsInt w' v (sgn s (val xs))) w) := by
  have hfin := h.trim hd
  have hlen : (limbs (val xs)).length ≤ xs.length := limbs_len_le (val_lt hd)
  obtain ⟨W, hW, eW, _, r0, r1, f0, f1⟩ := res_new w 24
  rcases Nat.eq_zero_or_pos (val xs) with h0 | h0
  · have HZ := Lib.hid h0
    clear h0
    cases s
    all_goals
      go_enter Tryz.func162, Tryz.ntmps162
      go_wp2_with fail
      clear hW
      refine (rtrim_calls _ _ _ _ hc hm (h.ext eW) hd).mono ?_
      rintro e w' ⟨rfl, rfl⟩
      rw [HZ.out, limbs_zero]
      go_wp2
      exact bodyPost_ret (v := .agg #[.bool false, .slice ao 0 cap]) (by simp [results, Tryz.results162, go_sem, r0, r1]) rfl (by rw [HZ.out, sgn_zero]; exact fin_int (n2 := 0) (isInt_zero' hm) r0 r1 (Nat.le_refl _) eW)
  · have hp := limbs_pos h0
    have hI := isInt_of (w := w) (s := s) (ao := ao) (cap := cap) (by omega) (Nat.le_trans hlen hc) hm hfin
    have hpI : (0 : Int) < ((limbs (val xs)).length : Int) := by omega
    have HI := Lib.hid hI
    clear hp hI hlen
    have hdec : decide (0 < (limbs (val xs)).length) = true := by simp; omega
    clear hpI
    cases s
    · go_enter Tryz.func162, Tryz.ntmps162
      go_wp2_with fail
      clear hW
      refine (rtrim_calls _ _ _ _ hc hm (h.ext eW) hd).mono ?_
      rintro e w' ⟨rfl, rfl⟩
      go_wp2
      exact bodyPost_ret (v := .agg #[.bool false, .slice ao (limbs (val xs)).length cap]) (by simp [results, Tryz.results162, go_sem, r0, r1]) rfl (fin_int (HI.out.ext eW) r0 r1 (Nat.le_refl _) eW)
    · go_enter Tryz.func162, Tryz.ntmps162
      go_wp2_with fail
      clear hW
      refine (rtrim_calls _ _ _ _ hc hm (h.ext eW) hd).mono ?_
      rintro e w' ⟨rfl, rfl⟩
      go_wp2
      exact bodyPost_ret (v := .agg #[.bool true, .slice ao (limbs (val xs)).length cap]) (by simp [results, Tryz.results162, go_sem, r0, r1]) rfl (fin_int (HI.out.ext eW) r0 r1 (Nat.le_refl _) eW)
theorem rsignedL_calls (w : World) (s : Bool) (ao : Option Addr) (n : Nat) (cap : Nat) (hc : (limbs n).length ≤ cap) (hm : cap ≤ 9223372036854775807) (h : Cells w ao (limbs n)) :
    Calls Tryz.prog 162 #[.bool s, .slice ao (limbs n).length cap] w (Ret (fun v w' => IsInt w' v (sgn s n)) w) := by
  have := rsigned_calls w s ao (limbs n) cap hc hm h (z6q n)
  rw [z1q] at this
  exact this

set_option maxHeartbeats 1600000 in
theorem radd_calls (w : World) (v1 v2 : Value) (z1 z2 : Int) (h : IsInt w v1 z1) (k : IsInt w v2 z2) (l1 : Sm z1) (l2 : Sm z2) :
    Calls Tryz.prog 100 #[v1, v2] w (Ret (fun v w' => IsInt w' v (z1 + z2)) w) := by
  obtain ⟨ao, cap, s, n, rfl, h1, h2, h3, H4, H5, H6⟩ := h.open_
  obtain ⟨ao', cap', s', n', rfl, k1, k2, k3, K4, K5, K6⟩ := k.open_
  unfold Sm at l1 l2
  rw [← H4.out] at l1
  rw [← K4.out] at l2
  obtain ⟨W, hW, eW, c0, c1, d0, d1, r0, r1, f0, f1⟩ := boxes2r w (.bool s) (.slice ao (limbs n).length cap) (.bool s') (.slice ao' (limbs n').length cap') 24
  by_cases hs : s = s'
  · subst hs
    have hb : (s == s) = true := by cases s <;> rfl
    have hm := plus_calls W.drew ao ao' _ _ cap cap' (by omega) (by omega) ((h3.ext eW).drew) ((k3.ext eW).drew) (z6q n) (z6q n')
    rw [z1q, z1q] at hm
    have HM := Lib.hid hm
    have HE : Hid (sgn s (n + n') = z1 + z2) := by unfold Hid; rw [← sgn_add_same, ← H5.out, ← K5.out]
    clear hm
    go_enter Tryz.func100, Tryz.ntmps100
    go_wp2_with fail
    clear hW
    go_region_held3 (fun w' => w'.cell? ⟨w.heap.size, 0, none⟩ = some (.bool s) ∧ w'.cell? ⟨w.heap.size, 1, none⟩ = some (.slice ao (limbs n).length cap) ∧ w'.cell? ⟨w.heap.size + 1, 0, none⟩ = some (.bool s) ∧ w'.cell? ⟨w.heap.size + 1, 1, none⟩ = some (.slice ao' (limbs n').length cap'))
      (first | exact ⟨z3q c02 (by omega), z3q c12 (by omega), z3q d02 (by omega), z3q d12 (by omega)⟩ | go_keep) ((first
        | (go_at_call 166; refine HM.out.mono ?_; rintro e w1 ⟨v, rfl, ⟨ao1, cap1, rfl, m1, m2, m3⟩, e1⟩; have c01 := e1.of_drew.cell c0; have c11 := e1.of_drew.cell c1; have d01 := e1.of_drew.cell d0; have d11 := e1.of_drew.cell d1)
        | (go_at_call 162; refine (rsignedL_calls _ _ _ _ _ m1 m2 m3).mono ?_; rintro e w2 ⟨v, rfl, hI, e2⟩; obtain ⟨ao2, cap2, s2, n2, rfl, _⟩ := hI.open_; have c02 := e2.cell c01; have c12 := e2.cell c11; have d02 := e2.cell d01; have d12 := e2.cell d11; have eA := e1.of_drew.trans e2; have r02 := eA.cell r0; have r12 := eA.cell r1; have f02 := eA.frozen (z0q r0) f0; have f12 := eA.frozen (z0q r1) f1)))
    rw [HE.out] at hI
    go_wp2
    exact bodyPost_ret (v := .agg #[.bool s2, .slice ao2 (limbs n2).length cap2]) (by simp [results, Tryz.results100, go_sem, r02, r12]) rfl (fin_int hI r02 r12 (by omega) (eW.trans eA))

  · have hb : (s == s') = false := by cases s <;> cases s' <;> simp_all
    by_cases hmn : n' ≤ n
    · have hcb : (0 : Int) ≤ cmpZ n n' := by have := z2q n n'; omega
      have HE : Hid (sgn s (n - n') = z1 + z2) := by unfold Hid; rw [← sgn_add_ge s s' n n' hs hmn, ← H5.out, ← K5.out]
      clear hs
      go_enter Tryz.func100, Tryz.ntmps100
      go_wp2_with fail
      clear hW
      refine (rcompare_calls _ _ _ n n' _ _ (by omega) (by omega) (h3.ext eW) (k3.ext eW)).mono ?_
      rintro e w0 ⟨rfl, j, hw0⟩
      have e0 : Ext W w0 := by rw [hw0]; exact (Ext.refl W).drewN j
      clear hw0
      replace eW := eW.trans e0
      replace c0 := e0.cell c0
      replace c1 := e0.cell c1
      replace d0 := e0.cell d0
      replace d1 := e0.cell d1
      replace f0 := e0.frozen (z0q r0) f0
      replace f1 := e0.frozen (z0q r1) f1
      replace r0 := e0.cell r0
      replace r1 := e0.cell r1
      have HM := Lib.hid (minus_calls w0.drew ao ao' n n' cap cap' (by omega) hmn ((h3.ext eW).drew) ((k3.ext eW).drew))
      go_wp2_with fail
      go_region_held3 (fun w' => w'.cell? ⟨w.heap.size, 0, none⟩ = some (.bool s) ∧ w'.cell? ⟨w.heap.size, 1, none⟩ = some (.slice ao (limbs n).length cap) ∧ w'.cell? ⟨w.heap.size + 1, 0, none⟩ = some (.bool s') ∧ w'.cell? ⟨w.heap.size + 1, 1, none⟩ = some (.slice ao' (limbs n').length cap'))
        (first | exact ⟨z3q c02 (by omega), z3q c12 (by omega), z3q d02 (by omega), z3q d12 (by omega)⟩ | go_keep) ((first
          | (go_at_call 167; refine HM.out.mono ?_; rintro e w1 ⟨v, rfl, ⟨ao1, cap1, rfl, m1, m2, m3⟩, e1⟩; have c01 := e1.of_drew.cell c0; have c11 := e1.of_drew.cell c1; have d01 := e1.of_drew.cell d0; have d11 := e1.of_drew.cell d1)
          | (go_at_call 162; refine (rsignedL_calls _ _ _ _ _ m1 m2 m3).mono ?_; rintro e w2 ⟨v, rfl, hI, e2⟩; obtain ⟨ao2, cap2, s2, n2, rfl, _⟩ := hI.open_; have c02 := e2.cell c01; have c12 := e2.cell c11; have d02 := e2.cell d01; have d12 := e2.cell d11; have eA := e1.of_drew.trans e2; have r02 := eA.cell r0; have r12 := eA.cell r1; have f02 := eA.frozen (z0q r0) f0; have f12 := eA.frozen (z0q r1) f1)))
      rw [HE.out] at hI
      go_wp2
      exact bodyPost_ret (v := .agg #[.bool s2, .slice ao2 (limbs n2).length cap2]) (by simp [results, Tryz.results100, go_sem, r02, r12]) rfl (fin_int hI r02 r12 (by omega) (eW.trans eA))

    · have hcb : cmpZ n n' < (0 : Int) := by have := z2q n n'; omega
      have HE : Hid (sgn s' (n' - n) = z1 + z2) := by unfold Hid; rw [← sgn_add_le s s' n n' hs (by omega), ← H5.out, ← K5.out]
      clear hs
      go_enter Tryz.func100, Tryz.ntmps100
      go_wp2_with fail
      clear hW
      refine (rcompare_calls _ _ _ n n' _ _ (by omega) (by omega) (h3.ext eW) (k3.ext eW)).mono ?_
      rintro e w0 ⟨rfl, j, hw0⟩
      have e0 : Ext W w0 := by rw [hw0]; exact (Ext.refl W).drewN j
      clear hw0
      replace eW := eW.trans e0
      replace c0 := e0.cell c0
      replace c1 := e0.cell c1
      replace d0 := e0.cell d0
      replace d1 := e0.cell d1
      replace f0 := e0.frozen (z0q r0) f0
      replace f1 := e0.frozen (z0q r1) f1
      replace r0 := e0.cell r0
      replace r1 := e0.cell r1
      have HM := Lib.hid (minus_calls w0.drew ao' ao n' n cap' cap (by omega) (by omega) ((k3.ext eW).drew) ((h3.ext eW).drew))
      go_wp2_with fail
      go_region_held3 (fun w' => w'.cell? ⟨w.heap.size, 0, none⟩ = some (.bool s) ∧ w'.cell? ⟨w.heap.size, 1, none⟩ = some (.slice ao (limbs n).length cap) ∧ w'.cell? ⟨w.heap.size + 1, 0, none⟩ = some (.bool s') ∧ w'.cell? ⟨w.heap.size + 1, 1, none⟩ = some (.slice ao' (limbs n').length cap'))
        (first | exact ⟨z3q c02 (by omega), z3q c12 (by omega), z3q d02 (by omega), z3q d12 (by omega)⟩ | go_keep) ((first
          | (go_at_call 167; refine HM.out.mono ?_; rintro e w1 ⟨v, rfl, ⟨ao1, cap1, rfl, m1, m2, m3⟩, e1⟩; have c01 := e1.of_drew.cell c0; have c11 := e1.of_drew.cell c1; have d01 := e1.of_drew.cell d0; have d11 := e1.of_drew.cell d1)
          | (go_at_call 162; refine (rsignedL_calls _ _ _ _ _ m1 m2 m3).mono ?_; rintro e w2 ⟨v, rfl, hI, e2⟩; obtain ⟨ao2, cap2, s2, n2, rfl, _⟩ := hI.open_; have c02 := e2.cell c01; have c12 := e2.cell c11; have d02 := e2.cell d01; have d12 := e2.cell d11; have eA := e1.of_drew.trans e2; have r02 := eA.cell r0; have r12 := eA.cell r1; have f02 := eA.frozen (z0q r0) f0; have f12 := eA.frozen (z0q r1) f1)))
      rw [HE.out] at hI
      go_wp2
      exact bodyPost_ret (v := .agg #[.bool s2, .slice ao2 (limbs n2).length cap2]) (by simp [results, Tryz.results100, go_sem, r02, r12]) rfl (fin_int hI r02 r12 (by omega) (eW.trans eA))

set_option maxHeartbeats 400000 in
theorem rneg_calls (w : World) (v1 : Value) (z1 : Int) (h : IsInt w v1 z1) :
    Calls Tryz.prog 103 #[v1] w (Ret (fun v w' => IsInt w' v (-z1)) w) := by
  obtain ⟨ao, cap, s, n, rfl, h1, h2, h3, H4, H5, H6⟩ := h.open_
  obtain ⟨W, hW, eW, c0, c1, r0, r1, f0, f1⟩ := boxes1r w (.bool s) (.slice ao (limbs n).length cap) 24
  have HE : Hid (sgn (!s) n = -z1) := by unfold Hid; rw [sgn_not, ← H5.out]
  have HM := Lib.hid (rsignedL_calls W (!s) ao n cap h1 h2 (h3.ext eW))
  go_enter Tryz.func103, Tryz.ntmps103
  go_wp2_with fail
  clear hW
  refine HM.out.mono ?_
  rintro e w2 ⟨v, rfl, hI, e2⟩
  rw [HE.out] at hI
  obtain ⟨ao2, cap2, s2, n2, rfl, _⟩ := hI.open_
  have r02 := e2.cell r0
  have r12 := e2.cell r1
  have f02 := e2.frozen (z0q r0) f0
  have f12 := e2.frozen (z0q r1) f1
  go_wp2
  exact bodyPost_ret (v := .agg #[.bool s2, .slice ao2 (limbs n2).length cap2]) (by simp [results, Tryz.results103, go_sem, r02, r12]) rfl (fin_int hI r02 r12 (by omega) (eW.trans e2))

theorem Sm.neg {z : Int} (h : Sm z) : Sm (-z) := by unfold Sm at *; rw [Int.natAbs_neg]; exact h
set_option maxHeartbeats 800000 in
theorem rsub_calls (w : World) (v1 v2 : Value) (z1 z2 : Int) (h : IsInt w v1 z1) (k : IsInt w v2 z2) (l1 : Sm z1) (l2 : Sm z2) :
    Calls Tryz.prog 215 #[v1, v2] w (Ret (fun v w' => IsInt w' v (z1 - z2)) w) := by
  obtain ⟨ao, cap, s, n, rfl, h1, h2, h3, H4, H5, H6⟩ := h.open_
  obtain ⟨ao', cap', s', n', rfl, k1, k2, k3, K4, K5, K6⟩ := k.open_
  obtain ⟨W, hW, eW, c0, c1, d0, d1, r0, r1, f0, f1⟩ := boxes2r w (.bool s) (.slice ao (limbs n).length cap) (.bool s') (.slice ao' (limbs n').length cap') 24
  have HM := Lib.hid (rneg_calls W.drew _ _ (k.ext eW.drew))
  have HE : Hid (z1 + -z2 = z1 - z2) := by unfold Hid; omega
  go_enter Tryz.func215, Tryz.ntmps215
  go_wp2_with fail
  clear hW
  go_region_held3 (fun w' => w'.cell? ⟨w.heap.size, 0, none⟩ = some (.bool s) ∧ w'.cell? ⟨w.heap.size, 1, none⟩ = some (.slice ao (limbs n).length cap) ∧ w'.cell? ⟨w.heap.size + 1, 0, none⟩ = some (.bool s') ∧ w'.cell? ⟨w.heap.size + 1, 1, none⟩ = some (.slice ao' (limbs n').length cap'))
    (first | exact ⟨z3q c02 (by omega), z3q c12 (by omega), z3q d02 (by omega), z3q d12 (by omega)⟩ | go_keep) ((first
      | (go_at_call 103; refine HM.out.mono ?_; rintro e w1 ⟨v, rfl, hJ, e1⟩; have c01 := e1.of_drew.cell c0; have c11 := e1.of_drew.cell c1; have d01 := e1.of_drew.cell d0; have d11 := e1.of_drew.cell d1)
      | (go_at_call 100; refine (radd_calls _ _ _ z1 (-z2) (h.ext (eW.trans e1.of_drew)) hJ l1 l2.neg).mono ?_; rintro e w2 ⟨v, rfl, hI, e2⟩; obtain ⟨ao2, cap2, s2, n2, rfl, _⟩ := hI.open_; have c02 := e2.cell c01; have c12 := e2.cell c11; have d02 := e2.cell d01; have d12 := e2.cell d11; have eA := e1.of_drew.trans e2; have r02 := eA.cell r0; have r12 := eA.cell r1; have f02 := eA.frozen (z0q r0) f0; have f12 := eA.frozen (z0q r1) f1)))
  rw [HE.out] at hI
  go_wp2
  exact bodyPost_ret (v := .agg #[.bool s2, .slice ao2 (limbs n2).length cap2]) (by simp [results, Tryz.results215, go_sem, r02, r12]) rfl (fin_int hI r02 r12 (by omega) (eW.trans eA))

set_option maxHeartbeats 800000 in
theorem rmul_calls (w : World) (v1 v2 : Value) (z1 z2 : Int) (h : IsInt w v1 z1) (k : IsInt w v2 z2) (l1 : Sm z1) (l2 : Sm z2) :
    Calls Tryz.prog 99 #[v1, v2] w (Ret (fun v w' => IsInt w' v (z1 * z2)) w) := by
  obtain ⟨ao, cap, s, n, rfl, h1, h2, h3, H4, H5, H6⟩ := h.open_
  obtain ⟨ao', cap', s', n', rfl, k1, k2, k3, K4, K5, K6⟩ := k.open_
  unfold Sm at l1 l2
  rw [← H4.out] at l1
  rw [← K4.out] at l2
  obtain ⟨W, hW, eW, c0, c1, d0, d1, r0, r1, f0, f1⟩ := boxes2r w (.bool s) (.slice ao (limbs n).length cap) (.bool s') (.slice ao' (limbs n').length cap') 24
  have hm := times_calls W.drew ao ao' _ _ cap cap' (by omega) (by omega) ((h3.ext eW).drew) ((k3.ext eW).drew) (z6q n) (z6q n')
  rw [z1q, z1q] at hm
  have HM := Lib.hid hm
  have HE : Hid (sgn (!(s == s')) (n * n') = z1 * z2) := by unfold Hid; rw [← sgn_mul, ← H5.out, ← K5.out]
  clear hm
  go_enter Tryz.func99, Tryz.ntmps99
  go_wp2_with fail
  clear hW
  go_region_held3 (fun w' => w'.cell? ⟨w.heap.size, 0, none⟩ = some (.bool s) ∧ w'.cell? ⟨w.heap.size, 1, none⟩ = some (.slice ao (limbs n).length cap) ∧ w'.cell? ⟨w.heap.size + 1, 0, none⟩ = some (.bool s') ∧ w'.cell? ⟨w.heap.size + 1, 1, none⟩ = some (.slice ao' (limbs n').length cap'))
    (first | exact ⟨z3q c02 (by omega), z3q c12 (by omega), z3q d02 (by omega), z3q d12 (by omega)⟩ | go_keep) ((first
      | (go_at_call 165; refine HM.out.mono ?_; rintro e w1 ⟨v, rfl, ⟨ao1, cap1, rfl, m1, m2, m3⟩, e1⟩; have c01 := e1.of_drew.cell c0; have c11 := e1.of_drew.cell c1; have d01 := e1.of_drew.cell d0; have d11 := e1.of_drew.cell d1)
      | (go_at_call 162; refine (rsignedL_calls _ _ _ _ _ m1 m2 m3).mono ?_; rintro e w2 ⟨v, rfl, hI, e2⟩; obtain ⟨ao2, cap2, s2, n2, rfl, _⟩ := hI.open_; have c02 := e2.cell c01; have c12 := e2.cell c11; have d02 := e2.cell d01; have d12 := e2.cell d11; have eA := e1.of_drew.trans e2; have r02 := eA.cell r0; have r12 := eA.cell r1; have f02 := eA.frozen (z0q r0) f0; have f12 := eA.frozen (z0q r1) f1)))
  rw [HE.out] at hI
  go_wp2
  exact bodyPost_ret (v := .agg #[.bool s2, .slice ao2 (limbs n2).length cap2]) (by simp [results, Tryz.results99, go_sem, r02, r12]) rfl (fin_int hI r02 r12 (by omega) (eW.trans eA))

end Go.Proofs.YtifeacfljfmnpaaGreat
end

section
set_option maxRecDepth 100000
namespace Go.Proofs.YtifeacfljfmnpaaGreat
open Go.RowKit
def Raw (w : World) (v : Value) (neg : Bool) (xs : List Nat) : Prop :=
  ∃ ao cap, v = .agg #[.bool neg, .slice ao xs.length cap] ∧ xs.length ≤ cap ∧ cap ≤ 9223372036854775807 ∧ Cells w ao xs
theorem Raw.ext {w w' : World} {v : Value} {neg : Bool} {xs : List Nat} (h : Raw w v neg xs) (e : Ext w w') : Raw w' v neg xs := by
  obtain ⟨ao, cap, h1, h2, h3, h4⟩ := h
  exact ⟨ao, cap, h1, h2, h3, h4.ext e⟩
def allB (xs : List Nat) : Bool := xs.all fun x => decide (x < 1000000000)
theorem allB_dig {xs : List Nat} : allB xs = true ↔ Dig xs := by
  unfold allB
  rw [dig_iff, List.all_eq_true]
  constructor
  · intro h i hi
    have := h xs[i] (List.getElem_mem hi)
    rw [List.getD_eq_getElem?_getD, List.getElem?_eq_getElem hi]
    simpa using this
  · intro h x hx
    obtain ⟨i, hi, rfl⟩ := List.mem_iff_getElem.1 hx
    have := h i hi
    rw [List.getD_eq_getElem?_getD, List.getElem?_eq_getElem hi] at this
    simpa using this
def okB (neg : Bool) (xs : List Nat) : Bool := allB xs && (if xs.length = 0 then !neg else !(xs.getD (xs.length - 1) 0 == 0))
theorem okB_bad {neg : Bool} {xs : List Nat} {i : Nat} (hi : 1000000000 ≤ xs.getD i 0) : okB neg xs = false := by
  unfold okB
  have : allB xs = false := by
    rw [Bool.eq_false_iff]; intro h; have := allB_dig.1 h i; omega
  rw [this]; rfl
theorem okB_nil (neg : Bool) : okB neg [] = !neg := by simp [okB, allB]
theorem okB_dig {neg : Bool} {xs : List Nat} (hd : Dig xs) (h0 : 0 < xs.length) : okB neg xs = !(xs.getD (xs.length - 1) 0 == 0) := by
  unfold okB; rw [allB_dig.2 hd, if_neg (by omega)]; rfl
theorem okB_int {w : World} {v : Value} {neg : Bool} {xs : List Nat} (h : Raw w v neg xs) (hk : okB neg xs = true) : IsInt w v (sgn neg (val xs)) ∧ (limbs (val xs)).length = xs.length := by
  have hd : Dig xs := allB_dig.1 (by unfold okB at hk; rw [Bool.and_eq_true] at hk; exact hk.1)
  obtain ⟨ao, cap, rfl, h1, h2, h3⟩ := h
  rcases Nat.eq_zero_or_pos xs.length with h0 | h0
  · obtain rfl : xs = [] := List.eq_nil_of_length_eq_zero h0
    rw [okB_nil] at hk
    have : neg = false := by simpa using hk
    subst this
    exact ⟨isInt_zero' h2, rfl⟩
  · rw [okB_dig hd h0] at hk
    have hl : limbs (val xs) = xs := limbs_val hd (fun _ => by simpa using hk)
    have hn : val xs ≠ 0 := by intro e; rw [e, limbs_zero] at hl; rw [← hl] at h0; simp at h0
    refine ⟨?_, by rw [hl]⟩
    have := isInt_of (w := w) (s := neg) (ao := ao) (cap := cap) hn (by rw [hl]; exact h1) h2 (by rw [hl]; exact h3)
    rwa [hl] at this
theorem box1 (w : World) (u0 u1 : Value) (t : TypeId) : ∃ W, w.alloc (.cells #[u0, u1] t) = W ∧ Ext w W ∧ W.cell? ⟨w.heap.size, 0, none⟩ = some u0 ∧ W.cell? ⟨w.heap.size, 1, none⟩ = some u1 :=
  ⟨_, rfl, (Ext.refl w).alloc _, by simp, by simp⟩

set_option maxRecDepth 100000 in
set_option maxHeartbeats 800000 in
theorem valid_calls (w : World) (v : Value) (neg : Bool) (xs : List Nat) (h : Raw w v neg xs) :
    Calls Tryz.prog 174 #[v] w fun e w' => e = .returned (.bool (okB neg xs)) ∧ Ext w w' := by
  obtain ⟨ao, cap, rfl, h1, h2, h3⟩ := h
  obtain ⟨W, hW, eW, c0, c1⟩ := box1 w (.bool neg) (.slice ao xs.length cap) 24
  rcases Nat.eq_zero_or_pos xs.length with h0 | h0
  · obtain rfl : xs = [] := List.eq_nil_of_length_eq_zero h0
    have HZ := Lib.hid (okB_nil neg)
    clear h0
    go_enter Tryz.func174, Tryz.ntmps174
    go_wp2
    go_ret
    exact ⟨ret_bool HZ.out.symm, (Ext.refl w).alloc _⟩
  · have hbe : ((xs.length : Int) == 0) = false := by rw [beq_eq_false_iff_ne]; omega
    obtain ⟨b1, o1, rfl, hx1⟩ := (h3.ext eW).at_ h0
    have hlast := hx1 (xs.length - 1) (by omega)
    have h0I : (0 : Int) < (xs.length : Int) := by omega
    go_enter Tryz.func174, Tryz.ntmps174
    go_wp2
    clear hW hbe
    go_loop [5, 17] (fun _ i => ∃ k : Nat, k ≤ xs.length ∧ i = .int .i64 k ∧ Hid (∀ j, j < k → xs.getD j 0 < 1000000000)) (fun _ i => xs.length - (intOf i).toNat)
    case atStart => exact ⟨0, Nat.zero_le _, rfl, fun j hj => by omega⟩
    case round =>
      obtain ⟨k, hk, rfl, HD⟩ := hrel
      by_cases hk2 : k < xs.length
      · have hcx := hx1 k hk2
        have HB := Lib.hid (fun hi => okB_bad (neg := neg) (xs := xs) (i := k) hi)
        have HS : Hid (xs.getD k 0 < 1000000000 → ∀ j, j < k + 1 → xs.getD j 0 < 1000000000) := by
          intro h j hj
          by_cases e : j = k
          · subst e; exact h
          · exact HD.out j (by omega)
        clear hx1 hlast
        generalize xs.getD k 0 = x at *
        by_cases hb : (1000000000 : Int) ≤ x
        rotate_left
        · have HS2 := Lib.hid (HS.out (by omega))
          go_wp2
          go_round
          case rel => exact ⟨k + 1, by omega, by go_num, HS2.out⟩
          case measure => simp [intOf]; omega
        · have HB2 := Lib.hid (HB.out (by omega))
          go_wp2
          go_ret
          exact ⟨ret_bool HB2.out.symm, eW⟩
      · have hd : Dig xs := dig_iff.2 (fun i hi => HD.out i (by omega))
        have HF := Lib.hid (okB_dig (neg := neg) hd h0)
        have HN := Lib.hid h0
        clear hx1 hd h0
        generalize xs.getD (xs.length - 1) 0 = x at *
        rcases x with _ | x
        · go_wp2
          go_ret
          exact ⟨ret_bool (by rw [HF.out]; rfl), eW⟩
        · go_wp2
          go_ret
          exact ⟨ret_bool (by rw [HF.out]; rfl), eW⟩

theorem okB_dig' {neg : Bool} {xs : List Nat} (hd : Dig xs) : okB neg xs = (((limbs (val xs)).length == xs.length) && (!neg || decide (0 < xs.length))) := by
  rcases Nat.eq_zero_or_pos xs.length with h0 | h0
  · obtain rfl : xs = [] := List.eq_nil_of_length_eq_zero h0
    rw [okB_nil]; simp [val, limbs_zero]
  · rw [okB_dig hd h0]
    have hlen := trimN_length hd
    obtain ⟨n, hn⟩ : ∃ n, xs.length = n + 1 := ⟨xs.length - 1, by omega⟩
    rw [hn] at hlen ⊢
    rw [trimN] at hlen
    have hle := trimN_le xs n
    by_cases hx : xs.getD n 0 = 0
    · rw [if_pos hx] at hlen
      have e1 : (xs.getD (n + 1 - 1) 0 == 0) = true := by rw [Nat.add_sub_cancel, hx]; rfl
      have e2 : ((limbs (val xs)).length == n + 1) = false := by rw [beq_eq_false_iff_ne]; omega
      rw [e1, e2]; rfl
    · rw [if_neg hx] at hlen
      have e1 : (xs.getD (n + 1 - 1) 0 == 0) = false := by rw [Nat.add_sub_cancel, beq_eq_false_iff_ne]; exact hx
      have e2 : ((limbs (val xs)).length == n + 1) = true := by rw [beq_iff_eq]; omega
      rw [e1, e2]; simp

set_option maxRecDepth 100000 in
set_option maxHeartbeats 800000 in
theorem rvalid_calls (w : World) (v : Value) (neg : Bool) (xs : List Nat) (h : Raw w v neg xs) :
    Calls Tryz.prog 85 #[v] w fun e w' => e = .returned (.bool (okB neg xs)) ∧ Ext w w' := by
  obtain ⟨ao, cap, rfl, h1, h2, h3⟩ := h
  obtain ⟨W, hW, eW, c0, c1⟩ := box1 w (.bool neg) (.slice ao xs.length cap) 24
  go_enter Tryz.func85, Tryz.ntmps85
  go_wp2
  clear hW
  go_loop [3] (fun i => ∃ k : Nat, k ≤ xs.length ∧ i = .int .i64 k ∧ Hid (∀ j, j < k → xs.getD j 0 < 1000000000)) (fun i => xs.length - (intOf i).toNat)
  case atStart => exact ⟨0, Nat.zero_le _, rfl, fun j hj => by omega⟩
  case round =>
    obtain ⟨k, hk, rfl, HD⟩ := hrel
    by_cases hk2 : k < xs.length
    · obtain ⟨b1, o1, rfl, hx1⟩ := (h3.ext eW).at_ (by omega)
      have hcx := hx1 k hk2
      have HB := Lib.hid (fun hi => okB_bad (neg := neg) (xs := xs) (i := k) hi)
      have HS : Hid (xs.getD k 0 < 1000000000 → ∀ j, j < k + 1 → xs.getD j 0 < 1000000000) := by
        intro h j hj
        by_cases e : j = k
        · subst e; exact h
        · exact HD.out j (by omega)
      clear hx1
      generalize xs.getD k 0 = x at *
      by_cases hb : (1000000000 : Int) ≤ x
      rotate_left
      · have HS2 := Lib.hid (HS.out (by omega))
        go_wp2
        go_round
        case rel => exact ⟨k + 1, by omega, by go_num, HS2.out⟩
        case measure => simp [intOf]; omega
      · have HB2 := Lib.hid (HB.out (by omega))
        go_wp2
        go_ret
        exact ⟨ret_bool HB2.out.symm, eW⟩
    · have hd : Dig xs := dig_iff.2 (fun i hi => HD.out i (by omega))
      have HF := Lib.hid (okB_dig' (neg := neg) hd)
      have HT := Lib.hid (fun n => quiet_eq (P := Tryz.prog) (n := n) (rtrim_calls (W.drewN n) ao xs cap h1 h2 (h3.ext (eW.drewN n)) hd))
      clear hd
      generalize hL : (limbs (val xs)).length = L at *
      clear hL
      by_cases hl : L = xs.length
      · have hbL : ((L : Int) == (xs.length : Int)) = true := by simp [hl]
        have HFL : Hid ((L == xs.length) = true) := by unfold Hid; simp [hl]
        clear hl
        cases neg
        · go_wp2
          go_quiet ((go_at_call 159; exact HT.out _))
          go_wp2
          go_ret
          exact ⟨ret_bool (by rw [HF.out, HFL.out]; rfl), eW.drewN _⟩
        · by_cases hp : 0 < xs.length
          · have hp2 : decide (0 < xs.length) = true := by simpa using hp
            have HP := Lib.hid hp2
            have hp3 : (0 : Int) < (xs.length : Int) := by omega
            go_wp2
            go_quiet ((go_at_call 159; exact HT.out _))
            go_wp2
            go_ret
            exact ⟨ret_bool (by rw [HF.out, HFL.out, HP.out]; rfl), eW.drewN _⟩
          · have hp2 : decide (0 < xs.length) = false := by simpa using hp
            have HP := Lib.hid hp2
            go_wp2
            go_quiet ((go_at_call 159; exact HT.out _))
            go_wp2
            go_ret
            exact ⟨ret_bool (by rw [HF.out, HFL.out, HP.out]; rfl), eW.drewN _⟩
      · have hbL : ((L : Int) == (xs.length : Int)) = false := by rw [beq_eq_false_iff_ne]; omega
        have HFL : Hid ((L == xs.length) = false) := by unfold Hid; rw [beq_eq_false_iff_ne]; exact hl
        clear hl
        go_wp2
        go_quiet ((go_at_call 159; exact HT.out _))
        go_wp2
        go_ret
        exact ⟨ret_bool (by rw [HF.out, HFL.out]; rfl), eW.drewN _⟩

end Go.Proofs.YtifeacfljfmnpaaGreat
end

section
set_option maxRecDepth 100000
namespace Go.Proofs.YtifeacfljfmnpaaGreat
open Go.RowKit
theorem isLimbs_of_owns {w : World} {base : Nat} {v : Value} {n : Nat} (h : w.ownsRow base 149 1 v (limbs n).length ((limbs n).map fun x => Value.int .u32 ((x : Nat) : Int))) : IsLimbs n v w := by
  have hh := h
  rcases hh.2 with ⟨rfl, h0⟩ | ⟨g, cap, cur, rfl, _, _, hnc, hcm, _, _⟩
  · have e : limbs n = [] := List.eq_nil_of_length_eq_zero h0
    exact ⟨none, 0, by rw [e]; rfl, by rw [e]; simp, by omega, by rw [e]; exact Cells.nil _ _⟩
  · exact ⟨_, cap, rfl, hnc, by unfold maxLen at hcm; omega, (Blk.of_owns h).cells⟩

set_option maxRecDepth 100000 in
set_option maxHeartbeats 800000 in
theorem rlimbs_calls (w : World) (n : Nat) (hn : n ≤ 18446744073709551615) :
    Calls Tryz.prog 163 #[.int .u64 (n : Int)] w (Ret (IsLimbs n) w) := by
  obtain ⟨i0, hi, hz0, hz1, hz2⟩ := info_parts info_u32
  have hlen : (limbs n).length ≤ 3 := limbs_len_le (by omega)
  have HLEN := Lib.hid hlen
  have hnI : (n : Int) ≤ 18446744073709551615 := by omega
  clear hn hlen
  go_enter Tryz.func163, Tryz.ntmps163
  go_wp2
  go_loopw [0, 3] (fun m v wr => ∃ (k : Nat) (xs : List Nat), m = .int .u64 k ∧ (k : Int) ≤ 18446744073709551615 ∧ Ext w wr ∧ wr.ownsRow w.heap.size 149 1 v xs.length (xs.map fun x => Value.int .u32 ((x : Nat) : Int)) ∧ Hid (limbs n = xs ++ limbs k)) (fun m _ _ => (intOf m).toNat)
  case atStart => exact ⟨n, [], rfl, hnI, Ext.refl w, World.ownsRow_nil _ _ _ _, rfl⟩
  case round =>
    obtain ⟨k, xs, rfl, hk, hE, hown, HX⟩ := hrel
    rcases Nat.eq_zero_or_pos k with h0 | h0
    · subst h0
      have hl : limbs n = xs := by rw [HX.out, limbs_zero, List.append_nil]
      rw [← hl] at hown
      have HI := Lib.hid (isLimbs_of_owns hown)
      clear hl hown
      go_wp2
      go_ret
      exact ⟨_, rfl, HI.out, hE⟩
    · have hkI : (0 : Int) < (k : Int) := by omega
      have HS : Hid (limbs n = (xs ++ [k % 1000000000]) ++ limbs (k / 1000000000)) := by
        unfold Hid; rw [HX.out, limbs_step h0, List.append_assoc]; rfl
      have hxl : xs.length ≤ 3 := by have := HLEN.out; rw [HX.out, List.length_append] at this; omega
      have HN := Lib.hid h0
      have hsz := hE.size
      clear h0
      go_wp2_with (at_builtin; refine wpList_append_own _ rfl _ _ 22 rfl w.heap.size 149 i0 (.int .u32 0) 1 4 Tryz.underlying22 hi hz0 hz1 hz2 rfl (by decide) _ xs.length _ rfl (hown.alloc _) ⟨wr.heap.size, 0, none⟩ 1 1 [.int .u32 ((k : Int) % 1000000000)] rfl rfl ?c1 ?c2 ?c3 ?c4 ?c5 ?_)
      case c1 =>
        intro j u hj
        match j, hj with
        | 0, hj => simp at hj; subst hj; simp [Addr.add]
      case c2 => intro u hu; simp at hu; subst hu; rfl
      case c3 => unfold maxLen; omega
      case c4 => omega
      case c5 => simp; omega
      intro v' w1 hown1 hgrow _
      have hr := hown.lt
      have hE1 : Ext w w1 := Below.grown (hE.alloc _) hgrow (by simp; omega) (fun g hg => (hr g hg).1)
      have hown2 : w1.ownsRow w.heap.size 149 1 v' (xs ++ [k % 1000000000]).length ((xs ++ [k % 1000000000]).map fun x => Value.int .u32 ((x : Nat) : Int)) := by
        rw [List.length_append, List.map_append]
        exact hown1
      clear hown1 hgrow hown hr
      go_wp2
      go_roundw
      case rel => exact ⟨k / 1000000000, xs ++ [k % 1000000000], vint (by omega), by omega, hE1, hown2, HS.out⟩
      case measure => have := HN.out; simp [intOf]; omega

theorem wrap_neg (n : Int) (h1 : -9223372036854775808 ≤ n) (h2 : n < 0) : IntKind.u64.wrap (-IntKind.u64.wrap n) = ((n.natAbs : Nat) : Int) := by
  simp only [IntKind.wrap_u64]; omega
theorem sgn_natAbs_neg {n : Int} (h : n < 0) : sgn true n.natAbs = n := by simp [sgn]; omega
theorem sgn_natAbs_pos {n : Int} (h : 0 ≤ n) : sgn false n.natAbs = n := by simp [sgn]; omega

set_option maxHeartbeats 400000 in
theorem fromInt64_calls (w : World) (n : Int) (h1 : -9223372036854775808 ≤ n) (h2 : n ≤ 9223372036854775807) :
    Calls Tryz.prog 76 #[.int .i64 n] w (Ret (fun v w' => IsInt w' v n) w) := by
  obtain ⟨W, hW, eW, hz, r0, r1, f0, f1⟩ := res_new w 24
  clear hz
  by_cases hn : n < 0
  · have HE := Lib.hid (sgn_natAbs_neg hn)
    have HW := Lib.hid (wrap_neg n h1 hn)
    go_enter Tryz.func76, Tryz.ntmps76
    go_wp2_with fail
    clear hW
    rw [HW.out]
    refine (limbsOf_calls _ n.natAbs (by omega)).mono ?_
    rintro e w1 ⟨v, rfl, ⟨ao, cap, rfl, k1, k2, k3⟩, e1⟩
    go_wp2_with fail
    refine (signedL_calls _ _ _ _ _ k1 k2 k3).mono ?_
    rintro e w2 ⟨v, rfl, hI, e2⟩
    rw [HE.out] at hI
    obtain ⟨ao2, cap2, s2, n2, rfl, _⟩ := hI.open_
    have eA := e1.trans e2
    have c02 := eA.cell r0
    have c12 := eA.cell r1
    have f02 := eA.frozen (z0q r0) f0
    have f12 := eA.frozen (z0q r1) f1
    clear r0 r1 f0 f1
    go_wp2
    exact bodyPost_ret (v := .agg #[.bool s2, .slice ao2 (limbs n2).length cap2]) (by simp [results, Tryz.results76, go_sem, c02, c12]) rfl (fin_int hI c02 c12 (Nat.le_refl _) (eW.trans eA))
  · have HE := Lib.hid (sgn_natAbs_pos (n := n) (by omega))
    have HW : Hid (n = ((n.natAbs : Nat) : Int)) := by unfold Hid; omega
    go_enter Tryz.func76, Tryz.ntmps76
    go_wp2_with fail
    clear hW
    rw [show Value.int .u64 n = Value.int .u64 ((n.natAbs : Nat) : Int) from vint HW.out]
    refine (limbsOf_calls _ n.natAbs (by omega)).mono ?_
    rintro e w1 ⟨v, rfl, ⟨ao, cap, rfl, k1, k2, k3⟩, e1⟩
    go_wp2_with fail
    refine (signedL_calls _ _ _ _ _ k1 k2 k3).mono ?_
    rintro e w2 ⟨v, rfl, hI, e2⟩
    rw [HE.out] at hI
    obtain ⟨ao2, cap2, s2, n2, rfl, _⟩ := hI.open_
    have eA := e1.trans e2
    have c02 := eA.cell r0
    have c12 := eA.cell r1
    have f02 := eA.frozen (z0q r0) f0
    have f12 := eA.frozen (z0q r1) f1
    clear r0 r1 f0 f1
    go_wp2
    exact bodyPost_ret (v := .agg #[.bool s2, .slice ao2 (limbs n2).length cap2]) (by simp [results, Tryz.results76, go_sem, c02, c12]) rfl (fin_int hI c02 c12 (Nat.le_refl _) (eW.trans eA))

set_option maxHeartbeats 400000 in
theorem rfromInt64_calls (w : World) (n : Int) (h1 : -9223372036854775808 ≤ n) (h2 : n ≤ 9223372036854775807) :
    Calls Tryz.prog 94 #[.int .i64 n] w (Ret (fun v w' => IsInt w' v n) w) := by
  obtain ⟨W, hW, eW, hz, r0, r1, f0, f1⟩ := res_new w 24
  clear hz
  by_cases hn : n < 0
  · have HE := Lib.hid (sgn_natAbs_neg hn)
    have HW := Lib.hid (wrap_neg n h1 hn)
    go_enter Tryz.func94, Tryz.ntmps94
    go_wp2_with fail
    clear hW
    rw [HW.out]
    refine (rlimbs_calls _ n.natAbs (by omega)).mono ?_
    rintro e w1 ⟨v, rfl, ⟨ao, cap, rfl, k1, k2, k3⟩, e1⟩
    go_wp2_with fail
    refine (rsignedL_calls _ _ _ _ _ k1 k2 k3).mono ?_
    rintro e w2 ⟨v, rfl, hI, e2⟩
    rw [HE.out] at hI
    obtain ⟨ao2, cap2, s2, n2, rfl, _⟩ := hI.open_
    have eA := e1.trans e2
    have c02 := eA.cell r0
    have c12 := eA.cell r1
    have f02 := eA.frozen (z0q r0) f0
    have f12 := eA.frozen (z0q r1) f1
    clear r0 r1 f0 f1
    go_wp2
    exact bodyPost_ret (v := .agg #[.bool s2, .slice ao2 (limbs n2).length cap2]) (by simp [results, Tryz.results94, go_sem, c02, c12]) rfl (fin_int hI c02 c12 (Nat.le_refl _) (eW.trans eA))
  · have HE := Lib.hid (sgn_natAbs_pos (n := n) (by omega))
    have HW : Hid (n = ((n.natAbs : Nat) : Int)) := by unfold Hid; omega
    go_enter Tryz.func94, Tryz.ntmps94
    go_wp2_with fail
    clear hW
    rw [show Value.int .u64 n = Value.int .u64 ((n.natAbs : Nat) : Int) from vint HW.out]
    refine (rlimbs_calls _ n.natAbs (by omega)).mono ?_
    rintro e w1 ⟨v, rfl, ⟨ao, cap, rfl, k1, k2, k3⟩, e1⟩
    go_wp2_with fail
    refine (rsignedL_calls _ _ _ _ _ k1 k2 k3).mono ?_
    rintro e w2 ⟨v, rfl, hI, e2⟩
    rw [HE.out] at hI
    obtain ⟨ao2, cap2, s2, n2, rfl, _⟩ := hI.open_
    have eA := e1.trans e2
    have c02 := eA.cell r0
    have c12 := eA.cell r1
    have f02 := eA.frozen (z0q r0) f0
    have f12 := eA.frozen (z0q r1) f1
    clear r0 r1 f0 f1
    go_wp2
    exact bodyPost_ret (v := .agg #[.bool s2, .slice ao2 (limbs n2).length cap2]) (by simp [results, Tryz.results94, go_sem, c02, c12]) rfl (fin_int hI c02 c12 (Nat.le_refl _) (eW.trans eA))


def i64v (z : Int) : Int := if -9223372036854775808 ≤ z ∧ z ≤ 9223372036854775807 then z else 0
def i64ok (z : Int) : Bool := decide (-9223372036854775808 ≤ z ∧ z ≤ 9223372036854775807)
theorem i64_in {z : Int} (h1 : -9223372036854775808 ≤ z) (h2 : z ≤ 9223372036854775807) : i64v z = z ∧ i64ok z = true := ⟨if_pos ⟨h1, h2⟩, decide_eq_true ⟨h1, h2⟩⟩
theorem i64_out {z : Int} (h : z < -9223372036854775808 ∨ 9223372036854775807 < z) : i64v z = 0 ∧ i64ok z = false := ⟨if_neg (by omega), decide_eq_false (by omega)⟩

end Go.Proofs.YtifeacfljfmnpaaGreat
end

section
set_option maxRecDepth 100000
namespace Go.Proofs.YtifeacfljfmnpaaGreat
open Go.RowKit
theorem u64_num {x : Int} (h0 : 0 ≤ x) (h1 : x ≤ 18446744073709551615) : IntKind.u64.wrap x = x := by rw [IntKind.wrap_u64]; omega
theorem wrap_quo (m n q : Nat) (hm : m ≤ 18446744073709551615) (hq : q = m / n) : IntKind.u64.wrap ((m : Int) / (n : Int)) = (q : Int) := by
  rw [← Int.natCast_ediv, ← hq]
  exact u64_num (Int.natCast_nonneg _) (by have := Nat.div_le_self m n; omega)
theorem rem_nat (m n r : Nat) (hr : r = m % n) : (m : Int) % (n : Int) = (r : Int) ∧ (m : Int).tmod (n : Int) = (r : Int) := by
  rw [Int.tmod_eq_emod_of_nonneg (Int.natCast_nonneg _), ← Int.natCast_emod, hr]; simp

def Ret2 (Q1 Q2 : Value → World → Prop) (w : World) (e : Ending) (w' : World) : Prop := ∃ v1 v2, e = .returned (.tuple #[v1, v2]) ∧ Q1 v1 w' ∧ Q2 v2 w' ∧ Ext w w'
def DivOK (m n : Nat) : Prop := ∀ (w : World) (ax ay : Option Addr) (cx cy : Nat), (limbs m).length ≤ cx → (limbs n).length ≤ cy → cx ≤ 9223372036854775807 → cy ≤ 9223372036854775807 → Cells w ax (limbs m) → Cells w ay (limbs n) →
  Calls Tryz.prog 221 #[.slice ax (limbs m).length cx, .slice ay (limbs n).length cy] w (Ret2 (IsLimbs (m / n)) (IsLimbs (m % n)) w)

set_option maxRecDepth 100000 in
set_option maxHeartbeats 800000 in
theorem divOK_less (m n : Nat) (lx : (limbs m).length ≤ 1048576) (h : (limbs m).length < (limbs n).length) : DivOK m n := by
  intro w ax ay cx cy kx ky bx by_ hx hy
  have hlt := lt_of_len h
  have HQ := Lib.hid (Nat.div_eq_of_lt hlt)
  have HR := Lib.hid (Nat.mod_eq_of_lt hlt)
  clear hlt
  go_enter Tryz.func221, Tryz.ntmps221
  go_wp2_with fail
  refine (clone_calls w ax (limbs m) cx (by omega) hx kx).mono ?_
  rintro e w1 ⟨az, cz, rfl, h1, h2, hE, hz⟩
  have hc := Cloned.cells hz
  clear hz
  go_wp2
  go_ret2
  exact ⟨_, _, rfl, by rw [HQ.out]; exact ⟨none, 0, rfl, by simp [limbs_zero], by omega, Cells.nil _ _⟩, by rw [HR.out]; exact ⟨az, cz, rfl, h1, h2, hc⟩, hE⟩

set_option maxRecDepth 100000 in
set_option maxHeartbeats 800000 in
theorem divOK_small (m n : Nat) (h : ¬ (limbs m).length < (limbs n).length) (h2 : (limbs m).length ≤ 2) (hn : n ≠ 0) : DivOK m n := by
  intro w ax ay cx cy kx ky bx by_ hx hy
  have bm : m < 1000000000000000000 := by have := z4q h2; omega
  have bn : n < 1000000000000000000 := by have := z4q (n := n) (k := 2) (by omega); omega
  have hvx := valueOf_calls w ax (limbs m) cx kx bx hx (by rw [z1q]; omega)
  have hvy := valueOf_calls w ay (limbs n) cy ky by_ hy (by rw [z1q]; omega)
  rw [z1q] at hvx hvy
  have HX := Lib.hid hvx
  have HY := Lib.hid hvy
  have hq1 : m / n ≤ m := Nat.div_le_self _ _
  have hr1 : m % n < n := Nat.mod_lt _ (by omega)
  obtain ⟨q, hq⟩ : ∃ q, q = m / n := ⟨_, rfl⟩
  obtain ⟨r, hr⟩ : ∃ r, r = m % n := ⟨_, rfl⟩
  have HF := Lib.hid (And.intro (wrap_quo m n q (by omega) hq) (rem_nat m n r hr))
  rw [← hq, ← hr]
  rw [← hq] at hq1
  rw [← hr] at hr1
  have HA := Lib.hid (fun W => limbsOf_calls W q (by omega))
  have HC := Lib.hid (fun W => limbsOf_calls W r (by omega))
  have l1 : ((limbs n).length : Int) ≤ ((limbs m).length : Int) := by omega
  have l2 : decide (((limbs m).length : Int) ≤ 2) = true := decide_eq_true (by omega)
  clear hvx hvy hq hr hq1 hr1 bm bn h h2 kx ky bx by_
  go_enter Tryz.func221, Tryz.ntmps221
  go_wp2_with fail
  refine HX.out.mono ?_
  rintro e w' ⟨rfl, rfl⟩
  go_wp2_with fail
  refine HY.out.mono ?_
  rintro e w' ⟨rfl, rfl⟩
  obtain ⟨b1, b2, b3⟩ := HF.out
  clear l1 l2
  go_wp2_with fail
  go_region_held3 (fun _ => True) (exact True.intro) ((first
    | (go_at_call 150; ((with_reducible refine (HA.out _).mono ?_)); rintro e w1 ⟨v1, rfl, hv1, e1⟩)
    | (go_at_call 150; ((with_reducible refine (HC.out _).mono ?_)); rintro e w2 ⟨v2, rfl, hv2, e2⟩)))
  go_wp2
  go_ret2
  exact ⟨v1, v2, rfl, hv1.ext e2, hv2, e1.of_drew.trans e2⟩

def DM (z1 z2 q r : Int) : Prop := z1 = q * z2 + r ∧ (0 ≤ r ∧ r < z2 ∨ z2 < r ∧ r ≤ 0) ∧ q.natAbs ≤ z1.natAbs ∧ r.natAbs < z2.natAbs
theorem xor_xor (s s' : Bool) : (!((!(s == s')) == s')) = s := by cases s <;> cases s' <;> rfl
theorem sgn_range (s : Bool) (r n : Nat) (h : r < n) : 0 ≤ sgn s r ∧ sgn s r < sgn s n ∨ sgn s n < sgn s r ∧ sgn s r ≤ 0 := by
  cases s
  · left; simp [sgn]; omega
  · right; simp [sgn]; omega
theorem dm_same (s s' : Bool) (m n : Nat) (hn : 0 < n) (h : s = s' ∨ m % n = 0) : DM (sgn s m) (sgn s' n) (sgn (!(s == s')) (m / n)) (sgn s' (m % n)) := by
  have e := Nat.div_add_mod m n
  have hr := Nat.mod_lt m hn
  have hq := Nat.div_le_self m n
  rw [Nat.mul_comm] at e
  refine ⟨?_, sgn_range s' _ _ hr, by rw [natAbs_sgn, natAbs_sgn]; exact hq, by rw [natAbs_sgn, natAbs_sgn]; exact hr⟩
  rw [sgn_mul, xor_xor]
  rcases h with rfl | h0
  · rw [sgn_add_same, e]
  · rw [h0] at e ⊢
    rw [sgn_zero, Int.add_zero]; rw [Nat.add_zero] at e; rw [e]
theorem dm_other (s s' : Bool) (m n : Nat) (hn : 0 < n) (h : s ≠ s') (hr0 : m % n ≠ 0) : DM (sgn s m) (sgn s' n) (sgn (!(s == s')) (m / n + 1)) (sgn s' (n - m % n)) := by
  have e := Nat.div_add_mod m n
  have hr := Nat.mod_lt m hn
  have hq : m / n + 1 ≤ m := by
    have h2 : 2 ≤ n := by
      rcases Nat.lt_or_ge n 2 with h1 | h1
      · obtain rfl : n = 1 := by omega
        rw [Nat.mod_one] at hr0; omega
      · exact h1
    have hm : 0 < m := by
      rcases Nat.eq_zero_or_pos m with h1 | h1
      · subst h1; simp at hr0
      · exact h1
    exact Nat.div_lt_self hm h2
  rw [Nat.mul_comm] at e
  refine ⟨?_, sgn_range s' _ _ (by omega), by rw [natAbs_sgn, natAbs_sgn]; exact hq, by rw [natAbs_sgn, natAbs_sgn]; omega⟩
  rw [sgn_mul, xor_xor]
  have hle : n - m % n ≤ (m / n + 1) * n := by rw [Nat.add_mul]; omega
  rw [sgn_add_ge _ _ _ _ h hle]
  congr 1
  rw [Nat.add_mul]; omega

theorem boxes2rr (w : World) (u0 u1 v0 v1 : Value) (t : TypeId) : ∃ W, ((((w.alloc (.cells #[u0, u1] t)).alloc (.cells #[v0, v1] t)).alloc (.cells #[.bool false, .slice none 0 0] t)).alloc (.cells #[.bool false, .slice none 0 0] t)) = W ∧ Ext w W ∧
    W.cell? ⟨w.heap.size, 0, none⟩ = some u0 ∧ W.cell? ⟨w.heap.size, 1, none⟩ = some u1 ∧ W.cell? ⟨w.heap.size + 1, 0, none⟩ = some v0 ∧ W.cell? ⟨w.heap.size + 1, 1, none⟩ = some v1 ∧
    (W.cell? ⟨w.heap.size + 2, 0, none⟩ = some (.bool false) ∧ W.cell? ⟨w.heap.size + 2, 1, none⟩ = some (.slice none 0 0) ∧ W.frozen? ⟨w.heap.size + 2, 0, none⟩ = false ∧ W.frozen? ⟨w.heap.size + 2, 1, none⟩ = false) ∧
    (W.cell? ⟨w.heap.size + 3, 0, none⟩ = some (.bool false) ∧ W.cell? ⟨w.heap.size + 3, 1, none⟩ = some (.slice none 0 0) ∧ W.frozen? ⟨w.heap.size + 3, 0, none⟩ = false ∧ W.frozen? ⟨w.heap.size + 3, 1, none⟩ = false) := by
  obtain ⟨V, hV, eV, c0, c1, d0, d1, r0, r1, f0, f1⟩ := boxes2r w u0 u1 v0 v1 t
  obtain ⟨W, hW, eW, _, a0, a1, a2, a3⟩ := res_new V t
  have hz : V.heap.size = w.heap.size + 3 := by rw [← hV]; simp
  rw [hz] at a0 a1 a2 a3
  exact ⟨W, by rw [hV, hW], eV.trans eW, eW.cell c0, eW.cell c1, eW.cell d0, eW.cell d1, ⟨eW.cell r0, eW.cell r1, eW.frozen (z0q r0) f0, eW.frozen (z0q r1) f1⟩, a0, a1, a2, a3⟩

theorem isInt_raw {w : World} {ao : Option Addr} {cap n : Nat} {s : Bool} (h1 : (limbs n).length ≤ cap) (h2 : cap ≤ 9223372036854775807) (h3 : Cells w ao (limbs n)) (h4 : s = true → 0 < n) :
    Raw w (.agg #[.bool s, .slice ao (limbs n).length cap]) s (limbs n) ∧ okB s (limbs n) = true := by
  refine ⟨⟨ao, cap, rfl, h1, h2, h3⟩, ?_⟩
  rcases Nat.eq_zero_or_pos n with h0 | h0
  · subst h0
    rw [limbs_zero, okB_nil]
    cases s
    · rfl
    · exact absurd (h4 rfl) (by omega)
  · rw [okB_dig (z6q n) (limbs_pos h0)]
    have := limbs_last n (by intro e; have := limbs_eq_nil.1 e; omega)
    simpa using this

theorem IsInt.store2 {w2 : World} {v : Value} {z : Int} {r : Nat} {b0 : Bool} {a0 : Option Addr} {l0 k0 : Nat} (h : IsInt w2 v z)
    (c0 : w2.cell? ⟨r, 0, none⟩ = some (.bool b0)) (c1 : w2.cell? ⟨r, 1, none⟩ = some (.slice a0 l0 k0)) (u0 u1 : Value) : IsInt ((w2.setCell ⟨r, 0, none⟩ u0).setCell ⟨r, 1, none⟩ u1) v z := by
  obtain ⟨ao', cap', hv, h1, h2, h3⟩ := h
  have k1 : (w2.setCell ⟨r, 0, none⟩ u0).cell? ⟨r, 1, none⟩ = some (.slice a0 l0 k0) := by
    rw [World.cell?_setCell_other _ _ _ _ (by simp)]; exact c1
  exact ⟨ao', cap', hv, h1, h2, (h3.store c0 (by simp) _).store k1 (by simp) _⟩
def RetDM (z1 z2 : Int) (w : World) (e : Ending) (w' : World) : Prop :=
  ∃ v1 v2 q r, e = .returned (.tuple #[v1, v2, .int .i64 0]) ∧ IsInt w' v1 q ∧ IsInt w' v2 r ∧ DM z1 z2 q r ∧ Ext w w'

theorem fin_dm {w w2 : World} {v4 v5 u0 u1 u2 u3 : Value} {b0 b1 : Bool} {a0 a1 : Option Addr} {l0 k0 l1 k1 : Nat} {z1 z2 q r : Int} {g : Nat} (h4 : IsInt w2 v4 q) (h5 : IsInt w2 v5 r) (hdm : DM z1 z2 q r)
    (c0 : w2.cell? ⟨g, 0, none⟩ = some (.bool b0)) (c1 : w2.cell? ⟨g, 1, none⟩ = some (.slice a0 l0 k0)) (d0 : w2.cell? ⟨g + 1, 0, none⟩ = some (.bool b1)) (d1 : w2.cell? ⟨g + 1, 1, none⟩ = some (.slice a1 l1 k1))
    (hr : w.heap.size ≤ g) (e : Ext w w2) :
    RetDM z1 z2 w (.returned (.tuple #[v4, v5, .int .i64 0])) ((((w2.setCell ⟨g, 0, none⟩ u0).setCell ⟨g, 1, none⟩ u1).setCell ⟨g + 1, 0, none⟩ u2).setCell ⟨g + 1, 1, none⟩ u3) := by
  have k0 := z3q (x := u0) (y := u1) (i := 0) (j := 1) (r := g) d0 (by omega)
  have k1 := z3q (x := u0) (y := u1) (i := 0) (j := 1) (r := g) d1 (by omega)
  exact ⟨v4, v5, q, r, rfl, (h4.store2 c0 c1 _ _).store2 k0 k1 _ _, (h5.store2 c0 c1 _ _).store2 k0 k1 _ _, hdm,
    (((e.setCell (p := ⟨g, 0, none⟩) hr _).setCell (p := ⟨g, 1, none⟩) hr _).setCell (p := ⟨g + 1, 0, none⟩) (Nat.le_succ_of_le hr) _).setCell (p := ⟨g + 1, 1, none⟩) (Nat.le_succ_of_le hr) _⟩

set_option maxRecDepth 100000 in
set_option maxHeartbeats 6400000 in
theorem divMod_calls (w : World) (v1 v2 : Value) (z1 z2 : Int) (h : IsInt w v1 z1) (k : IsInt w v2 z2) (l1 : Sm z1) (l2 : Sm z2) (hz2 : z2 ≠ 0) (hD : DivOK z1.natAbs z2.natAbs) :
    Calls Tryz.prog 207 #[v1, v2] w (RetDM z1 z2 w) := by
  obtain ⟨ao, cap, s, n, rfl, h1, h2, h3, H4, H5, H6⟩ := h.open_
  obtain ⟨ao', cap', s', n', rfl, k1, k2, k3, K4, K5, K6⟩ := k.open_
  unfold Sm at l1 l2
  rw [← H4.out] at l1
  rw [← K4.out] at l2
  rw [← H4.out, ← K4.out] at hD
  have hn0 : 0 < n' := by have := K4.out; omega
  obtain ⟨W, hW, eW, c0, c1, d0, d1, ⟨q0, q1, fq0, fq1⟩, ⟨r0, r1, fr0, fr1⟩⟩ := boxes2rr w (.bool s) (.slice ao (limbs n).length cap) (.bool s') (.slice ao' (limbs n').length cap') 24
  have HVA := Lib.hid (isInt_raw h1 h2 h3 H6.out)
  have HVB := Lib.hid (isInt_raw k1 k2 k3 K6.out)
  have hbe : (((limbs n').length : Int) == 0) = false := by have := limbs_pos hn0; rw [beq_eq_false_iff_ne]; omega
  have HN := Lib.hid hn0
  clear hn0
  go_enter Tryz.func207, Tryz.ntmps207
  go_wp2_with fail
  clear hW
  refine (valid_calls W _ s (limbs n) (HVA.out.1.ext eW)).mono ?_
  rintro e w1 ⟨rfl, e1⟩
  rw [HVA.out.2]
  replace c0 := e1.cell c0
  replace c1 := e1.cell c1
  replace d0 := e1.cell d0
  replace d1 := e1.cell d1
  go_wp2_with fail
  refine (valid_calls w1 _ s' (limbs n') (HVB.out.1.ext (eW.trans e1))).mono ?_
  rintro e w2 ⟨rfl, e2⟩
  rw [HVB.out.2]
  replace c0 := e2.cell c0
  replace c1 := e2.cell c1
  replace d0 := e2.cell d0
  replace d1 := e2.cell d1
  go_wp2_with fail
  refine (hD w2 ao ao' cap cap' h1 k1 h2 k2 (h3.ext ((eW.trans e1).trans e2)) (k3.ext ((eW.trans e1).trans e2))).mono ?_
  rintro e w3 ⟨u1, u2, rfl, ⟨aq, cq, rfl, m1, m2, m3⟩, ⟨ar, cr, rfl, p1, p2, p3⟩, e3⟩
  replace c0 := e3.cell c0
  replace c1 := e3.cell c1
  replace d0 := e3.cell d0
  replace d1 := e3.cell d1
  have eA := (e1.trans e2).trans e3
  have hlq := z0q q0
  have hlr := z0q r0
  replace q0 := eA.cell q0
  replace q1 := eA.cell q1
  replace r0 := eA.cell r0
  replace r1 := eA.cell r1
  replace fq0 := eA.frozen (p := ⟨w.heap.size + 2, 0, none⟩) hlq fq0
  replace fq1 := eA.frozen (p := ⟨w.heap.size + 2, 1, none⟩) hlq fq1
  replace fr0 := eA.frozen (p := ⟨w.heap.size + 3, 0, none⟩) hlr fr0
  replace fr1 := eA.frozen (p := ⟨w.heap.size + 3, 1, none⟩) hlr fr1
  replace eW := eW.trans eA
  clear hlq hlr e1 e2 e3 eA hD
  by_cases hs : s = s'
  · subst hs
    have hb : (s == s) = true := by cases s <;> rfl
    have HE : Hid (DM z1 z2 (sgn false (n / n')) (sgn s (n % n'))) := by
      unfold Hid; rw [H5.out, K5.out]; have := dm_same s s n n' HN.out (.inl rfl); rw [hb] at this; exact this
    go_wp2_with fail
    clear c1 d1 HVA HVB hbe H4 H5 H6 K4 K5 K6 h k hz2 l1 l2 hb
    have c0d : w3.drew.cell? ⟨w.heap.size, 0, none⟩ = some (.bool s) := c0
    have d0d : w3.drew.cell? ⟨w.heap.size + 1, 0, none⟩ = some (.bool s) := d0
    go_region_held3 (fun w' => w'.cell? ⟨w.heap.size, 0, none⟩ = some (.bool s) ∧ w'.cell? ⟨w.heap.size + 1, 0, none⟩ = some (.bool s))
      (first | with_reducible exact ⟨c0d, d0d⟩ | with_reducible exact ⟨c04, d04⟩ | with_reducible exact ⟨c05, d05⟩ | with_reducible exact ⟨z3q c05 (by omega), z3q d05 (by omega)⟩ | exact ⟨z3q (z3q c05 (by omega)) (by omega), z3q (z3q d05 (by omega)) (by omega)⟩) ((first
        | (go_at_call 149; ((with_reducible refine (signedL_calls _ _ _ _ _ m1 m2 m3.drew).mono ?_)); rintro e w4 ⟨v4, rfl, hI4, e4⟩; obtain ⟨ao4, cap4, s4, n4, rfl, _⟩ := hI4.open_; have c04 := e4.of_drew.cell c0; have d04 := e4.of_drew.cell d0)
        | (go_at_call 149; ((with_reducible refine (signedL_calls _ _ _ _ _ p1 p2 (p3.ext e4.of_drew)).mono ?_)); rintro e w5 ⟨v5, rfl, hI5, e5⟩; obtain ⟨ao5, cap5, s5, n5, rfl, _⟩ := hI5.open_; have c05 := e5.cell c04; have d05 := e5.cell d04; have eB := e4.of_drew.trans e5; have q05 := eB.cell q0; have q15 := eB.cell q1; have r05 := eB.cell r0; have r15 := eB.cell r1; have fq05 := eB.frozen (z0q q0) fq0; have fq15 := eB.frozen (z0q q1) fq1; have fr05 := eB.frozen (z0q r0) fr0; have fr15 := eB.frozen (z0q r1) fr1)))
    go_wp2
    exact bodyPost_ret (v := .tuple #[.agg #[.bool s4, .slice ao4 (limbs n4).length cap4], .agg #[.bool s5, .slice ao5 (limbs n5).length cap5], .int .i64 0]) (by simp [results, Tryz.results207, go_sem, q05, q15, r05, r15]) rfl (fin_dm (hI4.ext e5) hI5 HE.out q05 q15 r05 r15 (by omega) (eW.trans eB))
  · have hb : (s == s') = false := by cases s <;> cases s' <;> simp_all
    by_cases hr0 : n % n' = 0
    · have HE : Hid (DM z1 z2 (sgn (!(s == s')) (n / n')) (sgn s' (n % n'))) := by
        unfold Hid; rw [H5.out, K5.out]; exact dm_same s s' n n' HN.out (.inr hr0)
      have hl0 : (((limbs (n % n')).length : Int) != 0) = false := by rw [hr0]; rfl
      clear hr0 hs
      go_wp2_with fail
      clear c1 d1 HVA HVB hbe H4 H5 H6 K4 K5 K6 h k hz2 l1 l2 hb
      have c0d : w3.drew.cell? ⟨w.heap.size, 0, none⟩ = some (.bool s) := c0
      have d0d : w3.drew.cell? ⟨w.heap.size + 1, 0, none⟩ = some (.bool s') := d0
      go_region_held3 (fun w' => w'.cell? ⟨w.heap.size, 0, none⟩ = some (.bool s) ∧ w'.cell? ⟨w.heap.size + 1, 0, none⟩ = some (.bool s'))
        (first | with_reducible exact ⟨c0d, d0d⟩ | with_reducible exact ⟨c04, d04⟩ | with_reducible exact ⟨c05, d05⟩ | with_reducible exact ⟨z3q c05 (by omega), z3q d05 (by omega)⟩ | exact ⟨z3q (z3q c05 (by omega)) (by omega), z3q (z3q d05 (by omega)) (by omega)⟩) ((first
          | (go_at_call 149; ((with_reducible refine (signedL_calls _ _ _ _ _ m1 m2 m3.drew).mono ?_)); rintro e w4 ⟨v4, rfl, hI4, e4⟩; obtain ⟨ao4, cap4, s4, n4, rfl, _⟩ := hI4.open_; have c04 := e4.of_drew.cell c0; have d04 := e4.of_drew.cell d0)
          | (go_at_call 149; ((with_reducible refine (signedL_calls _ _ _ _ _ p1 p2 (p3.ext e4.of_drew)).mono ?_)); rintro e w5 ⟨v5, rfl, hI5, e5⟩; obtain ⟨ao5, cap5, s5, n5, rfl, _⟩ := hI5.open_; have c05 := e5.cell c04; have d05 := e5.cell d04; have eB := e4.of_drew.trans e5; have q05 := eB.cell q0; have q15 := eB.cell q1; have r05 := eB.cell r0; have r15 := eB.cell r1; have fq05 := eB.frozen (z0q q0) fq0; have fq15 := eB.frozen (z0q q1) fq1; have fr05 := eB.frozen (z0q r0) fr0; have fr15 := eB.frozen (z0q r1) fr1)))
      go_wp2
      exact bodyPost_ret (v := .tuple #[.agg #[.bool s4, .slice ao4 (limbs n4).length cap4], .agg #[.bool s5, .slice ao5 (limbs n5).length cap5], .int .i64 0]) (by simp [results, Tryz.results207, go_sem, q05, q15, r05, r15]) rfl (fin_dm (hI4.ext e5) hI5 HE.out q05 q15 r05 r15 (by omega) (eW.trans eB))
    · have HE : Hid (DM z1 z2 (sgn (!(s == s')) (n / n' + 1)) (sgn s' (n' - n % n'))) := by
        unfold Hid; rw [H5.out, K5.out]; exact dm_other s s' n n' HN.out hs hr0
      have hl0 : (((limbs (n % n')).length : Int) != 0) = true := by have := limbs_pos (n := n % n') (by omega); rw [bne_iff_ne]; omega
      have hrl : n % n' ≤ n' := Nat.le_of_lt (Nat.mod_lt _ HN.out)
      have hql : (limbs (n / n')).length ≤ 1048576 := Nat.le_trans (z12q (Nat.div_le_self _ _)) l1
      have HRL := Lib.hid (And.intro hrl hql)
      have hadd := addLimbs_calls (w3.alloc (.cells #[.int .u32 1] 149)) aq (some ⟨w3.heap.size, 0, none⟩) (limbs (n / n')) [1] cq 1 (by omega) (by simp) (m3.ext ((Ext.refl w3).alloc _)) (Blk.new w3 [1]).cells (z6q _) (Dig.cons (by omega) Dig.nil)
      rw [z1q, show val [1] = 1 from rfl] at hadd
      have HA := Lib.hid hadd
      clear hr0 hs hrl hql hadd
      go_wp2_with fail
      refine HA.out.mono ?_
      rintro e w6 ⟨u6, rfl, ⟨a6, c6, rfl, x1, x2, x3⟩, e6⟩
      replace e6 := ((Ext.refl w3).alloc _).trans e6
      replace c0 := e6.cell c0
      replace c1 := e6.cell c1
      replace d0 := e6.cell d0
      replace d1 := e6.cell d1
      replace fq0 := e6.frozen (z0q q0) fq0
      replace fq1 := e6.frozen (z0q q1) fq1
      replace fr0 := e6.frozen (z0q r0) fr0
      replace fr1 := e6.frozen (z0q r1) fr1
      replace q0 := e6.cell q0
      replace q1 := e6.cell q1
      replace r0 := e6.cell r0
      replace r1 := e6.cell r1
      replace eW := eW.trans e6
      replace p3 := p3.ext e6
      have hsub := Lib.hid (subtractLimbs_calls w6 ao' ar n' (n % n') cap' cr (by omega) HRL.out.1 k1 (k3.ext eW) p3)
      clear HA HRL e6
      go_wp2_with fail
      refine hsub.out.mono ?_
      rintro e w7 ⟨u7, rfl, ⟨a7, c7, rfl, y1, y2, y3⟩, e7⟩
      replace c0 := e7.cell c0
      replace c1 := e7.cell c1
      replace d0 := e7.cell d0
      replace d1 := e7.cell d1
      replace fq0 := e7.frozen (z0q q0) fq0
      replace fq1 := e7.frozen (z0q q1) fq1
      replace fr0 := e7.frozen (z0q r0) fr0
      replace fr1 := e7.frozen (z0q r1) fr1
      replace q0 := e7.cell q0
      replace q1 := e7.cell q1
      replace r0 := e7.cell r0
      replace r1 := e7.cell r1
      replace eW := eW.trans e7
      replace x3 := x3.ext e7
      clear e7 hsub
      go_wp2_with fail
      clear c1 d1 HVA HVB hbe H4 H5 H6 K4 K5 K6 h k hz2 l1 l2 hb
      have c0d : w7.drew.cell? ⟨w.heap.size, 0, none⟩ = some (.bool s) := c0
      have d0d : w7.drew.cell? ⟨w.heap.size + 1, 0, none⟩ = some (.bool s') := d0
      go_region_held3 (fun w' => w'.cell? ⟨w.heap.size, 0, none⟩ = some (.bool s) ∧ w'.cell? ⟨w.heap.size + 1, 0, none⟩ = some (.bool s'))
        (first | with_reducible exact ⟨c0d, d0d⟩ | with_reducible exact ⟨c04, d04⟩ | with_reducible exact ⟨c05, d05⟩ | with_reducible exact ⟨z3q c05 (by omega), z3q d05 (by omega)⟩ | exact ⟨z3q (z3q c05 (by omega)) (by omega), z3q (z3q d05 (by omega)) (by omega)⟩) ((first
          | (go_at_call 149; ((with_reducible refine (signedL_calls _ _ _ _ _ x1 x2 x3.drew).mono ?_)); rintro e w4 ⟨v4, rfl, hI4, e4⟩; obtain ⟨ao4, cap4, s4, n4, rfl, _⟩ := hI4.open_; have c04 := e4.of_drew.cell c0; have d04 := e4.of_drew.cell d0)
          | (go_at_call 149; ((with_reducible refine (signedL_calls _ _ _ _ _ y1 y2 (y3.ext e4.of_drew)).mono ?_)); rintro e w5 ⟨v5, rfl, hI5, e5⟩; obtain ⟨ao5, cap5, s5, n5, rfl, _⟩ := hI5.open_; have c05 := e5.cell c04; have d05 := e5.cell d04; have eB := e4.of_drew.trans e5; have q05 := eB.cell q0; have q15 := eB.cell q1; have r05 := eB.cell r0; have r15 := eB.cell r1; have fq05 := eB.frozen (z0q q0) fq0; have fq15 := eB.frozen (z0q q1) fq1; have fr05 := eB.frozen (z0q r0) fr0; have fr15 := eB.frozen (z0q r1) fr1)))
      go_wp2
      exact bodyPost_ret (v := .tuple #[.agg #[.bool s4, .slice ao4 (limbs n4).length cap4], .agg #[.bool s5, .slice ao5 (limbs n5).length cap5], .int .i64 0]) (by simp [results, Tryz.results207, go_sem, q05, q15, r05, r15]) rfl (fin_dm (hI4.ext e5) hI5 HE.out q05 q15 r05 r15 (by omega) (eW.trans eB))

end Go.Proofs.YtifeacfljfmnpaaGreat
end

section
set_option maxRecDepth 100000
namespace Go.Proofs.YtifeacfljfmnpaaGreat
open Go.RowKit
set_option maxRecDepth 100000 in
set_option maxHeartbeats 800000 in
theorem gcdSmall_calls (w : World) (m n : Nat) (hm : m ≤ 18446744073709551615) (hn : n ≤ 18446744073709551615) :
    Calls Tryz.prog 222 #[.int .u64 (m : Int), .int .u64 (n : Int)] w fun e w' => e = .returned (.int .u64 ((Nat.gcd m n : Nat) : Int)) ∧ Ext w w' := by
  have HMN := Lib.hid (And.intro hm hn)
  clear hm hn
  go_enter Tryz.func222, Tryz.ntmps222
  go_wp2
  go_loopw [0, 1] (fun x y wr => ∃ a b : Nat, x = .int .u64 a ∧ y = .int .u64 b ∧ Hid (a ≤ 18446744073709551615 ∧ b ≤ 18446744073709551615) ∧ Hid (Nat.gcd a b = Nat.gcd m n) ∧ Ext w wr) (fun _ y _ => (intOf y).toNat)
  case atStart => exact ⟨m, n, rfl, rfl, HMN, rfl, Ext.refl w⟩
  case round =>
    obtain ⟨a, b, rfl, rfl, HAB, HG, hE⟩ := hrel
    rcases Nat.eq_zero_or_pos b with h0 | h0
    · subst h0
      go_wp2
      go_ret
      exact ⟨ret_int (by rw [← HG.out, Nat.gcd_zero_right]), hE⟩
    · have hb0 : ((b : Int) != 0) = true := by rw [bne_iff_ne]; omega
      obtain ⟨r, hr⟩ : ∃ r, r = a % b := ⟨_, rfl⟩
      have hrb := Nat.mod_lt a h0
      obtain ⟨f1, f2⟩ := rem_nat a b r hr
      have h1 : ¬ b = 0 := by omega
      have HR := Lib.hid (show r < b ∧ Nat.gcd b r = Nat.gcd m n by
        rw [hr]
        refine ⟨hrb, ?_⟩
        rw [← HG.out, Nat.gcd_comm a b, Nat.gcd_rec b a, Nat.gcd_comm])
      clear hr hrb h0
      go_wp2
      go_quiet (fail)
      go_wp2
      go_roundw
      case rel => exact ⟨b, r, rfl, by first | rfl | exact vint f1, ⟨HAB.out.2, by have := HR.out.1; have := HAB.out.2; omega⟩, HR.out.2, hE.drewN _⟩
      case measure => have := HR.out.1; simp [intOf]; omega

end Go.Proofs.YtifeacfljfmnpaaGreat
end

section
set_option maxRecDepth 100000
namespace Go.Proofs.YtifeacfljfmnpaaGreat
open Go.RowKit
set_option maxRecDepth 100000 in
set_option maxHeartbeats 800000 in
theorem div64_zero (w : World) (m n : Nat) (hm : m ≤ 18446744073709551615) (hn : 0 < n) :
    Calls Tryz.prog 233 #[.int .u64 0, .int .u64 (m : Int), .int .u64 (n : Int)] w fun e w' => e = .returned (.tuple #[.int .u64 ((m / n : Nat) : Int), .int .u64 ((m % n : Nat) : Int)]) ∧ Ext w w' := by
  obtain ⟨q, hq⟩ : ∃ q, q = m / n := ⟨_, rfl⟩
  obtain ⟨r, hr⟩ : ∃ r, r = m % n := ⟨_, rfl⟩
  have f0 := wrap_quo m n q hm hq
  obtain ⟨f1, f2⟩ := rem_nat m n r hr
  rw [← hq, ← hr]
  have h0 : ((n : Int) == 0) = false := by rw [beq_eq_false_iff_ne]; omega
  have h1 : ¬ n = 0 := by omega
  have h2 : (0 : Int) < (n : Int) := by omega
  clear hq hr hm hn
  go_enter Tryz.func233, Tryz.ntmps233
  go_wp2
  go_quiet (fail)
  go_wp2
  go_ret2
  exact ⟨rfl, (Ext.refl w).drewN _⟩

end Go.Proofs.YtifeacfljfmnpaaGreat
end

section
set_option maxRecDepth 100000
namespace Go.Proofs.YtifeacfljfmnpaaGreat
open Go.RowKit
end Go.Proofs.YtifeacfljfmnpaaGreat
end

section
set_option maxRecDepth 100000
namespace Go.Proofs.YtifeacfljfmnpaaGreat
open Go.RowKit
end Go.Proofs.YtifeacfljfmnpaaGreat
end

section
set_option maxRecDepth 100000
namespace Go.Proofs.YtifeacfljfmnpaaGreat
open Go.RowKit
set_option maxRecDepth 100000
theorem run_append_nil {P : Program} {w : World} (base : Nat) (t ty e : TypeId) (i : TypeInfo) (size : Nat) (ht : P.underlying t = some (.slice e)) (hi : P.info? e = some i)
    (v : Value) (n : Nat) (xs : List Value) (hown : w.ownsRow base e size v n xs) (c : Nat) : (Builtin.append_ #[t, t] ty #[v, .slice none 0 c]).run P w = .ok v w := by
  rcases hown.2 with ⟨rfl, rfl⟩ | ⟨g, cap, cur, rfl, _, _, hnc, _⟩
  · simp [Builtin.append_, run_underlying ht, sizeOf, typeInfo, hi, Builtin.lenOf, Builtin.firstCells]
  · simp [Builtin.append_, run_underlying ht, sizeOf, typeInfo, hi, Builtin.lenOf, Builtin.firstCells, hnc, storeCells]
end Go.Proofs.YtifeacfljfmnpaaGreat
end

section
set_option maxRecDepth 100000
namespace Go.Proofs.YtifeacfljfmnpaaGreat
open Go.ChangeShapes Go.WideShapes Go.ChangeAt Go.RowKit Go.Joins
theorem own : ownKnob Tryz.prog.godebug = none := by kernel_rfl
theorem laidOut : laidOutB Tryz.prog = true := by kernel_rfl

theorem open_cells {H : Type} {enc : TypeId × Value → H} {W : World} {base : Nat} {spare : Nat → Bool} {held : Bool} {v0 v1 : Value} {y0 y1 : DataW H × List MemPlace} {n : Nat}
    (h0 : DataW.trod enc Tryz.prog W base spare held n 4 [v0] = some y0) (h1 : DataW.trod enc Tryz.prog W base spare held n 22 [v1] = some y1) : ∃ neg xs, Raw W (.agg #[v0, v1]) neg xs := by
  obtain ⟨b, hb0, _⟩ := DataW.trod_bool Tryz.underlying4 h0
  simp only [List.cons.injEq, and_true] at hb0
  subst hb0
  rcases open_ints Tryz.underlying22 Tryz.underlying149 (by kernel_rfl) h1 with ⟨hcs, _⟩ | ⟨x, l, c, zs, hcs, _, hl, hm, hz, _, hcell, hwz⟩
  · simp only [List.cons.injEq, and_true] at hcs
    subst hcs
    exact ⟨b, [], none, 0, rfl, by simp, by omega, Cells.nil _ _⟩
  · simp only [List.cons.injEq, and_true] at hcs
    subst hcs
    have hlz : l ≤ zs.length := by rw [hz]; split <;> omega
    have hlen : ((zs.take l).map Int.toNat).length = l := by simp [hlz]
    refine ⟨b, (zs.take l).map Int.toNat, some x, c, by rw [hlen], by rw [hlen]; exact hl, by unfold maxLen at hm; omega, ?_⟩
    rcases Nat.eq_zero_or_pos l with h0 | h0
    · exact .inl (List.eq_nil_of_length_eq_zero (by rw [hlen]; exact h0))
    · obtain ⟨bb, off, rfl, hc⟩ := ints_at hcell (by omega)
      refine .inr ⟨bb, off, rfl, fun i hi => ?_⟩
      rw [hlen] at hi
      rw [hc i (by omega)]
      have hmem : zs.getD i 0 ∈ zs := by
        rw [List.getD_eq_getElem?_getD, List.getElem?_eq_getElem (by omega)]
        exact List.getElem_mem _
      have hw := hwz _ hmem
      have hb2 : 0 ≤ zs.getD i 0 := by
        have : 0 ≤ zs.getD i 0 ∧ zs.getD i 0 ≤ 4294967295 := by simpa [Lit.wf, IntKind.min, IntKind.max, IntKind.signed, IntKind.bits] using hw
        exact this.1
      have he : ((zs.take l).map Int.toNat).getD i 0 = (zs.getD i 0).toNat := by
        simp only [List.getD_eq_getElem?_getD, List.getElem?_map, List.getElem?_take]
        rw [if_pos hi]
        rw [List.getElem?_eq_getElem (by omega)]
        rfl
      rw [he]
      congr 2
      omega

end Go.Proofs.YtifeacfljfmnpaaGreat
end

section
set_option maxRecDepth 100000
namespace Go.Proofs.YtifeacfljfmnpaaGreat
open Go.RowKit
def AllOps (F : Nat → Oper → Prop) : Nat → List Oper → Prop
  | _, [] => True
  | k, o :: r => F k o ∧ AllOps F (k + 1) r
theorem AllOps.nil {F : Nat → Oper → Prop} {k : Nat} : AllOps F k [] := True.intro
theorem AllOps.cons {F : Nat → Oper → Prop} {k : Nat} {o : Oper} {r : List Oper} (h : F k o) (t : AllOps F (k + 1) r) : AllOps F k (o :: r) := ⟨h, t⟩
theorem AllOps.get {F : Nat → Oper → Prop} : ∀ {l : List Oper} {k : Nat}, AllOps F k l → ∀ (i : Nat) (o : Oper), l[i]? = some o → F (k + i) o := by
  intro l
  induction l with
  | nil => intro k _ i o h; simp at h
  | cons x r ih =>
    intro k h i o hi
    cases i with
    | zero => simp at hi; subst hi; exact h.1
    | succ i =>
      have := ih h.2 i o (by simpa using hi)
      rwa [Nat.add_assoc, Nat.add_comm 1] at this
def preds (o : Oper) : List Nat := (o.after.toList.filter (Region.binds .any)).map (·.on)
theorem preds_spec {o : Oper} {s : Array Bool} (h : ∀ e ∈ o.after, Region.binds .any e = true → s.getD e.on false = true) : ∀ j ∈ preds o, s.getD j false = true := by
  intro j hj
  unfold preds at hj
  obtain ⟨e, he, rfl⟩ := List.mem_map.1 hj
  obtain ⟨h1, h2⟩ := List.mem_filter.1 he
  exact h e (by simpa using h1) h2
def backB : Nat → List Oper → Bool
  | _, [] => true
  | k, o :: r => (preds o).all (fun j => decide (j < k)) && backB (k + 1) r
theorem backB_get : ∀ {l : List Oper} {k : Nat}, backB k l = true → ∀ (i : Nat) (o : Oper), l[i]? = some o → ∀ j ∈ preds o, j < k + i := by
  intro l
  induction l with
  | nil => intro k _ i o h; simp at h
  | cons x r ih =>
    intro k h i o hi j hj
    simp only [backB, Bool.and_eq_true, List.all_eq_true, decide_eq_true_iff] at h
    cases i with
    | zero => simp at hi; subst hi; exact h.1 j hj
    | succ i =>
      have := ih h.2 i o (by simpa using hi) j hj
      omega
theorem all_listed {l : List Oper} {s : Array Bool} (hs : s.size = l.length) (hb : backB 0 l = true) (hr : Region.ready .any l.toArray s = []) : ∀ i, i < l.length → s.getD i false = true := by
  intro i
  induction i using Nat.strongRecOn with
  | _ i ih =>
    intro hi
    rcases hv : s.getD i false with _ | _
    · exfalso
      have hmem : i ∈ Region.ready .any l.toArray s := by
        rw [mem_ready]
        refine ⟨?_, l[i], by simp [hi], ?_⟩
        · simp only [Array.getD_eq_getD_getElem?] at hv ⊢
          rw [Array.getElem?_eq_getElem (by omega)] at hv ⊢
          simpa using hv
        · intro e he hbd
          have hp : e.on ∈ preds l[i] := by
            unfold preds
            exact List.mem_map.2 ⟨e, List.mem_filter.2 ⟨by simpa using he, hbd⟩, rfl⟩
          have := backB_get hb i l[i] (by simp [hi]) e.on hp
          exact ih e.on (by omega) (by omega)
      rw [hr] at hmem; cases hmem
    · rfl
def unlisted (s : Array Bool) (n : Nat) : Nat := ((List.range n).filter fun i => !s.getD i true).length
theorem filter_lt {α : Type} (p q : α → Bool) : ∀ (l : List α), (∀ x ∈ l, q x = true → p x = true) → (∃ x ∈ l, p x = true ∧ q x = false) → (l.filter q).length < (l.filter p).length := by
  intro l
  induction l with
  | nil => intro _ ⟨x, hx, _⟩; cases hx
  | cons y r ih =>
    intro h ⟨x, hx, hp, hq⟩
    have hle : (r.filter q).length ≤ (r.filter p).length := by
      have : ∀ (l : List α), (∀ x ∈ l, q x = true → p x = true) → (l.filter q).length ≤ (l.filter p).length := by
        intro l
        induction l with
        | nil => intro _; simp
        | cons z t iht =>
          intro hz
          have := iht (fun x hx => hz x (List.mem_cons_of_mem _ hx))
          have hzz := hz z (by simp)
          simp only [List.filter_cons]
          cases hqz : q z
          · cases hpz : p z <;> simp <;> omega
          · rw [hzz hqz]; simp; exact this
      exact this r (fun x hx => h x (List.mem_cons_of_mem _ hx))
    rcases List.mem_cons.1 hx with rfl | hx
    · simp only [List.filter_cons, hp, hq]; simp; omega
    · have := ih (fun x hx => h x (List.mem_cons_of_mem _ hx)) ⟨x, hx, hp, hq⟩
      have hyy := h y (by simp)
      simp only [List.filter_cons]
      cases hqy : q y
      · cases hpy : p y <;> simp <;> omega
      · rw [hyy hqy]; simp; exact this
theorem unlisted_lt {s : Array Bool} {n i : Nat} (hn : s.size = n) (hi : s.getD i true = false) : unlisted (s.setIfInBounds i true) n < unlisted s n := by
  have hin : i < n := by
    rcases Nat.lt_or_ge i s.size with h | h
    · omega
    · simp [Array.getElem?_eq_none h] at hi
  refine filter_lt _ _ _ ?_ ⟨i, List.mem_range.2 hin, by rw [hi]; rfl, ?_⟩
  · intro x _ hx
    by_cases h : i = x
    · subst h; rw [hi]; rfl
    · rwa [getD_set_ne true h] at hx
  · simp [hn, hin]

theorem wp_region_inv {P : Program} {Q : Exit → Act → World → Prop} {l : List Oper} {id : Nat} {a0 : Act} {w0 : World} (I : Act → Array Bool → Act → World → Prop) (hm : P.follows .mixedOrders = true) (hb : backB 0 l = true) (n : Nat) (hn : a0.tmps.size = n)
    (h0 : ∀ a : Act, a.tmps.size = n → I a (Array.replicate l.length false) a w0.drew)
    (hs : ∀ s a w, I a0 s a w → AllOps (fun i o => s.getD i false = false → (∀ j ∈ preds o, s.getD j false = true) → ∀ K : Act → World → Prop, Hid (∀ a w, I a0 (s.setIfInBounds i true) a w → K a w) →
      if Region.wanted o (yielded l.toArray a.tmps) = true then Oper.wp P o a w K Q else K (a.put o.dst undef) w) 0 l)
    (he : ∀ s a w, (∀ i, i < l.length → s.getD i false = true) → I a0 s a w → Q .normal a w) : (Code.region id l.toArray true).wp P Q a0 w0 := by
  refine wp_region_any hm ?_
  have main : ∀ (f : Nat) (s : Array Bool) (a : Act) (w : World), s.size = l.length → unlisted s l.length ≤ f → I a0 s a w → wpAny P .any l.toArray Q f s a w := by
    intro f
    induction f with
    | zero =>
      intro s a w hz hu hI
      have hr : Region.ready .any l.toArray s = [] := by
        apply List.eq_nil_iff_forall_not_mem.2
        intro i hi
        have := unlisted_lt hz (mem_ready.1 hi).1
        omega
      exact ⟨hr, he s a w (all_listed hz hb hr) hI⟩
    | succ f ih =>
      intro s a w hz hu hI
      refine ⟨fun hr => he s a w (all_listed hz hb hr) hI, fun i hi => ?_⟩
      obtain ⟨h1, o, ho, h2⟩ := mem_ready.1 hi
      have hlt := unlisted_lt hz h1
      have hst := (hs s a w hI).get i o (by simpa using ho)
      rw [Nat.zero_add] at hst
      refine wpOp_step ho (fun K hK => ?_)
      have hu' : s.getD i false = false := by
        simp only [Array.getD_eq_getD_getElem?] at h1 ⊢
        rcases Nat.lt_or_ge i s.size with hlt | hge
        · rw [Array.getElem?_eq_getElem hlt] at h1 ⊢; simpa using h1
        · rw [Array.getElem?_eq_none hge]; rfl
      exact hst hu' (preds_spec h2) K (fun a w h => hK a w (ih _ a w (by simpa using hz) (by omega) h))
  exact main _ _ _ _ (by simp) (by
    unfold unlisted
    exact Nat.le_trans (List.length_filter_le _ _) (by simp)) (h0 a0 hn)

theorem none_yet {n j : Nat} (h : (Array.replicate n false).getD j false = true) : False := by
  simp only [Array.getD_eq_getD_getElem?, Array.getElem?_replicate] at h
  split at h <;> simp at h

end Go.Proofs.YtifeacfljfmnpaaGreat
end

section
set_option maxRecDepth 100000
namespace Go.Proofs.YtifeacfljfmnpaaGreat
open Go.RowKit
def Lim (k : Nat) (z : Int) : Prop := (limbs z.natAbs).length ≤ k
theorem Lim.sm {k : Nat} {z : Int} (h : Lim k z) (hk : k ≤ 1048576) : Sm z := Nat.le_trans h hk
theorem Lim.add {a : Nat} {x y : Int} (hx : Lim a x) (hy : Lim a y) : Lim (a + 1) (x + y) := by
  have h1 := z4q hx
  have h2 := z4q hy
  refine limbs_len_le ?_
  have h3 : (x + y).natAbs ≤ x.natAbs + y.natAbs := Int.natAbs_add_le x y
  rw [Nat.pow_succ]
  omega
theorem Lim.mul {a b : Nat} {x y : Int} (hx : Lim a x) (hy : Lim b y) : Lim (a + b) (x * y) := by
  have h1 := z4q hx
  have h2 := z4q hy
  refine limbs_len_le ?_
  rw [Int.natAbs_mul, Nat.pow_add]
  exact Nat.mul_lt_mul'' h1 h2
theorem Lim.mono {a b : Nat} {x : Int} (h : Lim a x) (hb : a ≤ b) : Lim b x := Nat.le_trans h hb
theorem Lim.natAbs_le {k : Nat} {x y : Int} (h : Lim k y) (hx : x.natAbs ≤ y.natAbs) : Lim k x := Nat.le_trans (z12q hx) h
end Go.Proofs.YtifeacfljfmnpaaGreat
end

section
set_option maxRecDepth 100000
namespace Go.Proofs.YtifeacfljfmnpaaGreat
open Go.RowKit
end Go.Proofs.YtifeacfljfmnpaaGreat
end

section
set_option maxRecDepth 100000
namespace Go.Proofs.YtifeacfljfmnpaaGreat
open Go.RowKit
end Go.Proofs.YtifeacfljfmnpaaGreat
end

section
set_option maxRecDepth 100000
namespace Go.Proofs.YtifeacfljfmnpaaGreat
open Go.RowKit
def ShortRel (w : World) (g : Nat) (xs : List Nat) (y k rr : Nat) (qs : List Nat) (wr : World) : Prop :=
  qs.length = xs.length ∧ Dig qs ∧ Blk wr g qs ∧ Ext w wr ∧ val (xs.drop k) = y * val (qs.drop k) + rr ∧ rr < y
theorem ShortRel.step {w : World} {g : Nat} {xs : List Nat} {y k rr : Nat} {qs : List Nat} {wr : World} (h : ShortRel w g xs y (k + 1) rr qs wr) (hg : w.heap.size ≤ g) (hk : k < xs.length) (dx : Dig xs)
    (cur q r : Nat) (hc : cur = rr * 1000000000 + xs.getD k 0) (hq : q = cur / y) (hr : r = cur % y) {V : Int} (hV : V = q) :
    ShortRel w g xs y k r (qs.set k q) (wr.setCell ⟨g, k, none⟩ (.int .u32 V)) ∧ q < 1000000000 ∧ r < y := by
  obtain ⟨h1, h2, h3, h4, h5, h6⟩ := h
  have hx := dx k
  have hlt : cur < y * 1000000000 := by omega
  have hq1 : q < 1000000000 := by rw [hq]; exact Nat.div_lt_of_lt_mul hlt
  have hr1 : r < y := by rw [hr]; exact Nat.mod_lt _ (by omega)
  refine ⟨⟨by simpa using h1, h2.set k hq1, h3.set' k q (by omega) hV, h4.setCell (p := ⟨g, k, none⟩) hg _, ?_, hr1⟩, hq1, hr1⟩
  have e1 := val_drop xs k hk
  have e2 := val_drop (qs.set k q) k (by simpa [h1] using hk)
  have e3 : (qs.set k q).getD k 0 = q := by simp [List.getD_eq_getElem?_getD, h1, hk]
  have e4 : (qs.set k q).drop (k + 1) = qs.drop (k + 1) := by rw [List.drop_set_of_lt (by omega)]
  have e5 := Nat.div_add_mod cur y
  rw [← hq, ← hr] at e5
  rw [e3, e4] at e2
  rw [e1, e2, h5]
  generalize val (qs.drop (k + 1)) = D
  generalize xs.getD k 0 = x at *
  have e6 : y * (q + 1000000000 * D) = 1000000000 * (y * D) + y * q := by rw [Nat.mul_add, Nat.mul_left_comm]; omega
  omega

set_option maxRecDepth 100000 in
set_option maxHeartbeats 800000 in
theorem divideShort_calls (w : World) (ax : Option Addr) (xs : List Nat) (cx y : Nat) (lx : xs.length ≤ 1048576) (l0 : 0 < xs.length) (hx : Cells w ax xs) (dx : Dig xs) (hy0 : 0 < y) (hy : y < 1000000000) :
    Calls Tryz.prog 250 #[.slice ax xs.length cx, .int .u32 (y : Int)] w
      (Ret2 (IsLimbs (val xs / y)) (fun v _ => v = .int .u32 ((val xs % y : Nat) : Int)) w) := by
  have hmk := run_mk xs.length (by omega) ↑xs.length (by omega)
  go_enter Tryz.func250, Tryz.ntmps250
  go_wp2
  clear hmk
  have h0 : ShortRel w w.heap.size xs y xs.length 0 (List.replicate xs.length 0) (w.alloc (.cells (u32s (List.replicate xs.length 0)) 149)) :=
    ⟨by simp, Dig.replicate _, Blk.new _ _, (Ext.refl w).alloc _, by rw [val_drop_len]; simp [val], hy0⟩
  go_loopw [7, 8] (fun r i wr => ∃ (k rr : Nat) (qs : List Nat), k ≤ xs.length ∧ i = .int .i64 ((k : Int) - 1) ∧ r = .int .u64 rr ∧ ShortRel w w.heap.size xs y k rr qs wr) (fun _ i _ => (intOf i + 1).toNat)
  case atStart => exact ⟨xs.length, 0, _, Nat.le_refl _, by go_num, rfl, h0⟩
  case round =>
    obtain ⟨k, rr, qs, hk, rfl, rfl, hR⟩ := hrel
    clear h0
    rcases k with _ | k
    · obtain ⟨h1, h2, h3, h4, h5, h6⟩ := hR
      have HD := Lib.hid ((Nat.div_mod_unique (a := val xs) (d := val qs) (c := rr) hy0).2 ⟨by rw [List.drop_zero, List.drop_zero] at h5; omega, h6⟩)
      have br : (rr : Int) < 1000000000 := by omega
      have H1 := Lib.hid h1
      have T := Lib.hid (trim_calls wr (some ⟨w.heap.size, 0, none⟩) qs qs.length (Nat.le_refl _) (by omega) h3.cells h2)
      clear h5 h6 h1
      go_wp2_with fail
      rw [← H1.out]
      refine T.out.mono ?_
      rintro e w' ⟨rfl, rfl⟩
      go_wp2
      go_ret2
      exact ⟨_, _, rfl, by rw [HD.out.1]; exact ⟨_, _, rfl, by rw [← trimN_length h2]; exact trimN_le _ _, by rw [H1.out]; omega, h3.cells.trim h2⟩, by rw [HD.out.2]; rfl, h4⟩
    · have hk2 : k < xs.length := by omega
      have hzc := hR.2.2.1.cell k (by have := hR.1; omega)
      have hzf := hR.2.2.1.frozen k
      obtain ⟨b, off, rfl, hx1⟩ := hx.at_ (by omega)
      have hcx := hR.2.2.2.1.cell (hx1 k hk2)
      have bx0 := dx k
      have br0 := hR.2.2.2.2.2
      have hst := fun cur q r hc hq hr V hV => hR.step (Nat.le_refl _) hk2 dx cur q r hc hq hr (V := V) hV
      generalize xs.getD k 0 = x at *
      have bx : (x : Int) < 1000000000 := by omega
      have br : (rr : Int) < 1000000000 := by omega
      obtain ⟨cur, hc⟩ : ∃ cur, cur = rr * 1000000000 + x := ⟨_, rfl⟩
      obtain ⟨q, hq⟩ : ∃ q, q = cur / y := ⟨_, rfl⟩
      obtain ⟨r, hr⟩ : ∃ r, r = cur % y := ⟨_, rfl⟩
      have HST := Lib.hid (hst cur q r hc hq hr q rfl)
      have hcI : (rr : Int) * 1000000000 + (x : Int) = (cur : Int) := by omega
      have f0 := wrap_quo cur y q (by omega) hq
      obtain ⟨f1, f2⟩ := rem_nat cur y r hr
      have f3 : ¬ y = 0 := by omega
      have f4 : (q : Int) < 1000000000 := by have := HST.out.2.1; omega
      have ek : ((k + 1 : Nat) : Int) - 1 = (k : Int) := by omega
      rw [ek]
      clear hst hx1 bx0 br0 hc hq hr ek
      go_wp2
      go_roundw
      case rel => exact ⟨k, r, _, by omega, by go_num, by go_num, HST.out.1⟩
      case measure => simp [intOf]

set_option maxRecDepth 100000 in
set_option maxHeartbeats 800000 in
theorem divOK_short (m n : Nat) (lx : (limbs m).length ≤ 1048576) (h : 2 < (limbs m).length) (hn : (limbs n).length = 1) : DivOK m n := by
  intro w ax ay cx cy kx ky bx by_ hx hy
  obtain ⟨b, off, rfl, hy1⟩ := hy.at_ (by omega)
  have hc := hy1 0 (by omega)
  rw [Nat.add_zero] at hc
  have hd := z6q n 0
  have hv : (limbs n).getD 0 0 = n := by
    have h1 := z1q n
    have h2 := val_drop (limbs n) 0 (by omega)
    rw [List.drop_zero, h1, List.drop_of_length_le (by omega)] at h2
    simp only [val] at h2
    omega
  have hn0 : 0 < n := by
    rcases Nat.eq_zero_or_pos n with h0 | h0
    · subst h0; rw [limbs_zero] at hn; simp at hn
    · exact h0
  rw [hv] at hc hd
  have hcall := divideShort_calls w ax (limbs m) cx n lx (by omega) hx (z6q m) hn0 hd
  rw [z1q] at hcall
  have HS := Lib.hid hcall
  have HB := Lib.hid (show n < 1000000000 from hd)
  have HN := Lib.hid hn0
  have l1 : decide (((limbs m).length : Int) ≤ 2) = false := decide_eq_false (by omega)
  have l2 : (1 : Int) ≤ ((limbs m).length : Int) := by omega
  clear hcall hv hy1 hd hn0 h
  rw [hn]
  clear hn
  go_enter Tryz.func221, Tryz.ntmps221
  go_wp2_with fail
  refine HS.out.mono ?_
  rintro e w1 ⟨v1, v2, rfl, hv1, rfl, e1⟩
  have hr : m % n < 1000000000 := Nat.lt_trans (Nat.mod_lt m HN.out) HB.out
  generalize m % n = r at *
  have hrI : (r : Int) < 1000000000 := by omega
  have HR := Lib.hid hr
  clear hr
  go_wp2_with fail
  refine (limbsOf_calls w1 r (by have := HR.out; omega)).mono ?_
  rintro e w2 ⟨v2, rfl, hv2, e2⟩
  go_wp2
  go_ret2
  exact ⟨_, _, rfl, hv1.ext e2, hv2, e1.trans e2⟩

end Go.Proofs.YtifeacfljfmnpaaGreat
end

section
set_option maxRecDepth 100000
namespace Go.Proofs.YtifeacfljfmnpaaGreat
open Go.RowKit
def Only (g : Nat) (w w' : World) : Prop := ∀ h zs, h ≠ g → Blk w h zs → Blk w' h zs
theorem Only.refl (g : Nat) (w : World) : Only g w w := fun _ _ _ h => h
theorem Only.set {g : Nat} {w w' : World} (h : Only g w w') (i : Nat) (u : Value) : Only g w (w'.setCell ⟨g, i, none⟩ u) := fun k zs hk hb => (h k zs hk hb).far (p := ⟨g, i, none⟩) hk u
theorem drop_set_add (zs : List Nat) (j k d : Nat) : (zs.set (j + k) d).drop j = (zs.drop j).set k d := by
  rw [List.drop_set]
  rw [if_neg (by omega), Nat.add_sub_cancel_left]
theorem getD_drop (zs : List Nat) (j k : Nat) : (zs.drop j).getD k 0 = zs.getD (j + k) 0 := by
  simp [List.getD_eq_getElem?_getD]
def MS (w0 w : World) (g : Nat) (rs : List Nat) (j : Nat) (ys : List Nat) (q k c : Nat) (zs : List Nat) (wr : World) : Prop :=
  zs.length = rs.length ∧ Dig zs ∧ Blk wr g zs ∧ Ext w0 wr ∧ Only g w wr ∧ (∀ i, i < j ∨ j + k ≤ i → zs.getD i 0 = rs.getD i 0) ∧
    val ((zs.drop j).take k) + q * val (ys.take k) = val ((rs.drop j).take k) + 1000000000 ^ k * c ∧ c ≤ q
section
variable {w0 w : World} {g : Nat} {rs : List Nat} {j : Nat} {ys : List Nat} {q k c : Nat} {zs : List Nat} {wr : World}
theorem MS.step (h : MS w0 w g rs j ys q k c zs wr) (hg : w0.heap.size ≤ g) (hk : j + k < rs.length) (d c' : Nat) (hd : d < 1000000000)
    (he : d + (q * ys.getD k 0 + c) = rs.getD (j + k) 0 + 1000000000 * c') (hc : c' ≤ q) {V : Int} (hV : V = d) :
    MS w0 w g rs j ys q (k + 1) c' (zs.set (j + k) d) (wr.setCell ⟨g, j + k, none⟩ (.int .u32 V)) := by
  obtain ⟨h1, h2, h3, h4, h5, h6, h7, h8⟩ := h
  refine ⟨by simpa using h1, h2.set _ hd, h3.set' _ d (by omega) hV, h4.setCell (p := ⟨g, j + k, none⟩) hg _, h5.set _ _, ?_, ?_, hc⟩
  · intro i hi
    rw [getD_set_other _ _ _ _ (by omega)]
    exact h6 i (by omega)
  · rw [drop_set_add, val_take_set _ _ _ (by rw [List.length_drop]; omega), val_take_succ', val_take_succ' (rs.drop j), getD_drop, Nat.pow_succ]
    generalize 1000000000 ^ k = p at *
    generalize ys.getD k 0 = y at *
    generalize rs.getD (j + k) 0 = r at *
    generalize val (List.take k (List.drop j zs)) = A at *
    generalize val (List.take k (List.drop j rs)) = R at *
    generalize val (List.take k ys) = Y at *
    have e : p * (d + (q * y + c)) = p * (r + 1000000000 * c') := by rw [he]
    rw [Nat.mul_add, Nat.mul_add, Nat.mul_add, ← Nat.mul_assoc p 1000000000] at e
    have e2 : q * (Y + p * y) = q * Y + p * (q * y) := by rw [Nat.mul_add, Nat.mul_left_comm]
    rw [e2]
    omega
theorem MS.step2 (h : MS w0 w g rs j ys q k c zs wr) (hg : w0.heap.size ≤ g) (hk : j + k < rs.length) (d c' u : Nat) (hd : d < 1000000000)
    (he : d + (q * ys.getD k 0 + c) = rs.getD (j + k) 0 + 1000000000 * c') (hc : c' ≤ q) {U V : Int} (hU : U = u) (hV : V = d) :
    MS w0 w g rs j ys q (k + 1) c' (zs.set (j + k) d) ((wr.setCell ⟨g, j + k, none⟩ (.int .u32 U)).setCell ⟨g, j + k, none⟩ (.int .u32 V)) := by
  have hs := h.step hg hk d c' hd he hc hV
  obtain ⟨h1, h2, h3, h4, h5, h6, h7, h8⟩ := h
  have hb := (h3.set' (j + k) u (by omega) hU).set' (j + k) d (by simp; omega) hV
  rw [List.set_set] at hb
  exact ⟨hs.1, hs.2.1, hb, (h4.setCell (p := ⟨g, j + k, none⟩) hg _).setCell (p := ⟨g, j + k, none⟩) hg _, (h5.set _ _).set _ _, hs.2.2.2.2.2⟩
theorem ms_carry (x : Nat) (hq : q ≤ 1000000000) (hx : x < 1000000000) (hc : c ≤ q) (P : Nat) (hP : P = q * x + c) :
    P ≤ 1000000000 * q ∧ P ≤ 1000000000000000000 ∧ P / 1000000000 ≤ q ∧ (0 < P % 1000000000 → P / 1000000000 + 1 ≤ q) := by
  have h1 : q * x ≤ q * 999999999 := Nat.mul_le_mul_left _ (by omega)
  omega
end
def SubmPost (w0 w : World) (g : Nat) (rs : List Nat) (j : Nat) (ys : List Nat) (q : Nat) (e : Ending) (w' : World) : Prop :=
  ∃ (c : Nat) (zs : List Nat), e = .returned (.bool (decide (rs.getD (j + ys.length) 0 < c))) ∧ MS w0 w g rs j ys q ys.length c zs w'

set_option maxRecDepth 100000 in
set_option maxHeartbeats 1600000 in
theorem subtractMultiple_calls (w0 w : World) (g : Nat) (rs : List Nat) (j : Nat) (ay : Option Addr) (ys : List Nat) (cp cy q : Nat) (hg : w0.heap.size ≤ g) (hb : Blk w g rs) (dr : Dig rs) (hE : Ext w0 w)
    (hy : Cells w0 ay ys) (dy : Dig ys) (hj : j + ys.length + 1 ≤ rs.length) (lr : rs.length ≤ 1099511627776) (hq : q ≤ 1000000000) :
    Calls Tryz.prog 259 #[.slice (some ⟨g, j, none⟩) (ys.length + 1) cp, .slice ay ys.length cy, .int .u64 (q : Int)] w (SubmPost w0 w g rs j ys q) := by
  have h0 : MS w0 w g rs j ys q 0 0 rs w := ⟨rfl, dr, hb, hE, Only.refl _ _, fun _ _ => rfl, by simp [val], Nat.zero_le _⟩
  go_enter Tryz.func259, Tryz.ntmps259
  go_wp2
  go_loopw [7, 8, 9, 10, 11, 14] (fun c _ _ _ _ n wr => ∃ (k cv : Nat) (zs : List Nat), k ≤ ys.length ∧ n = .int .i64 k ∧ c = .int .u64 cv ∧ MS w0 w g rs j ys q k cv zs wr) (fun _ _ _ _ _ n _ => ys.length - (intOf n).toNat)
  case atStart => exact ⟨0, 0, _, Nat.zero_le _, rfl, rfl, h0⟩
  case round =>
    obtain ⟨k, cv, zs, hk, rfl, rfl, hR⟩ := hrel
    clear h0
    by_cases hk2 : k < ys.length
    · have hzc := hR.2.2.1.cell (j + k) (by have := hR.1; omega)
      rw [hR.2.2.2.2.2.1 (j + k) (by omega)] at hzc
      have hzf := hR.2.2.1.frozen (j + k)
      obtain ⟨b1, o1, rfl, hx1⟩ := hy.at_ (by omega)
      have hcx := hR.2.2.2.1.cell (hx1 k hk2)
      have bx0 := dy k
      have bp0 := dr (j + k)
      have hst := fun d c' hd he hc V hV => hR.step hg (by omega) d c' hd he hc (V := V) hV
      have hst2 := fun d c' u hd he hc U V hU hV => hR.step2 hg (by omega) d c' u hd he hc (U := U) (V := V) hU hV
      obtain ⟨P, hP⟩ : ∃ P, P = q * ys.getD k 0 + cv := ⟨_, rfl⟩
      obtain ⟨m1, m2, m3, m4⟩ := ms_carry (ys.getD k 0) hq bx0 hR.2.2.2.2.2.2.2 P hP
      rw [← hP] at hst hst2
      generalize rs.getD (j + k) 0 = p at *
      generalize ys.getD k 0 = x at *
      obtain ⟨M, hM⟩ : ∃ M, M = q * x := ⟨_, rfl⟩
      have hMI : (q : Int) * (x : Int) = (M : Int) := by rw [hM]; simp
      rw [← hM] at hP
      have hPI : (M : Int) + (cv : Int) = (P : Int) := by omega
      have hMw : (M : Int) ≤ 1000000000000000000 := by omega
      have hPw : (P : Int) ≤ 2000000000000000000 := by omega
      obtain ⟨l, hl⟩ : ∃ l, l = P % 1000000000 := ⟨_, rfl⟩
      obtain ⟨c1, hc1⟩ : ∃ c1, c1 = P / 1000000000 := ⟨_, rfl⟩
      have hlI : (P : Int) % 1000000000 = (l : Int) := by omega
      have hlT : (P : Int).tmod 1000000000 = (l : Int) := by rw [Int.tmod_eq_emod_of_nonneg (by omega)]; omega
      have hcI : (P : Int) / 1000000000 = (c1 : Int) := by omega
      have hcT : (P : Int).tdiv 1000000000 = (c1 : Int) := by rw [Int.tdiv_eq_ediv_of_nonneg (by omega)]; omega
      have hlw : (l : Int) < 1000000000 := by omega
      have hcw : (c1 : Int) ≤ 2000000000 := by omega
      have HP := Lib.hid (show P = c1 * 1000000000 + l by omega)
      rw [← hl, ← hc1] at m4
      rw [← hc1] at m3
      have HM := Lib.hid (And.intro m3 m4)
      have HQ := Lib.hid hq
      have bp : (p : Int) < 1000000000 := by omega
      have bx : (x : Int) < 1000000000 := by omega
      have HST := Lib.hid hst
      have HST2 := Lib.hid hst2
      clear hst hst2 hx1 bx0 hP m1 m2 m3 m4 hM hq bp0 hl hc1
      go_upto_region 8 with fail
      have kn : (k : Int) < (ys.length : Int) + 1 := by omega
      have kn2 : (k : Int) ≤ (ys.length : Int) := by omega
      clear hPI hMI hMw hPw hlI hlT hcI
      by_cases hlt : p < l
      · have hltI : (p : Int) < (l : Int) := by omega
        clear hlt
        go_wp2
        go_roundw
        case rel => exact ⟨k + 1, c1 + 1, _, by omega, by go_num, by go_num, HST2.out (p + 1000000000 - l) (c1 + 1) (p + 1000000000) (by omega) (by have := HP.out; omega) (HM.out.2 (by omega)) _ _ (by omega) (by omega)⟩
        case measure => simp [intOf]; omega
      · obtain ⟨d, hd⟩ : ∃ d, d = p - l := ⟨_, rfl⟩
        have hdI : (p : Int) - (l : Int) = (d : Int) := by omega
        have hltI : (l : Int) ≤ (p : Int) := by omega
        have hdw : (d : Int) < 1000000000 := by omega
        have HD := Lib.hid (show p = d + l by omega)
        clear hlt hd hlw bp
        generalize hpi : (p : Int) = pi at hzc hdI hltI ⊢
        generalize hli : (l : Int) = li at hdI hltI ⊢
        have HPI := Lib.hid hpi
        have HLI := Lib.hid hli
        have hlb : ¬ pi < li := by omega
        have HDI := Lib.hid hdI
        clear hpi hli hltI hdI
        go_upto_region 11 with fail
        have hdI := HDI.out
        clear hlb
        go_wp2
        go_roundw
        case rel => exact ⟨k + 1, c1, _, by omega, by go_num, by go_num, HST.out d c1 (by omega) (by have := HP.out; have := HD.out; omega) HM.out.1 _ (by omega)⟩
        case measure => simp [intOf]; omega
    · obtain rfl : k = ys.length := by omega
      have hzc := hR.2.2.1.cell (j + ys.length) (by have := hR.1; omega)
      rw [hR.2.2.2.2.2.1 (j + ys.length) (by omega)] at hzc
      obtain ⟨t, ht⟩ : ∃ t, t = rs.getD (j + ys.length) 0 := ⟨_, rfl⟩
      have bt := dr (j + ys.length)
      rw [← ht] at hzc bt
      have btI : (t : Int) < 1000000000 := by omega
      have HT := Lib.hid ht
      clear ht bt
      go_wp2
      go_ret
      exact ⟨cv, zs, by rw [← HT.out]; simp, hR⟩

end Go.Proofs.YtifeacfljfmnpaaGreat
end

section
set_option maxRecDepth 100000
namespace Go.Proofs.YtifeacfljfmnpaaGreat
open Go.RowKit
def AB (w0 w : World) (g : Nat) (rs : List Nat) (j : Nat) (ys : List Nat) (k c : Nat) (zs : List Nat) (wr : World) : Prop :=
  zs.length = rs.length ∧ Dig zs ∧ Blk wr g zs ∧ Ext w0 wr ∧ Only g w wr ∧ (∀ i, i < j ∨ j + k ≤ i → zs.getD i 0 = rs.getD i 0) ∧
    val ((zs.drop j).take k) + 1000000000 ^ k * c = val ((rs.drop j).take k) + val (ys.take k) ∧ c ≤ 1
section
variable {w0 w : World} {g : Nat} {rs : List Nat} {j : Nat} {ys : List Nat} {k c : Nat} {zs : List Nat} {wr : World}
theorem AB.step (h : AB w0 w g rs j ys k c zs wr) (hg : w0.heap.size ≤ g) (hk : j + k < rs.length) (d c' : Nat) (hd : d < 1000000000)
    (he : d + 1000000000 * c' = rs.getD (j + k) 0 + (ys.getD k 0 + c)) (hc : c' ≤ 1) {V : Int} (hV : V = d) :
    AB w0 w g rs j ys (k + 1) c' (zs.set (j + k) d) (wr.setCell ⟨g, j + k, none⟩ (.int .u32 V)) := by
  obtain ⟨h1, h2, h3, h4, h5, h6, h7, h8⟩ := h
  refine ⟨by simpa using h1, h2.set _ hd, h3.set' _ d (by omega) hV, h4.setCell (p := ⟨g, j + k, none⟩) hg _, h5.set _ _, ?_, ?_, hc⟩
  · intro i hi
    rw [getD_set_other _ _ _ _ (by omega)]
    exact h6 i (by omega)
  · rw [drop_set_add, val_take_set _ _ _ (by rw [List.length_drop]; omega), val_take_succ' (rs.drop j), val_take_succ' ys, getD_drop, Nat.pow_succ]
    generalize 1000000000 ^ k = p at *
    generalize ys.getD k 0 = y at *
    generalize rs.getD (j + k) 0 = r at *
    generalize val (List.take k (List.drop j zs)) = A at *
    generalize val (List.take k (List.drop j rs)) = R at *
    generalize val (List.take k ys) = Y at *
    have e : p * (d + 1000000000 * c') = p * (r + (y + c)) := by rw [he]
    rw [Nat.mul_add, Nat.mul_add, Nat.mul_add, ← Nat.mul_assoc p 1000000000] at e
    omega
theorem AB.step2 (h : AB w0 w g rs j ys k c zs wr) (hg : w0.heap.size ≤ g) (hk : j + k < rs.length) (d c' u : Nat) (hd : d < 1000000000)
    (he : d + 1000000000 * c' = rs.getD (j + k) 0 + (ys.getD k 0 + c)) (hc : c' ≤ 1) {U V : Int} (hU : U = u) (hV : V = d) :
    AB w0 w g rs j ys (k + 1) c' (zs.set (j + k) d) ((wr.setCell ⟨g, j + k, none⟩ (.int .u32 U)).setCell ⟨g, j + k, none⟩ (.int .u32 V)) := by
  have hs := h.step hg hk d c' hd he hc hV
  obtain ⟨h1, h2, h3, h4, h5, h6, h7, h8⟩ := h
  have hb := (h3.set' (j + k) u (by omega) hU).set' (j + k) d (by simp; omega) hV
  rw [List.set_set] at hb
  exact ⟨hs.1, hs.2.1, hb, (h4.setCell (p := ⟨g, j + k, none⟩) hg _).setCell (p := ⟨g, j + k, none⟩) hg _, (h5.set _ _).set _ _, hs.2.2.2.2.2⟩
end
def AddbPost (w0 w : World) (g : Nat) (rs : List Nat) (j : Nat) (ys : List Nat) (e : Ending) (w' : World) : Prop :=
  ∃ (c : Nat) (zs : List Nat), e = .returned (.tuple #[]) ∧ AB w0 w g rs j ys ys.length c zs w'

set_option maxRecDepth 100000 in
set_option maxHeartbeats 1600000 in
theorem addBack_calls (w0 w : World) (g : Nat) (rs : List Nat) (j : Nat) (ay : Option Addr) (ys : List Nat) (cp cy : Nat) (hg : w0.heap.size ≤ g) (hb : Blk w g rs) (dr : Dig rs) (hE : Ext w0 w)
    (hy : Cells w0 ay ys) (dy : Dig ys) (hj : j + ys.length + 1 ≤ rs.length) (lr : rs.length ≤ 1099511627776) :
    Calls Tryz.prog 260 #[.slice (some ⟨g, j, none⟩) (ys.length + 1) cp, .slice ay ys.length cy] w (AddbPost w0 w g rs j ys) := by
  have h0 : AB w0 w g rs j ys 0 0 rs w := ⟨rfl, dr, hb, hE, Only.refl _ _, fun _ _ => rfl, by simp [val], Nat.zero_le _⟩
  go_enter Tryz.func260, Tryz.ntmps260
  go_wp2
  go_loopw [4, 5, 6, 9] (fun c _ _ n wr => ∃ (k cv : Nat) (zs : List Nat), k ≤ ys.length ∧ n = .int .i64 k ∧ c = .int .u32 cv ∧ AB w0 w g rs j ys k cv zs wr) (fun _ _ _ n _ => ys.length - (intOf n).toNat)
  case atStart => exact ⟨0, 0, _, Nat.zero_le _, rfl, rfl, h0⟩
  case round =>
    obtain ⟨k, cv, zs, hk, rfl, rfl, hR⟩ := hrel
    clear h0
    by_cases hk2 : k < ys.length
    · have hzc := hR.2.2.1.cell (j + k) (by have := hR.1; omega)
      rw [hR.2.2.2.2.2.1 (j + k) (by omega)] at hzc
      have hzf := hR.2.2.1.frozen (j + k)
      obtain ⟨b1, o1, rfl, hx1⟩ := hy.at_ (by omega)
      have hcx := hR.2.2.2.1.cell (hx1 k hk2)
      have bx0 := dy k
      have bp0 := dr (j + k)
      have bc0 := hR.2.2.2.2.2.2.2
      have hst := fun d c' hd he hc V hV => hR.step hg (by omega) d c' hd he hc (V := V) hV
      have hst2 := fun d c' u hd he hc U V hU hV => hR.step2 hg (by omega) d c' u hd he hc (U := U) (V := V) hU hV
      generalize rs.getD (j + k) 0 = p at *
      generalize ys.getD k 0 = x at *
      obtain ⟨M, hM⟩ : ∃ M, M = x + cv := ⟨_, rfl⟩
      obtain ⟨S, hS⟩ : ∃ S, S = p + M := ⟨_, rfl⟩
      have hMI : (x : Int) + (cv : Int) = (M : Int) := by omega
      have hSI : (p : Int) + (M : Int) = (S : Int) := by omega
      have hMw : (M : Int) ≤ 1000000000 := by omega
      have hSw : (S : Int) ≤ 2000000000 := by omega
      have HP := Lib.hid (show S = p + (x + cv) by omega)
      have HB := Lib.hid (show S ≤ 1999999999 by omega)
      have HST := Lib.hid hst
      have HST2 := Lib.hid hst2
      have kn : (k : Int) < (ys.length : Int) + 1 := by omega
      have kn2 : (k : Int) ≤ (ys.length : Int) := by omega
      clear hst hst2 hx1 bx0 bp0 bc0 hM hS
      by_cases hlt : 1000000000 ≤ S
      · have HL := Lib.hid hlt
        have hge : (1000000000 : Int) ≤ (S : Int) := by omega
        clear hlt
        go_wp2
        go_roundw
        case rel => exact ⟨k + 1, 1, _, by omega, by go_num, by go_num, HST2.out (S - 1000000000) 1 S (by have := HB.out; omega) (by have := HP.out; have := HL.out; omega) (by omega) _ _ (by omega) (by have := HL.out; omega)⟩
        case measure => simp [intOf]; omega
      · have HL := Lib.hid hlt
        have hge : ¬ (1000000000 : Int) ≤ (S : Int) := by omega
        clear hlt
        go_wp2
        go_roundw
        case rel => exact ⟨k + 1, 0, _, by omega, by go_num, by go_num, HST.out S 0 (by have := HL.out; omega) (by have := HP.out; omega) (by omega) _ (by omega)⟩
        case measure => simp [intOf]; omega
    · obtain rfl : k = ys.length := by omega
      go_wp2
      go_end0
      exact ⟨cv, zs, rfl, hR⟩

end Go.Proofs.YtifeacfljfmnpaaGreat
end

section
set_option maxRecDepth 100000
namespace Go.Proofs.YtifeacfljfmnpaaGreat
open Go.RowKit
def Ret00 (k : Int) (w : World) (e : Ending) (w' : World) : Prop :=
  ∃ v1 v2, e = .returned (.tuple #[v1, v2, .int .i64 k]) ∧ IsInt w' v1 0 ∧ IsInt w' v2 0 ∧ Ext w w'

set_option maxRecDepth 100000 in
set_option maxHeartbeats 800000 in
theorem divMod_zero (w : World) (v1 v2 : Value) (z1 : Int) (h : IsInt w v1 z1) (k : IsInt w v2 0) :
    Calls Tryz.prog 207 #[v1, v2] w (Ret00 6 w) := by
  obtain ⟨ao, cap, s, n, rfl, h1, h2, h3, H4, H5, H6⟩ := h.open_
  obtain ⟨ao', cap', s', n', rfl, k1, k2, k3, K4, K5, K6⟩ := k.open_
  obtain ⟨W, hW, eW, c0, c1, d0, d1, ⟨q0, q1, fq0, fq1⟩, r0, r1, fr0, fr1⟩ := boxes2rr w (.bool s) (.slice ao (limbs n).length cap) (.bool s') (.slice ao' (limbs n').length cap') 24
  have hn : n' = 0 := by have := K4.out; simpa using this
  have hl : (limbs n').length = 0 := by rw [hn]; rfl
  rw [hl] at hW d1
  rw [hl]
  clear hl h1 h2 h3 k1 k2 k3 h k
  go_enter Tryz.func207, Tryz.ntmps207
  go_wp2
  have ge2 : w.heap.size ≤ w.heap.size + 2 := Nat.le_add_right _ 2
  have ge3 : w.heap.size ≤ w.heap.size + 3 := Nat.le_add_right _ 3
  exact bodyPost_ret (v := .tuple #[.agg #[.bool false, .slice none 0 0], .agg #[.bool false, .slice none 0 0], .int .i64 6]) (by simp [results, Tryz.results207, go_sem, q0, q1, r0, r1]) rfl
    ⟨_, _, rfl, isInt_zero _, isInt_zero _, (((eW.setCell (p := ⟨w.heap.size + 2, 0, none⟩) ge2 _).setCell (p := ⟨w.heap.size + 2, 1, none⟩) ge2 _).setCell (p := ⟨w.heap.size + 3, 0, none⟩) ge3 _).setCell (p := ⟨w.heap.size + 3, 1, none⟩) ge3 _⟩

end Go.Proofs.YtifeacfljfmnpaaGreat
end

section
set_option maxRecDepth 100000
namespace Go.Proofs.YtifeacfljfmnpaaGreat
theorem est_bounds {D p3 p0 y2 y0 B : Nat} (hD : 0 < D) (hp0 : p0 < D) (hy0 : y0 < D) (hy2 : B ≤ y2) (hB : 0 < B) (hP : p3 * D + p0 < B * (y2 * D + y0)) :
    p3 < (B + 1) * y2 ∧ (p3 * D + p0) / (y2 * D + y0) ≤ p3 / y2 ∧ p3 / y2 ≤ (p3 * D + p0) / (y2 * D + y0) + 1 ∧ p3 / y2 ≤ B := by
  have hYp : 0 < y2 * D + y0 := by
    have := Nat.mul_pos (show 0 < y2 by omega) hD
    omega
  have h1 : p3 < (B + 1) * y2 := by
    have e1 : B * (y2 * D + y0) ≤ B * ((y2 + 1) * D) := Nat.mul_le_mul_left _ (by rw [Nat.add_mul]; omega)
    have e2 : p3 * D < B * (y2 + 1) * D := by rw [Nat.mul_assoc]; omega
    have e3 : p3 < B * (y2 + 1) := Nat.lt_of_mul_lt_mul_right e2
    rw [Nat.mul_add] at e3
    rw [Nat.add_mul]
    omega
  have h4 : p3 / y2 ≤ B := by
    have : p3 / y2 < B + 1 := Nat.div_lt_of_lt_mul (by rw [Nat.mul_comm]; exact h1)
    omega
  have hq := Nat.div_mul_le_self (p3 * D + p0) (y2 * D + y0)
  have hs := Nat.div_mul_le_self p3 y2
  refine ⟨h1, ?_, ?_, h4⟩
  · generalize (p3 * D + p0) / (y2 * D + y0) = q at hq ⊢
    rw [Nat.le_div_iff_mul_le (by omega)]
    have e1 : q * y2 * D ≤ q * (y2 * D + y0) := by rw [Nat.mul_assoc]; exact Nat.mul_le_mul_left _ (Nat.le_add_right _ _)
    have e2 : q * y2 * D < (p3 + 1) * D := by rw [Nat.add_mul]; omega
    have := Nat.lt_of_mul_lt_mul_right e2
    omega
  · generalize p3 / y2 = s at hs h4 ⊢
    rcases s with _ | s
    · exact Nat.zero_le _
    · refine Nat.succ_le_succ ?_
      rw [Nat.le_div_iff_mul_le hYp]
      have e1 : s * (y2 * D + y0) ≤ s * ((y2 + 1) * D) := Nat.mul_le_mul_left _ (by rw [Nat.add_mul]; omega)
      have e2 : s * (y2 + 1) ≤ p3 := by
        rw [Nat.add_mul] at hs
        rw [Nat.mul_add]
        omega
      have e3 : s * ((y2 + 1) * D) ≤ p3 * D := by rw [← Nat.mul_assoc]; exact Nat.mul_le_mul_right _ e2
      omega

theorem round_eq {N low low' t c q Y r : Nat} (hY : Y ≤ N) (hr : r < Y) (hP : low + N * t = q * Y + r) (hl : low' < N) (h : low' + q * Y = low + N * c) : c = t ∧ low' = r := by
  have e : low' + N * t = r + N * c := by omega
  have hc : c = t := by
    rcases Nat.lt_trichotomy c t with h1 | h1 | h1
    · have := Nat.mul_le_mul_left N (show c + 1 ≤ t from h1)
      rw [Nat.mul_add] at this
      omega
    · exact h1
    · have := Nat.mul_le_mul_left N (show t + 1 ≤ c from h1)
      rw [Nat.mul_add] at this
      omega
  subst hc
  exact ⟨rfl, by omega⟩
theorem round_over {N low low' low2 t c c2 q Y r : Nat} (hY : Y ≤ N) (hr : r < Y) (hP : low + N * t = q * Y + r) (hl : low' < N) (h : low' + (q + 1) * Y = low + N * c) (hl2 : low2 < N) (h2 : low2 + N * c2 = low' + Y) :
    t < c ∧ low2 = r := by
  rw [Nat.add_mul] at h
  have e : low' + Y + N * t = r + N * c := by omega
  have hc : c = t + 1 := by
    rcases Nat.lt_trichotomy c (t + 1) with h1 | h1 | h1
    · have := Nat.mul_le_mul_left N (show c ≤ t by omega)
      omega
    · exact h1
    · have := Nat.mul_le_mul_left N (show t + 1 + 1 ≤ c from h1)
      rw [Nat.mul_add, Nat.mul_add] at this
      omega
  subst hc
  rw [Nat.mul_add] at e
  refine ⟨by omega, ?_⟩
  have e2 : low2 + N * c2 = r + N := by omega
  rcases c2 with _ | _ | c2
  · omega
  · omega
  · have := Nat.mul_le_mul_left N (show 2 ≤ c2 + 1 + 1 by omega)
    omega

end Go.Proofs.YtifeacfljfmnpaaGreat
end

section
set_option maxRecDepth 100000
namespace Go.Proofs.YtifeacfljfmnpaaGreat
open Go.Shelf
def ren264 : Go.Shelf.Ren := ⟨fun | 264 => 231 | n => n, fun | 53 => 115 | 46 => 200 | n => n, fun | n => n⟩
theorem lays264 : Go.Proofs.Lays.n264 Tryz.prog ren264 := {
  mixed := by kernel_rfl
  f264 := Tryz.func231.trans (congrArg some (by kernel_rfl))
  t46 := Tryz.underlying200
  a46 := Tryz.isAgg200
  z46 := Tryz.sizeOf200
  v46 := Tryz.zeroValue200
  t53 := Tryz.underlying115
  a53 := Tryz.isAgg115
  z53 := Tryz.sizeOf115
  v53 := Tryz.zeroValue115 }
theorem mul64_calls (w : World) (x y : Nat) (hx : x < 18446744073709551616) (hy : y < 18446744073709551616) :
    Calls Tryz.prog 231 #[.int .u64 (x : Int), .int .u64 (y : Int)] w fun e w' =>
      e = .returned (.tuple #[.int .u64 ((x * y / 18446744073709551616 : Nat) : Int), .int .u64 ((x * y % 18446744073709551616 : Nat) : Int)]) ∧ w' = w :=
  Any.bits_Mul64 lays264 x y hx hy w

def ren25 : Go.Shelf.Ren := ⟨fun | 25 => 266 | n => n, fun | 22 => 115 | n => n, fun | n => n⟩
theorem lays25 : Go.Proofs.Lays7.n25 Tryz.prog ren25 := {
  mixed := by kernel_rfl
  f25 := Tryz.func266.trans (congrArg some (by kernel_rfl))
  t22 := Tryz.underlying115
  a22 := Tryz.isAgg115
  z22 := Tryz.sizeOf115
  v22 := Tryz.zeroValue115
  i22 := by kernel_rfl }
theorem add64_run (x y : Nat) (s : Nat) (c : Nat) (hs : s = (x + y) % 18446744073709551616) (hc : c = (x + y) / 18446744073709551616) (w : World) :
    (callFunc 266 #[.int .u64 (x : Int), .int .u64 (y : Int), .int .u64 0]).run Tryz.prog w = .ok (.value (.tuple #[.int .u64 (s : Int), .int .u64 (c : Int)])) w := by
  subst hs hc
  exact Any7.bits_Add64 lays25 x y 0 (by omega) w

end Go.Proofs.YtifeacfljfmnpaaGreat
end

section
set_option maxRecDepth 100000
namespace Go.Proofs.YtifeacfljfmnpaaGreat
open Go.RowKit
theorem Cells.drop {w : World} {b off : Nat} {xs : List Nat} (h : Cells w (some ⟨b, off, none⟩) xs) (k : Nat) : Cells w (some ⟨b, off + k, none⟩) (xs.drop k) := by
  rcases Nat.lt_or_ge k xs.length with hk | hk
  · obtain ⟨b', off', he, hx⟩ := h.at_ (by omega)
    injection he with he
    injection he with h1 h2
    subst h1 h2
    refine .inr ⟨b, off + k, rfl, fun i hi => ?_⟩
    rw [List.length_drop] at hi
    have := hx (k + i) (by omega)
    rw [← Nat.add_assoc] at this
    rw [this]
    congr 3
    simp [List.getD_eq_getElem?_getD]
  · exact .inl (List.drop_of_length_le hk)
theorem halves (X Z : Nat) (hi lo s c : Nat) (h1 : hi = X * 1000000000000000000 / 18446744073709551616) (h2 : lo = X * 1000000000000000000 % 18446744073709551616) (h3 : s = (lo + Z) % 18446744073709551616) (h4 : c = (lo + Z) / 18446744073709551616) :
    hi + c = (Z + 1000000000000000000 * X) / 18446744073709551616 ∧ s = (Z + 1000000000000000000 * X) % 18446744073709551616 := by
  omega

set_option maxRecDepth 100000 in
set_option maxHeartbeats 800000 in
theorem split_calls (w : World) (b off : Nat) (xs : List Nat) (cap : Nat) (hc : xs.length ≤ cap) (hm : cap ≤ 9223372036854775807) (h : Cells w (some ⟨b, off, none⟩) xs) (dx : Dig xs) (h3 : 2 < xs.length) (h4 : xs.length ≤ 4) :
    Calls Tryz.prog 262 #[.slice (some ⟨b, off, none⟩) xs.length cap] w fun e w' =>
      e = .returned (.tuple #[.int .u64 ((val xs / 18446744073709551616 : Nat) : Int), .int .u64 ((val xs % 18446744073709551616 : Nat) : Int)]) ∧ w = w' := by
  have hl : ¬ (xs.length : Int) ≤ 2 := by omega
  have hcap : ¬ cap = 2 := by omega
  have hl2 : (2 : Int) ≤ (xs.length : Int) := by omega
  have hl3 : (2 : Int) ≤ (cap : Int) := by omega
  have hx := val_split xs 2 (by omega)
  have b1 := val_lt (dx.drop 2)
  have b2 := val_lt (dx.take 2)
  rw [List.length_drop] at b1
  rw [List.length_take, Nat.min_eq_left (by omega)] at b2
  have b1' : val (xs.drop 2) < 1000000000000000000 := Nat.lt_of_lt_of_le b1 (Nat.pow_le_pow_right (by omega) (show xs.length - 2 ≤ 2 by omega))
  have b2' : val (xs.take 2) < 1000000000000000000 := b2
  have hv1 := valueOf_calls w (some ⟨b, off + 2, none⟩) (xs.drop 2) (cap - 2) (by rw [List.length_drop]; omega) (by omega) (h.drop 2) (by omega)
  have hv2 := valueOf_calls w (some ⟨b, off, none⟩) (xs.take 2) cap (by rw [List.length_take]; omega) (by omega) (h.take 2) (by omega)
  rw [List.length_drop] at hv1
  rw [List.length_take, Nat.min_eq_left (by omega)] at hv2
  rw [hx]
  rw [show (1000000000 : Nat) ^ 2 = 1000000000000000000 from rfl]
  clear hx b1 b2
  generalize val (xs.drop 2) = X at hv1 b1' ⊢
  generalize val (xs.take 2) = Z at hv2 b2' ⊢
  have HV1 := Lib.hid hv1
  have HV2 := Lib.hid hv2
  have hm64 := mul64_calls w X 1000000000000000000 (by omega) (by omega)
  obtain ⟨hi, e1⟩ : ∃ hi, hi = X * 1000000000000000000 / 18446744073709551616 := ⟨_, rfl⟩
  obtain ⟨lo, e2⟩ : ∃ lo, lo = X * 1000000000000000000 % 18446744073709551616 := ⟨_, rfl⟩
  obtain ⟨s, e3⟩ : ∃ s, s = (lo + Z) % 18446744073709551616 := ⟨_, rfl⟩
  obtain ⟨c, e4⟩ : ∃ c, c = (lo + Z) / 18446744073709551616 := ⟨_, rfl⟩
  rw [← e1, ← e2] at hm64
  rw [show ((1000000000000000000 : Nat) : Int) = 1000000000000000000 from rfl] at hm64
  obtain ⟨e5, e6⟩ := halves X Z hi lo s c e1 e2 e3 e4
  rw [← e5, ← e6]
  have HM := Lib.hid hm64
  have HA := Lib.hid (add64_run lo Z s c e3 e4)
  have bh : (hi : Int) ≤ 1000000000000000000 := by omega
  have bc : (c : Int) ≤ 2 := by omega
  clear hv1 hv2 hm64 e1 e2 e3 e4 e5 e6 b1' b2' hm h4
  go_enter Tryz.func262, Tryz.ntmps262
  go_wp2_with fail
  refine HV1.out.mono ?_
  rintro e w' ⟨rfl, rfl⟩
  go_wp2_with fail
  refine HM.out.mono ?_
  rintro e w' ⟨rfl, rfl⟩
  go_wp2_with fail
  refine HV2.out.mono ?_
  rintro e w' ⟨rfl, rfl⟩
  have hadd := HA.out
  go_wp2_with (rw [hadd])
  go_ret2
  exact ⟨by simp, rfl⟩

end Go.Proofs.YtifeacfljfmnpaaGreat
end
