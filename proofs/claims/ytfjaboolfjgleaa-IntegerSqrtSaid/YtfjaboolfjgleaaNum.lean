/-
  Plain facts on lists of limbs (base 10^9) and the numbers that they stand for. No program is named here.
-/
import Derived.Below
namespace Go.Proofs.Ytfjaboolfjgleaa

/-- The number with these limbs. -/
def val : List Nat → Nat
  | [] => 0
  | x :: r => x + 1000000000 * val r

/-- All limbs are less than the base. -/
def Dig (xs : List Nat) : Prop := ∀ i, xs.getD i 0 < 1000000000

/-- The limbs of a number, with fuel. -/
def limbsF : Nat → Nat → List Nat
  | 0, _ => []
  | f + 1, n => if n = 0 then [] else n % 1000000000 :: limbsF f (n / 1000000000)

/-- The limbs of a number, the last one not 0. -/
def limbs (n : Nat) : List Nat := limbsF n n

theorem limbsF_eq : ∀ (f g n : Nat), n ≤ f → n ≤ g → limbsF f n = limbsF g n := by
  intro f
  induction f with
  | zero => intro g n h _; obtain rfl : n = 0 := by omega
            cases g <;> simp [limbsF]
  | succ f ih =>
    intro g n h hg
    cases g with
    | zero => obtain rfl : n = 0 := by omega
              simp [limbsF]
    | succ g =>
      unfold limbsF
      by_cases h0 : n = 0
      · simp [h0]
      · rw [if_neg h0, if_neg h0, ih g (n / 1000000000) (by omega) (by omega)]

theorem limbs_zero : limbs 0 = [] := rfl
theorem limbs_step {n : Nat} (h : 0 < n) : limbs n = n % 1000000000 :: limbs (n / 1000000000) := by
  obtain ⟨k, rfl⟩ : ∃ k, n = k + 1 := ⟨n - 1, by omega⟩
  show limbsF (k + 1) (k + 1) = _
  rw [limbsF, if_neg (by omega)]
  congr 1
  exact limbsF_eq _ _ _ (by omega) (by omega)

theorem val_limbsF : ∀ (f n : Nat), n ≤ f → val (limbsF f n) = n := by
  intro f
  induction f with
  | zero => intro n h; simp [limbsF, val]; omega
  | succ f ih =>
    intro n h
    unfold limbsF
    by_cases h0 : n = 0
    · simp [h0, val]
    · rw [if_neg h0, val, ih _ (by omega)]; omega
theorem val_limbs (n : Nat) : val (limbs n) = n := val_limbsF n n (Nat.le_refl _)

theorem limbs_inj {m n : Nat} (h : limbs m = limbs n) : m = n := by
  rw [← val_limbs m, h, val_limbs]

theorem Dig.nil : Dig [] := fun i => by simp
theorem Dig.cons {x : Nat} {r : List Nat} (h : x < 1000000000) (hr : Dig r) : Dig (x :: r) := by
  intro i
  cases i with
  | zero => simpa using h
  | succ i => simpa using hr i
theorem Dig.head {x : Nat} {r : List Nat} (h : Dig (x :: r)) : x < 1000000000 := by simpa using h 0
theorem Dig.tail {x : Nat} {r : List Nat} (h : Dig (x :: r)) : Dig r := fun i => by simpa using h (i + 1)
theorem Dig.take {xs : List Nat} (h : Dig xs) (k : Nat) : Dig (xs.take k) := by
  intro i
  have := h i
  simp only [List.getD_eq_getElem?_getD, List.getElem?_take] at this ⊢
  split
  · exact this
  · simp
theorem Dig.drop {xs : List Nat} (h : Dig xs) (k : Nat) : Dig (xs.drop k) := by
  intro i
  have := h (k + i)
  simpa only [List.getD_eq_getElem?_getD, List.getElem?_drop] using this
theorem Dig.append {xs ys : List Nat} (h : Dig xs) (k : Dig ys) : Dig (xs ++ ys) := by
  intro i
  have := h i
  have := k (i - xs.length)
  simp only [List.getD_eq_getElem?_getD] at *
  by_cases hi : i < xs.length
  · rw [List.getElem?_append_left hi]; assumption
  · rw [List.getElem?_append_right (by omega)]; assumption
theorem Dig.set {xs : List Nat} (h : Dig xs) (i : Nat) {x : Nat} (hx : x < 1000000000) : Dig (xs.set i x) := by
  intro j
  have := h j
  simp only [List.getD_eq_getElem?_getD, List.getElem?_set] at *
  split
  · split
    · simpa using hx
    · simp
  · exact this
theorem Dig.replicate (n : Nat) : Dig (List.replicate n 0) := by
  intro i
  simp only [List.getD_eq_getElem?_getD, List.getElem?_replicate]
  split <;> simp

theorem dig_limbsF : ∀ (f n : Nat), Dig (limbsF f n) := by
  intro f
  induction f with
  | zero => intro n; exact Dig.nil
  | succ f ih =>
    intro n
    unfold limbsF
    split
    · exact Dig.nil
    · exact Dig.cons (by omega) (ih _)
theorem dig_limbs (n : Nat) : Dig (limbs n) := dig_limbsF n n

theorem val_append (xs ys : List Nat) : val (xs ++ ys) = val xs + 1000000000 ^ xs.length * val ys := by
  induction xs with
  | nil => simp [val]
  | cons x r ih =>
    simp only [List.cons_append, val, ih, List.length_cons, Nat.pow_succ]
    rw [Nat.mul_add, Nat.mul_comm (1000000000 ^ r.length) 1000000000, Nat.mul_assoc]; omega

theorem val_lt {xs : List Nat} (h : Dig xs) : val xs < 1000000000 ^ xs.length := by
  induction xs with
  | nil => simp [val]
  | cons x r ih =>
    have := ih h.tail
    have := h.head
    simp only [val, List.length_cons, Nat.pow_succ]
    omega

theorem take_succ_getD (xs : List Nat) (k : Nat) (h : k < xs.length) : xs.take (k + 1) = xs.take k ++ [xs.getD k 0] := by
  rw [List.take_succ_eq_append_getElem h]; simp [List.getD_eq_getElem?_getD, h]

theorem val_take_succ (xs : List Nat) (k : Nat) (h : k < xs.length) : val (xs.take (k + 1)) = val (xs.take k) + 1000000000 ^ k * xs.getD k 0 := by
  rw [take_succ_getD _ _ h, val_append, List.length_take, Nat.min_eq_left (by omega)]
  simp [val]

theorem drop_getD (xs : List Nat) (k : Nat) (h : k < xs.length) : xs.drop k = xs.getD k 0 :: xs.drop (k + 1) := by
  rw [List.drop_eq_getElem_cons h]; simp [List.getD_eq_getElem?_getD, h]

theorem val_drop (xs : List Nat) (k : Nat) (h : k < xs.length) : val (xs.drop k) = xs.getD k 0 + 1000000000 * val (xs.drop (k + 1)) := by
  rw [drop_getD _ _ h, val]

theorem val_split (xs : List Nat) (k : Nat) (h : k ≤ xs.length) : val xs = val (xs.take k) + 1000000000 ^ k * val (xs.drop k) := by
  have := val_append (xs.take k) (xs.drop k)
  rw [List.take_append_drop, List.length_take, Nat.min_eq_left h] at this
  exact this

/-- How many limbs stay if the zeros behind the last other limb of the first n are dropped. -/
def trimN (xs : List Nat) : Nat → Nat
  | 0 => 0
  | n + 1 => if xs.getD n 0 = 0 then trimN xs n else n + 1

theorem trimN_le (xs : List Nat) : ∀ n, trimN xs n ≤ n
  | 0 => Nat.le_refl _
  | n + 1 => by
    have := trimN_le xs n
    unfold trimN
    split <;> omega

/-- A list of limbs with a last one that is not 0 is the list of its number. -/
theorem limbs_val : ∀ {xs : List Nat}, Dig xs → (xs ≠ [] → xs.getD (xs.length - 1) 0 ≠ 0) → limbs (val xs) = xs := by
  intro xs
  induction xs with
  | nil => intros; rfl
  | cons x r ih =>
    intro h hl
    have hx := h.head
    have hpos : 0 < val (x :: r) := by
      simp only [val]
      rcases r with _ | ⟨y, r⟩
      · have := hl (by simp); simp at this; omega
      · have hr : 0 < val (y :: r) := by
          rcases Nat.eq_zero_or_pos (val (y :: r)) with h0 | h0
          · have := ih h.tail (fun _ => by have := hl (by simp); simpa using this)
            rw [h0] at this; simp [limbs_zero] at this
          · exact h0
        omega
    rw [limbs_step hpos]
    have e1 : val (x :: r) % 1000000000 = x := by simp only [val]; omega
    have e2 : val (x :: r) / 1000000000 = val r := by simp only [val]; omega
    rw [e1, e2, ih h.tail ?_]
    intro hr
    have := hl (by simp)
    rcases r with _ | ⟨y, r⟩
    · exact absurd rfl hr
    · simpa using this

theorem val_take_trimN (xs : List Nat) : ∀ n, n ≤ xs.length → val (xs.take (trimN xs n)) = val (xs.take n)
  | 0, _ => rfl
  | n + 1, h => by
    unfold trimN
    split
    · rename_i h0
      rw [val_take_trimN xs n (by omega), val_take_succ _ _ (by omega), h0]; omega
    · rfl

theorem trimN_last (xs : List Nat) : ∀ n, 0 < trimN xs n → xs.getD (trimN xs n - 1) 0 ≠ 0
  | 0, h => by simp [trimN] at h
  | n + 1, h => by
    unfold trimN at h ⊢
    split
    · rename_i h0
      rw [if_pos h0] at h
      exact trimN_last xs n h
    · rename_i h0
      simpa using h0

theorem take_trimN {xs : List Nat} (h : Dig xs) : xs.take (trimN xs xs.length) = limbs (val xs) := by
  have hle := trimN_le xs xs.length
  have e : val (xs.take (trimN xs xs.length)) = val xs := by
    rw [val_take_trimN xs _ (Nat.le_refl _), List.take_of_length_le (Nat.le_refl _)]
  rw [← e, limbs_val (h.take _)]
  intro hne
  rw [List.length_take, Nat.min_eq_left hle]
  have hp : 0 < trimN xs xs.length := by
    rcases Nat.eq_zero_or_pos (trimN xs xs.length) with h0 | h0
    · rw [h0] at hne; simp at hne
    · exact h0
  have := trimN_last xs xs.length hp
  simp only [List.getD_eq_getElem?_getD, List.getElem?_take] at this ⊢
  rw [if_pos (by omega)]
  exact this

theorem trimN_length {xs : List Nat} (h : Dig xs) : trimN xs xs.length = (limbs (val xs)).length := by
  rw [← take_trimN h, List.length_take, Nat.min_eq_left (trimN_le _ _)]

theorem limbs_last (n : Nat) (h : limbs n ≠ []) : (limbs n).getD ((limbs n).length - 1) 0 ≠ 0 := by
  have hl : (limbs n).take (trimN (limbs n) (limbs n).length) = limbs n := by
    rw [take_trimN (dig_limbs n), val_limbs]
  have hlen : trimN (limbs n) (limbs n).length = (limbs n).length := by
    have := congrArg List.length hl
    rw [List.length_take] at this
    have := trimN_le (limbs n) (limbs n).length
    omega
  have := trimN_last (limbs n) (limbs n).length (by rw [hlen]; exact List.length_pos_iff.2 h)
  rwa [hlen] at this

theorem limbs_len_le {n k : Nat} (h : n < 1000000000 ^ k) : (limbs n).length ≤ k := by
  rcases Nat.lt_or_ge k (limbs n).length with hk | hk
  · exfalso
    have hne : limbs n ≠ [] := by intro e; rw [e] at hk; simp at hk
    have hl := limbs_last n hne
    have hs := val_split (limbs n) ((limbs n).length - 1) (by omega)
    rw [val_limbs, val_drop _ _ (by omega)] at hs
    have hp : 1000000000 ^ k ≤ 1000000000 ^ ((limbs n).length - 1) := Nat.pow_le_pow_right (by omega) (by omega)
    have : 1000000000 ^ ((limbs n).length - 1) * 1 ≤ 1000000000 ^ ((limbs n).length - 1) * ((limbs n).getD ((limbs n).length - 1) 0 + 1000000000 * val ((limbs n).drop ((limbs n).length - 1 + 1))) := Nat.mul_le_mul_left _ (by omega)
    omega
  · exact hk
theorem lt_of_limbs_len {n k : Nat} (h : (limbs n).length ≤ k) : n < 1000000000 ^ k := by
  have := val_lt (dig_limbs n)
  rw [val_limbs] at this
  exact Nat.lt_of_lt_of_le this (Nat.pow_le_pow_right (by omega) h)
theorem limbs_eq_nil {n : Nat} : limbs n = [] ↔ n = 0 := by
  constructor
  · intro h; have := val_limbs n; rw [h] at this; exact this.symm
  · rintro rfl; rfl
theorem limbs_len_mono {m n : Nat} (h : m ≤ n) : (limbs m).length ≤ (limbs n).length :=
  limbs_len_le (Nat.lt_of_le_of_lt h (lt_of_limbs_len (Nat.le_refl _)))
theorem dig_iff {xs : List Nat} : Dig xs ↔ ∀ i, i < xs.length → xs.getD i 0 < 1000000000 := by
  constructor
  · intro h i _; exact h i
  · intro h i
    by_cases hi : i < xs.length
    · exact h i hi
    · rw [List.getD_eq_getElem?_getD, List.getElem?_eq_none (by omega)]; simp

end Go.Proofs.Ytfjaboolfjgleaa
