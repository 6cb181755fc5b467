/-
  Square roots, rounded down, by Newton's method: plain numbers.
-/
import Derived.Test.YtfjaboolfjgleaaNum
namespace Go.Proofs.Ytfjaboolfjgleaa

/-- r is the square root of n, rounded down. -/
def IsSq (n r : Nat) : Prop := r * r ≤ n ∧ n < (r + 1) * (r + 1)
theorem IsSq.unique {n r s : Nat} (h : IsSq n r) (k : IsSq n s) : r = s := by
  obtain ⟨h1, h2⟩ := h
  obtain ⟨k1, k2⟩ := k
  rcases Nat.lt_trichotomy r s with hlt | he | hlt
  · have := Nat.mul_le_mul (show r + 1 ≤ s from hlt) (show r + 1 ≤ s from hlt)
    omega
  · exact he
  · have := Nat.mul_le_mul (show s + 1 ≤ r from hlt) (show s + 1 ≤ r from hlt)
    omega
theorem sq_mono {a b : Nat} (h : a ≤ b) : a * a ≤ b * b := Nat.mul_le_mul h h
theorem lt_of_sq {a b : Nat} (h : a * a < b * b) : a < b := by
  rcases Nat.lt_or_ge a b with hlt | hge
  · exact hlt
  · have := sq_mono hge; omega
theorem newton_stop {n r : Nat} (hr : 0 < r) (hu : n < (r + 1) * (r + 1)) (h : r ≤ (r + n / r) / 2) : IsSq n r := by
  refine ⟨?_, hu⟩
  have h2 : r ≤ n / r := by omega
  rwa [Nat.le_div_iff_mul_le hr] at h2
theorem newton_next {n r : Nat} (hr : 0 < r) : n < ((r + n / r) / 2 + 1) * ((r + n / r) / 2 + 1) := by
  have h1 := Nat.div_add_mod n r
  have h2 := Nat.mod_lt n hr
  generalize n / r = t at *
  obtain ⟨m, hm⟩ : ∃ m, m = (r + t) / 2 + 1 := ⟨_, rfl⟩
  rw [← hm]
  have h3 : r + (t + 1) ≤ 2 * m := by omega
  have h4 : n < r * (t + 1) := by rw [Nat.mul_add]; omega
  have h5 : 4 * (r * (t + 1)) ≤ (r + (t + 1)) * (r + (t + 1)) := by
    generalize t + 1 = s
    rcases Nat.le_total r s with hle | hle
    · obtain ⟨k, rfl⟩ : ∃ k, s = r + k := ⟨s - r, by omega⟩
      simp only [Nat.mul_add, Nat.add_mul, Nat.mul_comm k r]
      have := Nat.zero_le (k * k)
      omega
    · obtain ⟨k, rfl⟩ : ∃ k, r = s + k := ⟨r - s, by omega⟩
      simp only [Nat.mul_add, Nat.add_mul, Nat.mul_comm k s]
      have := Nat.zero_le (k * k)
      omega
  have h6 := sq_mono h3
  have h7 : 2 * m * (2 * m) = 4 * (m * m) := by rw [Nat.mul_mul_mul_comm]
  omega
theorem newton_pos {n r : Nat} (hr : 0 < r) (hn : 0 < n) : 0 < (r + n / r) / 2 := by
  rcases Nat.lt_or_ge 1 r with h | h
  · have : 0 ≤ n / r := Nat.zero_le _
    omega
  · obtain rfl : r = 1 := by omega
    rw [Nat.div_one]; omega
/-- The quotient is not much greater than the root. -/
theorem newton_quo {n r : Nat} (hr : 0 < r) (hu : n < (r + 1) * (r + 1)) : n / r ≤ r + 2 := by
  have : n / r < r + 3 := by
    rw [Nat.div_lt_iff_lt_mul hr]
    have e : (r + 1) * (r + 1) = r * r + 2 * r + 1 := by rw [Nat.add_mul, Nat.mul_add]; omega
    have e2 : (r + 3) * r = r * r + 3 * r := Nat.add_mul r 3 r
    omega
  omega
/-- The first root: that of the upper part, and 1 more, moved to its place. -/
theorem first_root {top low r p : Nat} (hp : low < p * p) (hr : IsSq top r) : top * (p * p) + low < (p * (r + 1)) * (p * (r + 1)) := by
  have h := hr.2
  have h1 : (top + 1) * (p * p) ≤ (r + 1) * (r + 1) * (p * p) := Nat.mul_le_mul_right _ h
  rw [Nat.add_mul] at h1
  have h2 : (p * (r + 1)) * (p * (r + 1)) = (r + 1) * (r + 1) * (p * p) := by
    rw [Nat.mul_mul_mul_comm, Nat.mul_comm]
  omega
theorem lt_next_sq {n r : Nat} (h : n < r * r) : n < (r + 1) * (r + 1) := Nat.lt_of_lt_of_le h (sq_mono (Nat.le_succ r))

end Go.Proofs.Ytfjaboolfjgleaa
