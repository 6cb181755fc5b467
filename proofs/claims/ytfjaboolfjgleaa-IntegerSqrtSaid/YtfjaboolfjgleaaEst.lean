/-
  The numbers of a round of the long division: how far off the estimate is, and what the subtraction leaves.
-/
import Derived.Test.YtfjaboolfjgleaaDivz
namespace Go.Proofs.Ytfjaboolfjgleaa

/-- The estimate from the upper limbs: the quotient, or greater by 1; and it fits. -/
theorem est_bounds {D p3 p0 y2 y0 B : Nat} (hD : 0 < D) (hp0 : p0 < D) (hy0 : y0 < D) (hy2 : B ≤ y2) (hB : 0 < B) (hP : p3 * D + p0 < B * (y2 * D + y0)) :
    p3 < (B + 1) * y2 ∧ (p3 * D + p0) / (y2 * D + y0) ≤ p3 / y2 ∧ p3 / y2 ≤ (p3 * D + p0) / (y2 * D + y0) + 1 ∧ p3 / y2 ≤ B := by
  have hYp : 0 < y2 * D + y0 := by
    have := Nat.mul_pos (show 0 < y2 by omega) hD
    omega
  have h1 : p3 < (B + 1) * y2 := by
    have e1 : B * (y2 * D + y0) ≤ B * ((y2 + 1) * D) := Nat.mul_le_mul_left _ (by rw [Nat.add_mul]; omega)
    have e2 : p3 * D < B * (y2 + 1) * D := by rw [Nat.mul_assoc]; omega
    have e3 : p3 < B * (y2 + 1) := Nat.lt_of_mul_lt_mul_right e2
    rw [Nat.mul_add] at e3
    rw [Nat.add_mul]
    omega
  have h4 : p3 / y2 ≤ B := by
    have : p3 / y2 < B + 1 := Nat.div_lt_of_lt_mul (by rw [Nat.mul_comm]; exact h1)
    omega
  have hq := Nat.div_mul_le_self (p3 * D + p0) (y2 * D + y0)
  have hs := Nat.div_mul_le_self p3 y2
  refine ⟨h1, ?_, ?_, h4⟩
  · generalize (p3 * D + p0) / (y2 * D + y0) = q at hq ⊢
    rw [Nat.le_div_iff_mul_le (by omega)]
    have e1 : q * y2 * D ≤ q * (y2 * D + y0) := by rw [Nat.mul_assoc]; exact Nat.mul_le_mul_left _ (Nat.le_add_right _ _)
    have e2 : q * y2 * D < (p3 + 1) * D := by rw [Nat.add_mul]; omega
    have := Nat.lt_of_mul_lt_mul_right e2
    omega
  · generalize p3 / y2 = s at hs h4 ⊢
    rcases s with _ | s
    · exact Nat.zero_le _
    · refine Nat.succ_le_succ ?_
      rw [Nat.le_div_iff_mul_le hYp]
      have e1 : s * (y2 * D + y0) ≤ s * ((y2 + 1) * D) := Nat.mul_le_mul_left _ (by rw [Nat.add_mul]; omega)
      have e2 : s * (y2 + 1) ≤ p3 := by
        rw [Nat.add_mul] at hs
        rw [Nat.mul_add]
        omega
      have e3 : s * ((y2 + 1) * D) ≤ p3 * D := by rw [← Nat.mul_assoc]; exact Nat.mul_le_mul_right _ e2
      omega

/-- The estimate was the quotient: nothing lacks, and the rest is left. -/
theorem round_eq {N low low' t c q Y r : Nat} (hY : Y ≤ N) (hr : r < Y) (hP : low + N * t = q * Y + r) (hl : low' < N) (h : low' + q * Y = low + N * c) : c = t ∧ low' = r := by
  have e : low' + N * t = r + N * c := by omega
  have hc : c = t := by
    rcases Nat.lt_trichotomy c t with h1 | h1 | h1
    · have := Nat.mul_le_mul_left N (show c + 1 ≤ t from h1)
      rw [Nat.mul_add] at this
      omega
    · exact h1
    · have := Nat.mul_le_mul_left N (show t + 1 ≤ c from h1)
      rw [Nat.mul_add] at this
      omega
  subst hc
  exact ⟨rfl, by omega⟩
/-- The estimate was greater by 1: one lacks, and adding the divisor back leaves the rest. -/
theorem round_over {N low low' low2 t c c2 q Y r : Nat} (hY : Y ≤ N) (hr : r < Y) (hP : low + N * t = q * Y + r) (hl : low' < N) (h : low' + (q + 1) * Y = low + N * c) (hl2 : low2 < N) (h2 : low2 + N * c2 = low' + Y) :
    t < c ∧ low2 = r := by
  rw [Nat.add_mul] at h
  have e : low' + Y + N * t = r + N * c := by omega
  have hc : c = t + 1 := by
    rcases Nat.lt_trichotomy c (t + 1) with h1 | h1 | h1
    · have := Nat.mul_le_mul_left N (show c ≤ t by omega)
      omega
    · exact h1
    · have := Nat.mul_le_mul_left N (show t + 1 + 1 ≤ c from h1)
      rw [Nat.mul_add, Nat.mul_add] at this
      omega
  subst hc
  rw [Nat.mul_add] at e
  refine ⟨by omega, ?_⟩
  have e2 : low2 + N * c2 = r + N := by omega
  rcases c2 with _ | _ | c2
  · omega
  · omega
  · have := Nat.mul_le_mul_left N (show 2 ≤ c2 + 1 + 1 by omega)
    omega

end Go.Proofs.Ytfjaboolfjgleaa
