/-
  The numbers of math/bits.Div64: one digit of 32 bits, and both together.
-/
import Derived.Test.YtfjaboolfjgleaaSplit
namespace Go.Proofs.Ytfjaboolfjgleaa

/-- The divisor, with its upper bit set, and what is divided. -/
def DStart (u u1 Y a b : Nat) : Prop := Y = a * 4294967296 + b ∧ b < 4294967296 ∧ 2147483648 ≤ a ∧ a < 4294967296 ∧ u < Y ∧ u1 < 4294967296
/-- What holds of the digit and its rest while the digit is lowered. -/
def DInv (u u1 Y a q r : Nat) : Prop := q * a + r = u ∧ (u * 4294967296 + u1) / Y ≤ q ∧ r < 4294967296 ∧ q ≤ 4294967297
section
variable {u u1 Y a b q r : Nat}
theorem DStart.pos (h : DStart u u1 Y a b) : 0 < Y := by obtain ⟨h1, h2, h3, h4, h5, h6⟩ := h; omega
theorem DStart.lt (h : DStart u u1 Y a b) : (u * 4294967296 + u1) / Y < 4294967296 := by
  have := h.pos
  obtain ⟨h1, h2, h3, h4, h5, h6⟩ := h
  rw [Nat.div_lt_iff_lt_mul (by omega)]
  omega
theorem DStart.init (h : DStart u u1 Y a b) : DInv u u1 Y a (u / a) (u % a) := by
  have hlt := h.pos
  obtain ⟨h1, h2, h3, h4, h5, h6⟩ := h
  refine ⟨?_, ?_, ?_, ?_⟩
  · rw [Nat.mul_comm]; exact Nat.div_add_mod u a
  · rw [Nat.le_div_iff_mul_le (by omega)]
    have e := Nat.div_mul_le_self (u * 4294967296 + u1) Y
    generalize (u * 4294967296 + u1) / Y = Q at e ⊢
    have e1 : Q * (a * 4294967296) ≤ Q * Y := Nat.mul_le_mul_left _ (by omega)
    rw [← Nat.mul_assoc] at e1
    omega
  · have := Nat.mod_lt u (show a > 0 by omega); omega
  · have : u / a < 4294967298 := by
      rw [Nat.div_lt_iff_lt_mul (by omega)]
      omega
    omega
/-- The test of the loop. -/
theorem DInv.eq (h : DStart u u1 Y a b) (k1 : q * a + r = u) : q * Y + r * 4294967296 = u * 4294967296 + q * b := by
  obtain ⟨h1, h2, h3, h4, h5, h6⟩ := h
  rw [h1, Nat.mul_add, ← Nat.mul_assoc, ← k1]
  generalize q * a = x
  generalize q * b = y
  omega
theorem DInv.test (h : DStart u u1 Y a b) (k1 : q * a + r = u) : 4294967296 * r + u1 < q * b ↔ (u * 4294967296 + u1) / Y < q := by
  have e := DInv.eq h k1
  rw [Nat.div_lt_iff_lt_mul h.pos]
  omega
theorem DInv.big (h : DStart u u1 Y a b) (h2 : 4294967296 ≤ q) : (u * 4294967296 + u1) / Y < q := Nat.lt_of_lt_of_le h.lt h2
/-- The digit is too great: it is lowered by 1. -/
theorem DInv.down (h : DStart u u1 Y a b) (k : DInv u u1 Y a q r) (ht : (u * 4294967296 + u1) / Y < q) :
    0 < q ∧ (q - 1) * a + (r + a) = u ∧ (u * 4294967296 + u1) / Y ≤ q - 1 ∧ q - 1 ≤ 4294967296 ∧ r + a < 8589934592 := by
  obtain ⟨k1, k2, k3, k4⟩ := k
  obtain ⟨h1, h2, h3, h4, h5, h6⟩ := h
  generalize (u * 4294967296 + u1) / Y = Q at *
  refine ⟨by omega, ?_, by omega, by omega, by omega⟩
  rw [Nat.sub_mul, Nat.one_mul, ← k1]
  have : 1 * a ≤ q * a := Nat.mul_le_mul_right _ (by omega)
  omega
theorem DInv.stop (k : DInv u u1 Y a q r) (ht : ¬ (u * 4294967296 + u1) / Y < q) : q = (u * 4294967296 + u1) / Y := by
  have := k.2.1
  omega
theorem DInv.far (h : DStart u u1 Y a b) (k1 : q * a + r = u) (k2 : (u * 4294967296 + u1) / Y ≤ q) (k3 : 4294967296 ≤ r) (k4 : q ≤ 4294967296) : q = (u * 4294967296 + u1) / Y := by
  have ht := DInv.test (u1 := u1) h k1
  have hb : q * b ≤ 4294967296 * 4294967295 := Nat.mul_le_mul k4 (by have := h.2.1; omega)
  have : ¬ (u * 4294967296 + u1) / Y < q := by rw [← ht]; omega
  omega
/-- What is left behind a digit. -/
theorem dstep_rest (h : DStart u u1 Y a b) (hY : Y < 18446744073709551616) (hq : q = (u * 4294967296 + u1) / Y) (hr : r = (u * 4294967296 + u1) % Y) :
    (((u * 4294967296 % 18446744073709551616 + u1) % 18446744073709551616) + (18446744073709551616 - q * Y % 18446744073709551616)) % 18446744073709551616 = r := by
  have e := Nat.div_add_mod (u * 4294967296 + u1) Y
  have hr' := Nat.mod_lt (u * 4294967296 + u1) h.pos
  rw [← hq, ← hr, Nat.mul_comm] at e
  rw [← hr] at hr'
  omega
end

/-- Both digits. -/
theorem two_digits {N2 N1 N0 Y q1 r1 q0 r0 : Nat} (hY : 0 < Y) (h1 : q1 = (N2 * 4294967296 + N1) / Y) (h2 : r1 = (N2 * 4294967296 + N1) % Y) (h3 : q0 = (r1 * 4294967296 + N0) / Y) (h4 : r0 = (r1 * 4294967296 + N0) % Y) :
    ((N2 * 4294967296 + N1) * 4294967296 + N0) / Y = q1 * 4294967296 + q0 ∧ ((N2 * 4294967296 + N1) * 4294967296 + N0) % Y = r0 := by
  have e1 := Nat.div_add_mod (N2 * 4294967296 + N1) Y
  have e2 := Nat.div_add_mod (r1 * 4294967296 + N0) Y
  have l2 := Nat.mod_lt (r1 * 4294967296 + N0) hY
  rw [← h1, ← h2] at e1
  rw [← h3, ← h4] at e2
  rw [← h4] at l2
  refine (Nat.div_mod_unique hY).2 ⟨?_, l2⟩
  rw [← e1, Nat.mul_add, ← Nat.mul_assoc]
  generalize Y * q1 = x at *
  generalize Y * q0 = y at *
  omega
/-- Moved to the left so that the divisor's upper bit is set. -/
theorem moved {hi lo y s : Nat} (hs : s ≤ 64) (hlo : lo < 18446744073709551616) (hhi : hi < y) :
    (hi * 18446744073709551616 + lo) * 2 ^ s = (hi * 2 ^ s + lo / 2 ^ (64 - s)) * 18446744073709551616 + lo * 2 ^ s % 18446744073709551616 ∧
    hi * 2 ^ s + lo / 2 ^ (64 - s) < y * 2 ^ s ∧ lo / 2 ^ (64 - s) < 2 ^ s := by
  have e : 2 ^ s * 2 ^ (64 - s) = 18446744073709551616 := by rw [← Nat.pow_add, show s + (64 - s) = 64 by omega]
  have hp : 0 < 2 ^ s := Nat.pow_pos (by omega)
  have hp2 : 0 < 2 ^ (64 - s) := Nat.pow_pos (by omega)
  have e1 : lo * 2 ^ s / 18446744073709551616 = lo / 2 ^ (64 - s) := by
    rw [← e, Nat.mul_comm lo, Nat.mul_div_mul_left _ _ hp]
  have e2 := Nat.div_add_mod (lo * 2 ^ s) 18446744073709551616
  rw [e1] at e2
  have e3 : lo / 2 ^ (64 - s) < 2 ^ s := by
    rw [Nat.div_lt_iff_lt_mul hp2, e]; exact hlo
  refine ⟨?_, ?_, e3⟩
  · rw [Nat.add_mul, Nat.add_mul, Nat.mul_right_comm]
    omega
  · have : (hi + 1) * 2 ^ s ≤ y * 2 ^ s := Nat.mul_le_mul_right _ hhi
    rw [Nat.add_mul] at this
    omega
theorem moved_back {y s : Nat} (N : Nat) :
    N * 2 ^ s / (y * 2 ^ s) = N / y ∧ N * 2 ^ s % (y * 2 ^ s) / 2 ^ s = N % y := by
  have hp : 0 < 2 ^ s := Nat.pow_pos (by omega)
  rw [Nat.mul_div_mul_right _ _ hp, Nat.mul_mod_mul_right, Nat.mul_div_cancel _ hp]
  exact ⟨rfl, rfl⟩
theorem or_move {x y s : Nat} (h : y < 2 ^ s) : x * 2 ^ s ||| y = x * 2 ^ s + y := by
  rw [Nat.mul_comm]; exact (Nat.two_pow_add_eq_or_of_lt h x).symm

end Go.Proofs.Ytfjaboolfjgleaa
