/-
  How many bits a number has: the library's contracts for bits.Len64 and bits.LeadingZeros64, at this program.
-/
import Derived.Test.YtfjaboolfjgleaaDstep
import Derived.Shelf.Small.Bits
import Derived.Shelf.Strconv.Itoa0
namespace Go.Proofs.Ytfjaboolfjgleaa
open Go.Shelf

theorem bitLenAux_zero (f : Nat) : Lib.bitLenAux f 0 = 0 := by cases f <;> simp [Lib.bitLenAux]
theorem bitLenAux_spec : ∀ (f x : Nat), x < 2 ^ f → x < 2 ^ Lib.bitLenAux f x ∧ Lib.bitLenAux f x ≤ f ∧ (0 < x → 0 < Lib.bitLenAux f x ∧ 2 ^ (Lib.bitLenAux f x - 1) ≤ x) := by
  intro f
  induction f with
  | zero => intro x h; simp [Lib.bitLenAux] at *; omega
  | succ f ih =>
    intro x h
    unfold Lib.bitLenAux
    by_cases h0 : x = 0
    · simp [h0]
    · rw [if_neg h0]
      rw [Nat.pow_succ] at h
      obtain ⟨h1, h2, h3⟩ := ih (x / 2) (by omega)
      rcases Nat.eq_zero_or_pos (x / 2) with hz | hz
      · rw [hz, bitLenAux_zero]
        refine ⟨?_, by omega, fun _ => ⟨by omega, ?_⟩⟩
        · show x < 2 ^ 1; omega
        · show 2 ^ 0 ≤ x; omega
      · obtain ⟨k1, k2⟩ := h3 hz
        generalize Lib.bitLenAux f (x / 2) = L at *
        obtain ⟨M, rfl⟩ : ∃ M, L = M + 1 := ⟨L - 1, by omega⟩
        rw [Nat.add_sub_cancel] at k2
        refine ⟨?_, by omega, fun _ => ⟨by omega, ?_⟩⟩
        · rw [Nat.add_comm 1, Nat.pow_succ]; omega
        · rw [Nat.add_comm 1, Nat.add_sub_cancel, Nat.pow_succ]; omega
theorem bitLen_bounds (x : Nat) (h : x < 18446744073709551616) : x < 2 ^ Lib.bitLen x ∧ Lib.bitLen x ≤ 64 ∧ (0 < x → 0 < Lib.bitLen x ∧ 2 ^ (Lib.bitLen x - 1) ≤ x) := bitLenAux_spec 64 x h
/-- Moved to the left by the number of leading zeros, a number has its upper bit set. -/
theorem upper_bit (y : Nat) (h0 : 0 < y) (h : y < 18446744073709551616) : y * 2 ^ (64 - Lib.bitLen y) < 18446744073709551616 ∧ 9223372036854775808 ≤ y * 2 ^ (64 - Lib.bitLen y) := by
  obtain ⟨h1, h2, h3⟩ := bitLen_bounds y h
  obtain ⟨h4, h5⟩ := h3 h0
  generalize Lib.bitLen y = L at *
  have hp : 0 < 2 ^ (64 - L) := Nat.pow_pos (by omega)
  have e : 2 ^ L * 2 ^ (64 - L) = 18446744073709551616 := by rw [← Nat.pow_add, show L + (64 - L) = 64 by omega]
  have e2 : 2 ^ (L - 1) * 2 ^ (64 - L) = 9223372036854775808 := by rw [← Nat.pow_add, show L - 1 + (64 - L) = 63 by omega]
  exact ⟨by rw [← e]; exact Nat.mul_lt_mul_of_pos_right h1 hp, by rw [← e2]; exact Nat.mul_le_mul_right _ h5⟩

def ren129 : Go.Shelf.Ren := ⟨fun | 129 => 83 | n => n, fun | 53 => 49 | 3 => 3 | 4 => 4 | 46 => 83 | 5 => 5 | 9 => 9 | n => n, fun | n => n⟩
theorem lays129 : Go.Proofs.Lays.n129 Try.prog ren129 := {
  mixed := by kernel_rfl
  f129 := Try.func83.trans (congrArg some (by kernel_rfl))
  t3 := Try.underlying3
  a3 := Try.isAgg3
  z3 := Try.sizeOf3
  v3 := Try.zeroValue3
  t4 := Try.underlying4
  a4 := Try.isAgg4
  z4 := Try.sizeOf4
  v4 := Try.zeroValue4
  t5 := Try.underlying5
  a5 := Try.isAgg5
  z5 := Try.sizeOf5
  v5 := Try.zeroValue5
  t9 := Try.underlying9
  a9 := Try.isAgg9
  z9 := Try.sizeOf9
  v9 := Try.zeroValue9
  t46 := Try.underlying83
  a46 := Try.isAgg83
  z46 := Try.sizeOf83
  v46 := Try.zeroValue83
  t53 := Try.underlying49
  a53 := Try.isAgg49
  z53 := Try.sizeOf49
  v53 := Try.zeroValue49 }
theorem len64_calls (w : World) (x L : Nat) (h : x < 18446744073709551616) (hL : L = Lib.bitLen x) :
    Calls Try.prog 83 #[.int .u64 (x : Int)] w fun e w' => e = .returned (.int .i64 (L : Int)) ∧ w = w' := by
  subst hL
  exact (Any.bits_Len64 lays129 (x : Int) w (by omega) (by omega)).mono fun _ _ ⟨h1, h2⟩ => ⟨h1, h2.symm⟩

def ren134 : Go.Shelf.Ren := ⟨fun | 134 => 88 | 129 => 83 | n => n, fun | 53 => 49 | 3 => 3 | 4 => 4 | 46 => 83 | 5 => 5 | 9 => 9 | n => n, fun | n => n⟩
theorem lays134 : Go.Proofs.Lays.n134 Try.prog ren134 := {
  mixed := by kernel_rfl
  f129 := Try.func83.trans (congrArg some (by kernel_rfl))
  f134 := Try.func88.trans (congrArg some (by kernel_rfl))
  t3 := Try.underlying3
  a3 := Try.isAgg3
  z3 := Try.sizeOf3
  v3 := Try.zeroValue3
  t4 := Try.underlying4
  a4 := Try.isAgg4
  z4 := Try.sizeOf4
  v4 := Try.zeroValue4
  t5 := Try.underlying5
  a5 := Try.isAgg5
  z5 := Try.sizeOf5
  v5 := Try.zeroValue5
  t9 := Try.underlying9
  a9 := Try.isAgg9
  z9 := Try.sizeOf9
  v9 := Try.zeroValue9
  t46 := Try.underlying83
  a46 := Try.isAgg83
  z46 := Try.sizeOf83
  v46 := Try.zeroValue83
  t53 := Try.underlying49
  a53 := Try.isAgg49
  z53 := Try.sizeOf49
  v53 := Try.zeroValue49 }
theorem lz64_calls (w : World) (x s : Nat) (h : x < 18446744073709551616) (hs : s = 64 - Lib.bitLen x) :
    Calls Try.prog 88 #[.int .u64 (x : Int)] w fun e w' => e = .returned (.int .i64 (s : Int)) ∧ w = w' := by
  subst hs
  have hb := (bitLen_bounds x h).2.1
  refine (Any.bits_LeadingZeros64 lays134 (x : Int) w (by omega) (by omega)).mono fun _ _ ⟨h1, h2⟩ => ⟨?_, h2.symm⟩
  rw [h1]
  congr 3
  rw [Int.toNat_natCast]
  omega

end Go.Proofs.Ytfjaboolfjgleaa
