/-
  The two halves of a number of three or four limbs.
-/
import Derived.Test.YtfjaboolfjgleaaBits
namespace Go.Proofs.Ytfjaboolfjgleaa
open Go.RowKit

theorem Cells.drop {w : World} {b off : Nat} {xs : List Nat} (h : Cells w (some ⟨b, off, none⟩) xs) (k : Nat) : Cells w (some ⟨b, off + k, none⟩) (xs.drop k) := by
  rcases Nat.lt_or_ge k xs.length with hk | hk
  · obtain ⟨b', off', he, hx⟩ := h.at_ (by omega)
    injection he with he
    injection he with h1 h2
    subst h1 h2
    refine .inr ⟨b, off + k, rfl, fun i hi => ?_⟩
    rw [List.length_drop] at hi
    have := hx (k + i) (by omega)
    rw [← Nat.add_assoc] at this
    rw [this]
    congr 3
    simp [List.getD_eq_getElem?_getD]
  · exact .inl (List.drop_of_length_le hk)
theorem halves (X Z : Nat) (hi lo s c : Nat) (h1 : hi = X * 1000000000000000000 / 18446744073709551616) (h2 : lo = X * 1000000000000000000 % 18446744073709551616) (h3 : s = (lo + Z) % 18446744073709551616) (h4 : c = (lo + Z) / 18446744073709551616) :
    hi + c = (Z + 1000000000000000000 * X) / 18446744073709551616 ∧ s = (Z + 1000000000000000000 * X) % 18446744073709551616 := by
  omega

set_option maxRecDepth 100000 in
set_option maxHeartbeats 800000 in
theorem split_calls (w : World) (b off : Nat) (xs : List Nat) (cap : Nat) (hc : xs.length ≤ cap) (hm : cap ≤ 9223372036854775807) (h : Cells w (some ⟨b, off, none⟩) xs) (dx : Dig xs) (h3 : 2 < xs.length) (h4 : xs.length ≤ 4) :
    Calls Try.prog 76 #[.slice (some ⟨b, off, none⟩) xs.length cap] w fun e w' =>
      e = .returned (.tuple #[.int .u64 ((val xs / 18446744073709551616 : Nat) : Int), .int .u64 ((val xs % 18446744073709551616 : Nat) : Int)]) ∧ w = w' := by
  have hl : ¬ (xs.length : Int) ≤ 2 := by omega
  have hcap : ¬ cap = 2 := by omega
  have hl2 : (2 : Int) ≤ (xs.length : Int) := by omega
  have hl3 : (2 : Int) ≤ (cap : Int) := by omega
  have hx := val_split xs 2 (by omega)
  have b1 := val_lt (dx.drop 2)
  have b2 := val_lt (dx.take 2)
  rw [List.length_drop] at b1
  rw [List.length_take, Nat.min_eq_left (by omega)] at b2
  have b1' : val (xs.drop 2) < 1000000000000000000 := Nat.lt_of_lt_of_le b1 (Nat.pow_le_pow_right (by omega) (show xs.length - 2 ≤ 2 by omega))
  have b2' : val (xs.take 2) < 1000000000000000000 := b2
  have hv1 := valueOf_calls w (some ⟨b, off + 2, none⟩) (xs.drop 2) (cap - 2) (by rw [List.length_drop]; omega) (by omega) (h.drop 2) (by omega)
  have hv2 := valueOf_calls w (some ⟨b, off, none⟩) (xs.take 2) cap (by rw [List.length_take]; omega) (by omega) (h.take 2) (by omega)
  rw [List.length_drop] at hv1
  rw [List.length_take, Nat.min_eq_left (by omega)] at hv2
  rw [hx]
  rw [show (1000000000 : Nat) ^ 2 = 1000000000000000000 from rfl]
  clear hx b1 b2
  generalize val (xs.drop 2) = X at hv1 b1' ⊢
  generalize val (xs.take 2) = Z at hv2 b2' ⊢
  have HV1 := Lib.hid hv1
  have HV2 := Lib.hid hv2
  have hm64 := mul64_calls w X 1000000000000000000 (by omega) (by omega)
  obtain ⟨hi, e1⟩ : ∃ hi, hi = X * 1000000000000000000 / 18446744073709551616 := ⟨_, rfl⟩
  obtain ⟨lo, e2⟩ : ∃ lo, lo = X * 1000000000000000000 % 18446744073709551616 := ⟨_, rfl⟩
  obtain ⟨s, e3⟩ : ∃ s, s = (lo + Z) % 18446744073709551616 := ⟨_, rfl⟩
  obtain ⟨c, e4⟩ : ∃ c, c = (lo + Z) / 18446744073709551616 := ⟨_, rfl⟩
  rw [← e1, ← e2] at hm64
  rw [show ((1000000000000000000 : Nat) : Int) = 1000000000000000000 from rfl] at hm64
  obtain ⟨e5, e6⟩ := halves X Z hi lo s c e1 e2 e3 e4
  rw [← e5, ← e6]
  have HM := Lib.hid hm64
  have HA := Lib.hid (add64_run lo Z s c e3 e4)
  have bh : (hi : Int) ≤ 1000000000000000000 := by omega
  have bc : (c : Int) ≤ 2 := by omega
  clear hv1 hv2 hm64 e1 e2 e3 e4 e5 e6 b1' b2' hm h4
  go_enter Try.func76, Try.ntmps76
  go_wp2_with fail
  refine HV1.out.mono ?_
  rintro e w' ⟨rfl, rfl⟩
  go_wp2_with fail
  refine HM.out.mono ?_
  rintro e w' ⟨rfl, rfl⟩
  go_wp2_with fail
  refine HV2.out.mono ?_
  rintro e w' ⟨rfl, rfl⟩
  have hadd := HA.out
  go_wp2_with (rw [hadd])
  go_ret2
  exact ⟨by simp, rfl⟩

end Go.Proofs.Ytfjaboolfjgleaa
