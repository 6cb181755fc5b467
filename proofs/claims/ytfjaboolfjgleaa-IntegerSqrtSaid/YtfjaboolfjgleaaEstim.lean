/-
  The estimate of a digit of the long division.
-/
import Derived.Test.YtfjaboolfjgleaaD64
import Derived.Test.YtfjaboolfjgleaaSqrts
namespace Go.Proofs.Ytfjaboolfjgleaa
open Go.RowKit

theorem div64_any (w : World) (hi lo y : Nat) (hhi : hi < y) (hlo : lo < 18446744073709551616) (hy : y < 18446744073709551616) :
    Calls Try.prog 84 #[.int .u64 (hi : Int), .int .u64 (lo : Int), .int .u64 (y : Int)] w fun e w' =>
      e = .returned (.tuple #[.int .u64 (((hi * 18446744073709551616 + lo) / y : Nat) : Int), .int .u64 (((hi * 18446744073709551616 + lo) % y : Nat) : Int)]) ∧ Ext w w' := by
  rcases Nat.eq_zero_or_pos hi with h | h
  · subst h
    have := div64_zero w lo y (by omega) hhi
    simpa using this
  · exact (div64_calls w hi lo y h hhi hlo hy).mono fun _ _ ⟨h1, h2⟩ => ⟨h1, h2 ▸ Ext.refl w⟩

set_option maxRecDepth 100000 in
set_option maxHeartbeats 800000 in
theorem estimate_calls (w : World) (b off b' off' : Nat) (ps ys : List Nat) (cp cy m : Nat) (hm : ys.length = m + 2) (hl : ps.length = m + 3) (kp : ps.length ≤ cp) (bp : cp ≤ 9223372036854775807) (ky : ys.length ≤ cy) (by_ : cy ≤ 9223372036854775807)
    (hp : Cells w (some ⟨b, off, none⟩) ps) (dp : Dig ps) (hy : Cells w (some ⟨b', off', none⟩) ys) (dy : Dig ys) (hlt : val (ps.drop m) < 1000000001 * val (ys.drop m)) :
    Calls Try.prog 80 #[.slice (some ⟨b, off, none⟩) (m + 3) cp, .slice (some ⟨b', off', none⟩) (m + 2) cy] w fun e w' =>
      e = .returned (.int .u64 ((val (ps.drop m) / val (ys.drop m) : Nat) : Int)) ∧ Ext w w' := by
  have l1 : (ps.drop m).length = 3 := by rw [List.length_drop]; omega
  have l2 : (ys.drop m).length = 2 := by rw [List.length_drop]; omega
  have b1 := val_lt (dp.drop m)
  have b2 := val_lt (dy.drop m)
  rw [l1] at b1
  rw [l2] at b2
  have hs := split_calls w b (off + m) (ps.drop m) (cp - m) (by omega) (by omega) (hp.drop m) (dp.drop m) (by omega) (by omega)
  have hv := valueOf_calls w (some ⟨b', off' + m, none⟩) (ys.drop m) (cy - m) (by omega) (by omega) (hy.drop m) (by omega)
  rw [l1] at hs
  rw [l2] at hv
  have hd := div64_any w (val (ps.drop m) / 18446744073709551616) (val (ps.drop m) % 18446744073709551616) (val (ys.drop m)) (by omega) (by omega) (by omega)
  rw [show val (ps.drop m) / 18446744073709551616 * 18446744073709551616 + val (ps.drop m) % 18446744073709551616 = val (ps.drop m) by omega] at hd
  generalize val (ps.drop m) = p at *
  generalize val (ys.drop m) = y at *
  have HS := Lib.hid hs
  have HV := Lib.hid hv
  have HD := Lib.hid hd
  have k1 : ¬ cp = m := by omega
  have k2 : ¬ cy = m := by omega
  have k3 : (m : Int) + 3 ≤ (cp : Int) := by omega
  have k4 : (m : Int) + 2 ≤ (cy : Int) := by omega
  clear hs hv hd l1 l2 b1 b2 hp hy dp dy hm hl hlt
  go_enter Try.func80, Try.ntmps80
  go_wp2_with fail
  refine HS.out.mono ?_
  rintro e w' ⟨rfl, rfl⟩
  go_wp2_with fail
  refine HV.out.mono ?_
  rintro e w' ⟨rfl, rfl⟩
  go_wp2_with fail
  refine HD.out.mono ?_
  rintro e w' ⟨rfl, e1⟩
  go_wp2_with fail
  go_ret
  exact ⟨by simp, e1⟩

end Go.Proofs.Ytfjaboolfjgleaa
