/-
  A step of Newton's method on limbs: (root + x / root) / 2, rounded down.
-/
import Derived.Test.YtfjaboolfjgleaaDivok
import Derived.Test.YtfjaboolfjgleaaNewt
namespace Go.Proofs.Ytfjaboolfjgleaa
open Go.RowKit

/-- The list that addLimbs is handed for 1. -/
theorem len_sum {a b k : Nat} (ha : (limbs a).length ≤ k) (hb : (limbs b).length ≤ k) : (limbs (a + b)).length ≤ k + 1 := by
  have h1 := lt_of_limbs_len ha
  have h2 := lt_of_limbs_len hb
  refine limbs_len_le ?_
  rw [Nat.pow_succ]
  omega
theorem limbs_of_one : limbs 1 = [1] := rfl

set_option maxRecDepth 100000 in
set_option maxHeartbeats 1600000 in
theorem newton_calls (w : World) (ax ar : Option Addr) (m r cx cr : Nat) (lx : (limbs m).length ≤ 1048575) (lr : (limbs r).length ≤ 1048575) (hr : 0 < r) (kx : (limbs m).length ≤ cx) (kr : (limbs r).length ≤ cr) (bx : cx ≤ 9223372036854775807) (br : cr ≤ 9223372036854775807)
    (hx : Cells w ax (limbs m)) (hy : Cells w ar (limbs r)) :
    Calls Try.prog 77 #[.slice ax (limbs m).length cx, .slice ar (limbs r).length cr] w (Ret (IsLimbs ((r + m / r) / 2)) w) := by
  have HD := Lib.hid (divOK m r (by omega) hr w ax ar cx cr kx kr bx br hx hy)
  have HY := Lib.hid hy
  have hq : (limbs (m / r)).length ≤ 1048575 := Nat.le_trans (limbs_len_mono (Nat.div_le_self m r)) lx
  have hs : 0 < r + m / r := Nat.add_pos_left hr _
  have hsl : (limbs (r + m / r)).length ≤ 1048575 + 1 := len_sum lr hq
  have HB := Lib.hid (And.intro lr (And.intro hq (And.intro hs hsl)))
  clear lx lr hr kx kr bx br hx hy hq hs hsl
  go_enter Try.func77, Try.ntmps77
  go_wp2_with fail
  refine HD.out.mono ?_
  rintro e w1 ⟨v1, v2, rfl, ⟨a1, c1, rfl, p1, p2, p3⟩, _, e1⟩
  have HA := Lib.hid (addLimbs_calls w1 ar a1 (limbs r) (limbs (m / r)) cr c1 (Nat.le_trans HB.out.1 (by omega)) (Nat.le_trans HB.out.2.1 (by omega)) (HY.out.ext e1) p3 (dig_limbs _) (dig_limbs _))
  rw [val_limbs, val_limbs] at HA
  go_wp2_with fail
  refine HA.out.mono ?_
  rintro e w2 ⟨v2, rfl, ⟨a2, c2, rfl, q1, q2, q3⟩, e2⟩
  have hl0 := limbs_pos HB.out.2.2.1
  have HS := Lib.hid (divideShort_calls w2 a2 (limbs (r + m / r)) c2 2 (Nat.le_trans HB.out.2.2.2 (by omega)) hl0 q3 (dig_limbs _) (by omega) (by omega))
  rw [val_limbs] at HS
  clear hl0
  go_wp2_with fail
  refine HS.out.mono ?_
  rintro e w3 ⟨v3, v4, rfl, ⟨a3, c3, rfl, r1, r2, r3⟩, rfl, e3⟩
  go_wp2
  go_ret
  exact ⟨_, rfl, ⟨_, _, rfl, r1, r2, r3⟩, (e1.trans e2).trans e3⟩

end Go.Proofs.Ytfjaboolfjgleaa
