/-
  Sqrt of an integer, in all cases.
-/
import Derived.Test.YtfjaboolfjgleaaSqa
import Derived.Test.YtfjaboolfjgleaaLim
namespace Go.Proofs.Ytfjaboolfjgleaa
open Go.RowKit

/-- The square root, rounded down. -/
def isqN : Nat → Nat
  | 0 => 0
  | n + 1 => if n + 1 < (isqN n + 1) * (isqN n + 1) then isqN n else isqN n + 1
theorem isqN_spec (n : Nat) : IsSq n (isqN n) := by
  induction n with
  | zero => exact ⟨by decide, by decide⟩
  | succ n ih =>
    obtain ⟨h1, h2⟩ := ih
    unfold isqN
    split
    · rename_i h; exact ⟨by omega, h⟩
    · rename_i h
      refine ⟨by omega, ?_⟩
      have : (isqN n + 1) * (isqN n + 1) < (isqN n + 1 + 1) * (isqN n + 1 + 1) := Nat.mul_lt_mul'' (by omega) (by omega)
      omega
theorem isqN_spec_eq {n r : Nat} (h : IsSq n r) : isqN n = r := (isqN_spec n).unique h
/-- What Sqrt returns: an integer's root, rounded down; 0 and an error for a negative one. -/
def isq (z : Int) : Int := if z < 0 then 0 else (isqN z.natAbs : Int)
def isqE (z : Int) : Int := if z < 0 then 7 else 0
def RetSqA (z : Int) (w : World) (e : Ending) (w' : World) : Prop :=
  ∃ v, e = .returned (.tuple #[v, .int .i64 (isqE z)]) ∧ IsInt w' v (isq z) ∧ Ext w w'

set_option maxRecDepth 100000 in
set_option maxHeartbeats 1600000 in
theorem sqrt_any (w : World) (v : Value) (z : Int) (h : IsInt w v z) (l : Lim 1048575 z) : Calls Try.prog 38 #[v] w (RetSqA z w) := by
  obtain ⟨ao, cap, s, n, rfl, h1, h2, h3, H4, H5, H6⟩ := h.open_
  obtain ⟨W, hW, eW, c0, c1, r0, r1, f0, f1⟩ := boxes1r w (.bool s) (.slice ao (limbs n).length cap) 24
  unfold Lim at l
  rw [← H4.out] at l
  cases s
  · have hz : z = (n : Int) := H5.out
    subst hz
    have HVA := Lib.hid (isInt_raw (s := false) h1 h2 h3 (by simp))
    have HL := Lib.hid (And.intro l (And.intro h1 (And.intro h2 h3)))
    have HN := Lib.hid (show isqE (n : Int) = 0 ∧ isq (n : Int) = (isqN n : Int) from ⟨if_neg (by omega), by unfold isq; rw [if_neg (by omega), Int.natAbs_natCast]⟩)
    clear H4 H5 H6 h l h1 h3
    go_enter Try.func38, Try.ntmps38
    go_wp2_with fail
    clear hW
    refine (valid_calls W _ false (limbs n) (HVA.out.1.ext eW)).mono ?_
    rintro e w1 ⟨rfl, e1⟩
    rw [HVA.out.2]
    replace c0 := e1.cell c0
    replace c1 := e1.cell c1
    go_wp2_with fail
    refine (sqrtLimbs_any w1 ao n cap HL.out.1 HL.out.2.1 HL.out.2.2.1 (HL.out.2.2.2.ext (eW.trans e1))).mono ?_
    rintro e w2 ⟨v2, rfl, ⟨r, hr, ⟨ao2, cap2, rfl, k1, k2, k3⟩⟩, e2⟩
    have HR := Lib.hid hr
    clear hr
    go_wp2_with fail
    refine (signedL_calls _ _ _ r _ k1 k2 k3).mono ?_
    rintro e w3 ⟨v3, rfl, hI, e3⟩
    obtain ⟨ao3, cap3, s3, n3, rfl, _⟩ := IsInt.open_ hI
    have eA := (e1.trans e2).trans e3
    have r02 := eA.cell r0
    have r12 := eA.cell r1
    have f02 := eA.frozen (lt_of_cell r0) f0
    have f12 := eA.frozen (lt_of_cell r1) f1
    clear r0 r1 f0 f1 c0 c1
    go_wp2
    obtain ⟨u, hu, hu2, hu3⟩ := fin_int hI r02 r12 (by omega) (eW.trans eA)
    injection hu with hu
    subst hu
    exact bodyPost_ret (v := .tuple #[.agg #[.bool s3, .slice ao3 (limbs n3).length cap3], .int .i64 0]) (by simp [results, Try.results38, go_sem, r02, r12]) rfl ⟨_, by rw [HN.out.1], by rw [HN.out.2, isqN_spec_eq HR.out]; exact hu2, hu3⟩
  · have hz : z < 0 := by have h5 := H5.out; have h6 := H6.out rfl; simp only [sgn, if_true] at h5; omega
    have HN := Lib.hid (show isqE z = 7 ∧ isq z = 0 from ⟨if_pos hz, if_pos hz⟩)
    clear H4 H5 H6 h l hz
    go_enter Try.func38, Try.ntmps38
    go_wp2
    exact bodyPost_ret (v := .tuple #[.agg #[.bool false, .slice none 0 0], .int .i64 7]) (by simp [results, Try.results38, go_sem, r0, r1]) rfl ⟨_, by rw [HN.out.1], by rw [HN.out.2]; exact isInt_zero _, (eW.setCell (p := ⟨w.heap.size + 1, 0, none⟩) (Nat.le_succ _) _).setCell (p := ⟨w.heap.size + 1, 1, none⟩) (Nat.le_succ _) _⟩

end Go.Proofs.Ytfjaboolfjgleaa
