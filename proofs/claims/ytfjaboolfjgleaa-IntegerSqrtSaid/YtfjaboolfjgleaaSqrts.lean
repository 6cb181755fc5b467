/-
  math/bits.Div64 where the upper half is 0, and Sqrt of 99.
-/
import Derived.Test.YtfjaboolfjgleaaDiv
namespace Go.Proofs.Ytfjaboolfjgleaa
open Go.RowKit

set_option maxRecDepth 100000 in
set_option maxHeartbeats 800000 in
theorem div64_zero (w : World) (m n : Nat) (hm : m ≤ 18446744073709551615) (hn : 0 < n) :
    Calls Try.prog 84 #[.int .u64 0, .int .u64 (m : Int), .int .u64 (n : Int)] w fun e w' => e = .returned (.tuple #[.int .u64 ((m / n : Nat) : Int), .int .u64 ((m % n : Nat) : Int)]) ∧ Ext w w' := by
  obtain ⟨q, hq⟩ : ∃ q, q = m / n := ⟨_, rfl⟩
  obtain ⟨r, hr⟩ : ∃ r, r = m % n := ⟨_, rfl⟩
  have f0 := wrap_quo m n q hm hq
  obtain ⟨f1, f2⟩ := rem_nat m n r hr
  rw [← hq, ← hr]
  have h0 : ((n : Int) == 0) = false := by rw [beq_eq_false_iff_ne]; omega
  have h1 : ¬ n = 0 := by omega
  have h2 : (0 : Int) < (n : Int) := by omega
  clear hq hr hm hn
  go_enter Try.func84, Try.ntmps84
  go_wp2
  go_quiet (fail)
  go_wp2
  go_ret2
  exact ⟨rfl, (Ext.refl w).drewN _⟩

set_option maxRecDepth 100000 in
set_option maxHeartbeats 800000 in
theorem len64_99 (w : World) : Calls Try.prog 83 #[.int .u64 99] w fun e w' => e = .returned (.int .i64 7) ∧ w = w' := by
  go_enter Try.func83, Try.ntmps83
  go_wp2
  go_ret
  exact ⟨ret_int (by kernel_rfl), rfl⟩

theorem div99 (w : World) (K Q R : Int) (k : Nat) (hk : K = k) (h0 : 0 < k) (hQ : Q = ((99 / k : Nat) : Int)) (hR : R = ((99 % k : Nat) : Int)) :
    Calls Try.prog 84 #[.int .u64 0, .int .u64 99, .int .u64 K] w fun e w' => e = .returned (.tuple #[.int .u64 Q, .int .u64 R]) ∧ Ext w w' := by
  subst hk hQ hR
  exact div64_zero w 99 k (by omega) h0

set_option maxRecDepth 100000 in
set_option maxHeartbeats 800000 in
theorem sqrtSmall_99 (w : World) : Calls Try.prog 75 #[.int .u64 0, .int .u64 99] w fun e w' => e = .returned (.int .u64 9) ∧ Ext w w' := by
  go_enter Try.func75, Try.ntmps75
  go_wp2_with (go_at_call 83; refine (len64_99 _).mono ?_; rintro e w' ⟨rfl, rfl⟩)
  refine wp_loop_rounds 4 ?_
  rw [rounds_succ]
  go_wp2_with fail
  refine (div99 _ 16 6 3 16 rfl (by omega) rfl rfl).mono ?_
  rintro e w1 ⟨rfl, e1⟩
  go_wp2_with fail
  rw [rounds_succ]
  go_wp2_with fail
  refine (div99 _ 11 9 0 11 rfl (by omega) rfl rfl).mono ?_
  rintro e w2 ⟨rfl, e2⟩
  go_wp2_with fail
  rw [rounds_succ]
  go_wp2_with fail
  refine (div99 _ 10 9 9 10 rfl (by omega) rfl rfl).mono ?_
  rintro e w3 ⟨rfl, e3⟩
  go_wp2_with fail
  rw [rounds_succ]
  go_wp2_with fail
  refine (div99 _ 9 11 0 9 rfl (by omega) rfl rfl).mono ?_
  rintro e w4 ⟨rfl, e4⟩
  go_wp2_with fail
  go_ret
  exact ⟨rfl, ((e1.trans e2).trans e3).trans e4⟩

set_option maxHeartbeats 400000 in
theorem split_99 (w : World) (ao : Option Addr) (cap : Nat) (h1 : (limbs 99).length ≤ cap) (h2 : cap ≤ 9223372036854775807) (h3 : Cells w ao (limbs 99)) :
    Calls Try.prog 76 #[.slice ao (limbs 99).length cap] w fun e w' => e = .returned (.tuple #[.int .u64 0, .int .u64 99]) ∧ w = w' := by
  have hv := valueOf_calls w ao (limbs 99) cap h1 h2 h3 (by rw [val_limbs]; omega)
  rw [val_limbs] at hv
  have HV := Lib.hid hv
  have hl : (limbs 99).length = 1 := rfl
  clear hv h1 h3
  go_enter Try.func76, Try.ntmps76
  go_wp2_with fail
  rw [← hl]
  refine HV.out.mono ?_
  rintro e w' ⟨rfl, rfl⟩
  go_wp2
  go_ret2
  exact ⟨rfl, rfl⟩

set_option maxHeartbeats 400000 in
theorem sqrtLimbs_99 (w : World) (ao : Option Addr) (cap : Nat) (h1 : (limbs 99).length ≤ cap) (h2 : cap ≤ 9223372036854775807) (h3 : Cells w ao (limbs 99)) :
    Calls Try.prog 63 #[.slice ao (limbs 99).length cap] w (Ret (IsLimbs 9) w) := by
  have HV := Lib.hid (split_99 w ao cap h1 h2 h3)
  have hl : (limbs 99).length = 1 := rfl
  clear h1 h3
  go_enter Try.func63, Try.ntmps63
  go_wp2_with fail
  rw [← hl]
  refine HV.out.mono ?_
  rintro e w' ⟨rfl, rfl⟩
  go_wp2_with fail
  refine (sqrtSmall_99 _).mono ?_
  rintro e w1 ⟨rfl, e1⟩
  go_wp2_with fail
  refine (limbsOf_calls _ 9 (by omega)).mono ?_
  rintro e w2 ⟨v, rfl, ⟨ao2, cap2, rfl, k1, k2, k3⟩, e2⟩
  go_wp2
  go_ret
  exact ⟨_, rfl, ⟨_, _, rfl, k1, k2, k3⟩, e1.trans e2⟩

/-- What Sqrt returns. -/
def RetSq (z : Int) (w : World) (e : Ending) (w' : World) : Prop := ∃ v, e = .returned (.tuple #[v, .int .i64 0]) ∧ IsInt w' v z ∧ Ext w w'
set_option maxHeartbeats 800000 in
theorem sqrt_99 (w : World) (v : Value) (h : IsInt w v 99) : Calls Try.prog 38 #[v] w (RetSq 9 w) := by
  obtain ⟨ao, cap, hv, h1, h2, h3⟩ := h
  have hv' : v = .agg #[.bool false, .slice ao (limbs 99).length cap] := hv
  have h1' : (limbs 99).length ≤ cap := h1
  have h3' : Cells w ao (limbs 99) := h3
  clear hv h1 h3
  subst hv'
  obtain ⟨W, hW, eW, c0, c1, r0, r1, f0, f1⟩ := boxes1r w (.bool false) (.slice ao (limbs 99).length cap) 24
  have HVA := Lib.hid (isInt_raw (s := false) h1' h2 h3' (by simp))
  go_enter Try.func38, Try.ntmps38
  go_wp2_with fail
  clear hW
  refine (valid_calls W _ false (limbs 99) (HVA.out.1.ext eW)).mono ?_
  rintro e w1 ⟨rfl, e1⟩
  rw [HVA.out.2]
  replace c0 := e1.cell c0
  replace c1 := e1.cell c1
  go_wp2_with fail
  refine (sqrtLimbs_99 w1 ao cap h1' h2 (h3'.ext (eW.trans e1))).mono ?_
  rintro e w2 ⟨v2, rfl, ⟨ao2, cap2, rfl, k1, k2, k3⟩, e2⟩
  go_wp2_with fail
  refine (signedL_calls _ _ _ 9 _ k1 k2 k3).mono ?_
  rintro e w3 ⟨v3, rfl, hI, e3⟩
  obtain ⟨ao3, cap3, s3, n3, rfl, _⟩ := hI.open_
  have eA := (e1.trans e2).trans e3
  have r02 := eA.cell r0
  have r12 := eA.cell r1
  have f02 := eA.frozen (lt_of_cell r0) f0
  have f12 := eA.frozen (lt_of_cell r1) f1
  clear r0 r1 f0 f1 c0 c1
  go_wp2
  obtain ⟨u, hu, hu2, hu3⟩ := fin_int hI r02 r12 (by omega) (eW.trans eA)
  injection hu with hu
  subst hu
  exact bodyPost_ret (v := .tuple #[.agg #[.bool s3, .slice ao3 (limbs n3).length cap3], .int .i64 0]) (by simp [results, Try.results38, go_sem, r02, r12]) rfl ⟨_, rfl, hu2, hu3⟩

end Go.Proofs.Ytfjaboolfjgleaa
