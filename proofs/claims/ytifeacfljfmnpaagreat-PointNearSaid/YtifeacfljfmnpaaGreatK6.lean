/-
  Texts of this seat, joined.
-/
import Derived.Test.YtifeacfljfmnpaaGreatK5
section
set_option maxRecDepth 100000
namespace Go.Proofs.YtifeacfljfmnpaaGreat
open Go.RowKit
theorem quot_cases (q : Rat) : ∃ P Q R : Int, P = (q.num.natAbs : Int) * 65536 ∧ Q = P / (q.den : Int) ∧ R = P % (q.den : Int) ∧ 0 ≤ R ∧ R < (q.den : Int) ∧ 0 ≤ Q ∧
    ((0 ≤ q.num ∧ flR q = Q ∧ (R = 0 ∧ clR q = Q ∨ R ≠ 0 ∧ clR q = Q + 1)) ∨ (q.num < 0 ∧ clR q = -Q ∧ (R = 0 ∧ flR q = -Q ∨ R ≠ 0 ∧ flR q = -(Q + 1)))) := by
  have hd : 0 < (q.den : Int) := by have := q.den_pos; omega
  refine ⟨_, _, _, rfl, rfl, rfl, Int.emod_nonneg _ (by omega), Int.emod_lt_of_pos _ hd, Int.ediv_nonneg (by omega) (by omega), ?_⟩
  have e1 := flR_eq q
  have e2 := clR_eq q
  rw [dq_pos hd] at e1 e2
  rcases Int.lt_or_le q.num 0 with h | h
  · refine .inr ⟨h, ?_, ?_⟩
    · rw [← e2, show -(q.num * 65536) = (q.num.natAbs : Int) * 65536 by omega]
    · rw [show q.num * 65536 = -((q.num.natAbs : Int) * 65536) by omega, Int.neg_ediv] at e1
      by_cases k : (q.den : Int) ∣ (q.num.natAbs : Int) * 65536
      · rw [if_pos k] at e1
        exact .inl ⟨Int.emod_eq_zero_of_dvd k, by omega⟩
      · rw [if_neg k, Int.sign_eq_one_of_pos hd] at e1
        exact .inr ⟨fun c => k (Int.dvd_of_emod_eq_zero c), by omega⟩
  · refine .inl ⟨h, ?_, ?_⟩
    · rw [← e1, show q.num * 65536 = (q.num.natAbs : Int) * 65536 by omega]
    · rw [show -(q.num * 65536) = -((q.num.natAbs : Int) * 65536) by omega, Int.neg_ediv] at e2
      by_cases k : (q.den : Int) ∣ (q.num.natAbs : Int) * 65536
      · rw [if_pos k] at e2
        exact .inl ⟨Int.emod_eq_zero_of_dvd k, by omega⟩
      · rw [if_neg k, Int.sign_eq_one_of_pos hd] at e2
        exact .inr ⟨fun c => k (Int.dvd_of_emod_eq_zero c), by omega⟩
theorem pFromRat_calls (w : World) (v : Value) (q : Rat) (h : IsRat w v q) (l : LimQ 40 q) : Calls Tryz.prog 191 #[v] w (RetIv (frI q) w) := by
  have hd : 0 < (q.den : Int) := by have := q.den_pos; omega
  have hv := noArg h l
  by_cases hs : (-9223372036854775808 ≤ q.num ∧ q.num ≤ 9223372036854775807) ∧ (q.den : Int) ≤ 9223372036854775807
  · obtain ⟨⟨s1, s2⟩, s3⟩ := hs
    obtain ⟨n, hn⟩ : ∃ n : Bool, n = decide (q.num < 0) := ⟨_, rfl⟩
    obtain ⟨P, Q, R, hP, hQ, hR, R0, R1, Q0, hcase⟩ := quot_cases q
    have P0 : 0 ≤ P := by omega
    have P1 : P < 604462909807314587353088 * 1024 := by omega
    have dS : (sS n).den (qE [q]) = (q.num.natAbs : Int) := by
      rw [hn]
      by_cases k : q.num < 0
      · rw [decide_eq_true k]
        show IntKind.u64.wrap (0 - IntKind.u64.wrap q.num) = _
        rw [IntKind.wrap_u64, IntKind.wrap_u64]; omega
      · rw [decide_eq_false k]
        show IntKind.u64.wrap q.num = _
        rw [IntKind.wrap_u64]; omega
    have dH : (sH n).den (qE [q]) = P / 18446744073709551616 := by
      show (sS n).den (qE [q]) * 65536 / 18446744073709551616 = _
      rw [dS, hP]
    have dL : (sL n).den (qE [q]) = P % 18446744073709551616 := by
      show IntKind.u64.wrap ((sS n).den (qE [q]) * 65536) = _
      rw [dS, ← hP, IntKind.wrap_u64]
    have dD : sD.den (qE [q]) = (q.den : Int) := by
      show IntKind.u64.wrap (q.den : Int) = _
      rw [IntKind.wrap_u64]; omega
    have dW : (twoW (sH n) (sL n)).den (qE [q]) = P := by
      show (sH n).den (qE [q]) * 2 ^ (Int.toNat 64) + (sL n).den (qE [q]) = _
      rw [dH, dL, show (2 : Int) ^ (Int.toNat 64) = 18446744073709551616 from rfl]
      omega
    have dQ : (sQ n).den (qE [q]) = Q := by
      show ((twoW (sH n) (sL n)).den (qE [q])).tdiv (sD.den (qE [q])) = _
      rw [dW, dD, hQ, Int.tdiv_eq_ediv_of_nonneg P0]
    have dR : (sRm n).den (qE [q]) = R := by
      show ((twoW (sH n) (sL n)).den (qE [q])).tmod (sD.den (qE [q])) = _
      rw [dW, dD, hR, Int.tmod_eq_emod_of_nonneg P0]
    have big1 : (q.den : Int) ≤ P / 18446744073709551616 → 18446744073709551616 ≤ Q := by
      intro k
      rw [hQ]
      refine (Int.le_ediv_iff_mul_le hd).2 ?_
      have := Int.mul_le_mul_of_nonneg_left k (show (0 : Int) ≤ 18446744073709551616 by omega)
      omega
    have hg : Asm.holds (qE [q]) (gShort n) := i64R_t (t := .var 0) ⟨s1, s2⟩ <| i64R_t (t := .var 1) (by show -9223372036854775808 ≤ (q.den : Int) ∧ (q.den : Int) ≤ 9223372036854775807; omega) <| asm_c hn.symm <| le_f (by show ¬ (q.den : Int) ≤ 0; omega) z8q
    have hU : Asm.holds (qE [q]) (gU (sH n)) := gU_ok (by rw [dH]; omega)
    by_cases k1 : (q.den : Int) ≤ P / 18446744073709551616
    · have := big1 k1
      rw [frI_none (by unfold Prp; omega)]
      exact no_calls (C := cPs) (E := qE [q]) (cPs_ok (qE_ok _)) (le_t (by rw [dD, dH]; exact k1) hg) Tryz.func191 (by decide +kernel) (fr_no1 n) (by decide +kernel) rfl (fun _ => trivial) w _ rfl hv
    · have gA : ∀ G : Asm, G.holds (qE [q]) → Asm.holds (qE [q]) ((.le sD (sH n), false) :: (.lt (sH n) sD, true) :: G) := fun G hG => le_f (by rw [dD, dH]; exact k1) <| lt_t (by rw [dD, dH]; omega) hG
      by_cases k2 : 2305843009213693952 < Q
      · rw [frI_none (by unfold Prp; omega)]
        exact no_calls (C := cPs) (E := qE [q]) (cPs_ok (qE_ok _)) (gA _ <| lt_t (by rw [dQ]; exact k2) <| asm_app hU hg) Tryz.func191 (by decide +kernel) (fr_no2 n) (by decide +kernel) rfl (fun _ => trivial) w _ rfl hv
      · obtain ⟨c, hc⟩ : ∃ c : Bool, c = decide (R = 0) := ⟨_, rfl⟩
        have dq1 : IntKind.i64.wrap ((sQ n).den (qE [q])) = Q := by rw [dQ, IntWalk.i64_in _ (by omega)]
        have dU : (sUp n c).den (qE [q]) = if R = 0 then Q else Q + 1 := by
          rw [hc]
          by_cases k : R = 0
          · rw [decide_eq_true k, if_pos k]
            exact dq1
          · rw [decide_eq_false k, if_neg k]
            show IntKind.i64.wrap (IntKind.i64.wrap ((sQ n).den (qE [q])) + 1) = _
            rw [dq1, IntWalk.i64_in _ (by omega)]
        have dLo : (sLo n c).den (qE [q]) = flR q := by
          unfold sLo
          by_cases k : q.num < 0
          · rw [if_pos (by rw [hn]; exact decide_eq_true k)]
            show IntKind.i64.wrap (0 - (sUp n c).den (qE [q])) = _
            rw [dU]
            by_cases k3 : R = 0
            · rw [if_pos k3, IntWalk.i64_in _ (by omega)]; omega
            · rw [if_neg k3, IntWalk.i64_in _ (by omega)]; omega
          · rw [if_neg (by rw [hn, decide_eq_false k]; decide)]
            show IntKind.i64.wrap ((sQ n).den (qE [q])) = _
            rw [dq1]; omega
        have dHi : (sHi n c).den (qE [q]) = clR q := by
          unfold sHi
          by_cases k : q.num < 0
          · rw [if_pos (by rw [hn]; exact decide_eq_true k)]
            show IntKind.i64.wrap (0 - IntKind.i64.wrap ((sQ n).den (qE [q]))) = _
            rw [dq1, IntWalk.i64_in _ (by omega)]; omega
          · rw [if_neg (by rw [hn, decide_eq_false k]; decide), dU]
            by_cases k3 : R = 0
            · rw [if_pos k3]; omega
            · rw [if_neg k3]; omega
        refine ex_calls (C := cPs) (E := qE [q]) (cPs_ok (qE_ok _)) ?_ Tryz.func191 (by decide +kernel) (fr_walk n c) dLo dHi (by decide +kernel) (args := [aQf 40]) rfl (fun _ => trivial) w _ rfl hv
        refine gA _ <| lt_f (by rw [dQ]; exact k2) <| asm_c ?_ <| asm_app hU hg
        show ((sRm n).den (qE [q]) == 0) = c
        rw [dR, hc, Bool.eq_iff_iff, beq_iff_eq, decide_eq_true_iff]
  · refine ex_calls (C := cPs) (E := qE [q]) (x := frLo (.var 0) (.var 1)) (y := frHi (.var 0) (.var 1)) (cPs_ok (qE_ok _)) (G := [(i64R (.var 0), decide (-9223372036854775808 ≤ q.num ∧ q.num ≤ 9223372036854775807)), (i64R (.var 1), decide ((q.den : Int) ≤ 9223372036854775807))]) ?_ Tryz.func191 (by decide +kernel) (fun b => fr_long _ _ b ?_) ?_ ?_ (by decide +kernel) (args := [aQf 40]) rfl (fun _ => trivial) w _ rfl hv
    · refine asm_c (i64R_den _) <| asm_c ?_ z8q
      rw [i64R_den, decide_eq_decide]
      show (-9223372036854775808 ≤ (q.den : Int) ∧ (q.den : Int) ≤ 9223372036854775807) ↔ _
      omega
    · rw [← Bool.decide_and]
      exact decide_eq_false hs
    · exact flR_eq q
    · exact clR_eq q
end Go.Proofs.YtifeacfljfmnpaaGreat
end

section
set_option maxRecDepth 100000
namespace Go.Proofs.YtifeacfljfmnpaaGreat
open Go.RowKit
end Go.Proofs.YtifeacfljfmnpaaGreat
end

section
set_option maxRecDepth 100000
namespace Go.Proofs.YtifeacfljfmnpaaGreat
open Go.RowKit
theorem or_term {P : Nat} (h : P / 18446744073709551616 ≤ 8192) : fn2 14 ((P / 18446744073709551616 * 281474976710656 : Nat) : Int) ((P % 18446744073709551616 / 65536 : Nat) : Int) = ((P / 65536 : Nat) : Int) := by
  show IntKind.u64.wrap ((BitVec.ofInt 64 _ ||| BitVec.ofInt 64 _).toNat : Int) = _
  rw [BitVec.ofInt_natCast, BitVec.ofInt_natCast, BitVec.toNat_or, BitVec.toNat_ofNat, BitVec.toNat_ofNat, Nat.mod_eq_of_lt (by omega), Nat.mod_eq_of_lt (by omega), or_shift, IntKind.wrap_u64]
  omega
def mulM (x y : Int) : Option (Int × Int) := if (x.natAbs * y.natAbs) / 18446744073709551616 > 8192 then none else some (fl16 (x * y), cl16 (x * y))
def mS (i : Nat) (n : Bool) : IT := if n then .a1 21 (.a2 1 (.lit 0) (.a1 21 (.var i))) else .a1 21 (.var i)
def mH (n m : Bool) : IT := .a2 19 (mS 0 n) (mS 1 m)
def mL (n m : Bool) : IT := .a1 21 (.a2 2 (mS 0 n) (mS 1 m))
def mQ (n m : Bool) : IT := .a2 14 (.a1 21 (.a2 17 (mH n m) (.lit 48))) (.a2 18 (mL n m) (.lit 16))
def mR (n m : Bool) : IT := .a2 15 (mL n m) (.lit 65536)
def mU (n m c : Bool) : IT := if c then .a1 20 (mQ n m) else .a1 20 (.a2 0 (.a1 20 (mQ n m)) (.lit 1))
def mLo (n m c : Bool) : IT := if n != m then .a1 20 (.a2 1 (.lit 0) (mU n m c)) else .a1 20 (mQ n m)
def mHi (n m c : Bool) : IT := if n != m then .a1 20 (.a2 1 (.lit 0) (.a1 20 (mQ n m))) else mU n m c
noncomputable def cMu0 : Cfg := cfgOf [(231, kMul64)]
theorem cMu0_ok {E : Env} : CfgOK Tryz.prog E cMu0 := cfg_ok (.cons kMul64_ok .nil)
noncomputable def cMu : Cfg := cfgI cMu0 cMu0 [(232, Tryz.f232), (235, Tryz.f235)]
theorem cMu_ok {E : Env} : CfgOK Tryz.prog E cMu := cfgI_ok mixed cMu0_ok cMu0_ok (fun _ => trivial) (.cons Tryz.func232 (by decide +kernel) (by kernel_rfl) <| .cons Tryz.func235 (by decide +kernel) (by kernel_rfl) .nil)
theorem mu_no : ∀ n m, funE cMu Tryz.f237 [(.lt (.lit 8192) (mH n m), true), (.lt (.var 0) (.lit 0), n), (.lt (.var 1) (.lit 0), m)] [vN .i64 0, vN .i64 1] = some (.leaf noL) := by
  intro n m
  cases n <;> cases m <;> kernel_rfl
theorem mu_walk : ∀ n m c, funE cMu Tryz.f237 [(.lt (.lit 8192) (mH n m), false), (.eq (mR n m) (.lit 0), c), (.lt (.var 0) (.lit 0), n), (.lt (.var 1) (.lit 0), m)] [vN .i64 0, vN .i64 1] = some (.leaf (ivL (mLo n m c) (mHi n m c))) := by
  intro n m c
  cases n <;> cases m <;> cases c <;> kernel_rfl
theorem mS_den {E : Env} {i : Nat} {x : Int} {n : Bool} (he : E.i i = x) (hn : n = decide (x < 0)) (h : -9223372036854775808 ≤ x ∧ x ≤ 9223372036854775807) : (mS i n).den E = (x.natAbs : Int) := by
  subst he hn
  unfold mS
  by_cases k : E.i i < 0
  · rw [decide_eq_true k, if_pos rfl]
    show IntKind.u64.wrap (0 - IntKind.u64.wrap (E.i i)) = _
    rw [IntKind.wrap_u64, IntKind.wrap_u64]; omega
  · rw [decide_eq_false k, if_neg (by decide)]
    show IntKind.u64.wrap (E.i i) = _
    rw [IntKind.wrap_u64]; omega
theorem prod_cases (x y : Int) : (((decide (x < 0) != decide (y < 0)) = true ∧ x * y = -((x.natAbs * y.natAbs : Nat) : Int)) ∨ ((decide (x < 0) != decide (y < 0)) = false ∧ x * y = ((x.natAbs * y.natAbs : Nat) : Int))) := by
  rw [Int.natCast_mul]
  rcases Int.lt_or_le x 0 with h | h <;> rcases Int.lt_or_le y 0 with k | k
  · refine .inr ⟨by rw [decide_eq_true h, decide_eq_true k]; rfl, ?_⟩
    rw [show (x.natAbs : Int) = -x by omega, show (y.natAbs : Int) = -y by omega, Int.neg_mul_neg]
  · refine .inl ⟨by rw [decide_eq_true h, decide_eq_false (by omega)]; rfl, ?_⟩
    rw [show (x.natAbs : Int) = -x by omega, show (y.natAbs : Int) = y by omega, Int.neg_mul, Int.neg_neg]
  · refine .inl ⟨by rw [decide_eq_false (by omega), decide_eq_true k]; rfl, ?_⟩
    rw [show (x.natAbs : Int) = x by omega, show (y.natAbs : Int) = -y by omega, Int.mul_neg, Int.neg_neg]
  · refine .inr ⟨by rw [decide_eq_false (by omega), decide_eq_false (by omega)]; rfl, ?_⟩
    rw [show (x.natAbs : Int) = x by omega, show (y.natAbs : Int) = y by omega]
theorem multiply_calls (w : World) (x y : Int) (hx : -9223372036854775808 ≤ x ∧ x ≤ 9223372036854775807) (hy : -9223372036854775808 ≤ y ∧ y ≤ 9223372036854775807) : Calls Tryz.prog 237 #[.int .i64 x, .int .i64 y] w (RetIv (mulM x y) w) := by
  obtain ⟨E, hE⟩ : ∃ E, E = eN [x, y] := ⟨_, rfl⟩
  have e0 : E.i 0 = x := by rw [hE]; rfl
  have e1 : E.i 1 = y := by rw [hE]; rfl
  obtain ⟨n, hn⟩ : ∃ n : Bool, n = decide (x < 0) := ⟨_, rfl⟩
  obtain ⟨m, hm⟩ : ∃ m : Bool, m = decide (y < 0) := ⟨_, rfl⟩
  obtain ⟨P, hP⟩ : ∃ P : Nat, P = x.natAbs * y.natAbs := ⟨_, rfl⟩
  have hv := two_args (E := E) (w := w) (args := [vN .i64 0, vN .i64 1]) (vs := [.int .i64 x, .int .i64 y]) rfl rfl (fun β => by rw [hE]; exact vN_holds rfl) (fun β => by rw [hE]; exact vN_holds rfl)
  have d0 := mS_den (i := 0) e0 hn hx
  have d1 := mS_den (i := 1) e1 hm hy
  have dp : (mS 0 n).den E * (mS 1 m).den E = (P : Int) := by rw [d0, d1, hP, Int.natCast_mul]
  have dH : (mH n m).den E = ((P / 18446744073709551616 : Nat) : Int) := by
    show (mS 0 n).den E * (mS 1 m).den E / 18446744073709551616 = _
    rw [dp]; omega
  have dL : (mL n m).den E = ((P % 18446744073709551616 : Nat) : Int) := by
    show IntKind.u64.wrap ((mS 0 n).den E * (mS 1 m).den E) = _
    rw [dp, IntKind.wrap_u64]; omega
  have f0 : (BT.lt (.var 0) (.lit 0)).den E = n := by show decide (E.i 0 < 0) = n; rw [e0, hn]
  have f1 : (BT.lt (.var 1) (.lit 0)).den E = m := by show decide (E.i 1 < 0) = m; rw [e1, hm]
  unfold mulM
  rw [← hP]
  split
  · rename_i k
    exact no_calls (C := cMu) (E := E) cMu_ok (lt_t (by rw [dH]; show (8192 : Int) < _; omega) <| asm_c f0 <| asm_c f1 z8q) Tryz.func237 (by decide +kernel) (mu_no n m) (by decide +kernel) rfl (fun _ => trivial) w _ rfl hv
  · rename_i k
    have k' : P / 18446744073709551616 ≤ 8192 := by omega
    have dQ : (mQ n m).den E = ((P / 65536 : Nat) : Int) := by
      show fn2 14 (IntKind.u64.wrap ((mH n m).den E * 2 ^ (Int.toNat 48))) (((mL n m).den E).fdiv (2 ^ (Int.toNat 16))) = _
      rw [dH, dL, show (2 : Int) ^ (Int.toNat 48) = 281474976710656 from rfl, show (2 : Int) ^ (Int.toNat 16) = 65536 from rfl, ← or_term k']
      congr 1
      · rw [IntKind.wrap_u64]; omega
      · rw [Int.fdiv_eq_ediv_of_nonneg _ (by omega)]; omega
    have dR : (mR n m).den E = ((P % 65536 : Nat) : Int) := by
      show ((mL n m).den E).tmod 65536 = _
      rw [dL, Int.tmod_eq_emod_of_nonneg (by omega)]; omega
    have dq1 : IntKind.i64.wrap ((mQ n m).den E) = ((P / 65536 : Nat) : Int) := by rw [dQ, IntWalk.i64_in _ (by omega)]
    obtain ⟨c, hc⟩ : ∃ c : Bool, c = decide (P % 65536 = 0) := ⟨_, rfl⟩
    have dU : (mU n m c).den E = if P % 65536 = 0 then ((P / 65536 : Nat) : Int) else ((P / 65536 : Nat) : Int) + 1 := by
      unfold mU
      rw [hc]
      by_cases j : P % 65536 = 0
      · rw [decide_eq_true j, if_pos j, if_pos rfl]
        exact dq1
      · rw [decide_eq_false j, if_neg j, if_neg (by decide)]
        show IntKind.i64.wrap (IntKind.i64.wrap ((mQ n m).den E) + 1) = _
        rw [dq1, IntWalk.i64_in _ (by omega)]
    have hpc := prod_cases x y
    rw [← hn, ← hm, ← hP] at hpc
    have dLo : (mLo n m c).den E = fl16 (x * y) := by
      unfold mLo fl16
      rcases hpc with ⟨a, e⟩ | ⟨a, e⟩
      · rw [if_pos a, e]
        show IntKind.i64.wrap (0 - (mU n m c).den E) = _
        rw [dU, IntWalk.i64_in _ (by split <;> omega)]
        split <;> omega
      · rw [if_neg (by rw [a]; decide), e]
        show IntKind.i64.wrap ((mQ n m).den E) = _
        rw [dq1]; omega
    have dHi : (mHi n m c).den E = cl16 (x * y) := by
      unfold mHi cl16
      rcases hpc with ⟨a, e⟩ | ⟨a, e⟩
      · rw [if_pos a, e]
        show IntKind.i64.wrap (0 - IntKind.i64.wrap ((mQ n m).den E)) = _
        rw [dq1, IntWalk.i64_in _ (by omega)]
        omega
      · rw [if_neg (by rw [a]; decide), e, dU]
        split <;> omega
    refine iv_calls (C := cMu) (E := E) cMu_ok ?_ Tryz.func237 (by decide +kernel) (mu_walk n m c) dLo dHi (by decide +kernel) rfl (fun _ => trivial) w _ rfl hv
    refine lt_f (by rw [dH]; show ¬ (8192 : Int) < _; omega) <| asm_c ?_ <| asm_c f0 <| asm_c f1 z8q
    show ((mR n m).den E == 0) = c
    rw [dR, hc, Bool.eq_iff_iff, beq_iff_eq, decide_eq_true_iff]; omega
def sizeT (t : IT) : IT := .a1 5 t
def muT (x y : IT) : BT := .lt (.lit 8192) (.a2 19 (sizeT x) (sizeT y))
def fl16T (t : IT) : IT := .a2 4 t (.lit 65536)
def ceiT (t : IT) : IT := .a1 0 (.a2 4 (.a1 0 t) (.lit 65536))
theorem fl16T_den {E : Env} (t : IT) : (fl16T t).den E = fl16 (t.den E) := by
  show dq (t.den E) 65536 = _
  rw [dq_pos (by omega)]; rfl
theorem ceiT_den {E : Env} (t : IT) : (ceiT t).den E = cl16 (t.den E) := by
  show -dq (-(t.den E)) 65536 = _
  rw [dq_pos (by omega)]; rfl
def i64G (G : Asm) (t : IT) : Bool := (i64R t).ev G == some true
theorem i64G_spec {E : Env} {G : Asm} (hG : G.holds E) {t : IT} (h : i64G G t = true) : -9223372036854775808 ≤ t.den E ∧ t.den E ≤ 9223372036854775807 := by
  have := BT.ev_spec hG (beq_iff_eq.1 h)
  rw [i64R_den] at this
  exact of_decide_eq_true this
def kMu : Con
  | [.val false [.n .i64 x], .val false [.n .i64 y]], G => if i64G G x && i64G G y then
      match (muT x y).ev G with
      | some true => some tNo
      | some false => some (tIv (fl16T (.a2 2 x y)) (ceiT (.a2 2 x y)))
      | none => none
    else none
  | _, _ => none
def nMu : List AV → Asm → Option BT
  | [.val false [.n .i64 x], .val false [.n .i64 y]], _ => some (muT x y)
  | _, _ => none
theorem kMu_ok {E : Env} : ConOK Tryz.prog E 237 kMu := by
  refine ⟨?_, ?_, ⟨_, Tryz.func237, by decide +kernel, by kernel_rfl⟩⟩
  · intro args G r h hG β w vs hv hlen
    unfold kMu at h
    split at h
    · rename_i x y
      split at h
      · rename_i hc
        rw [Bool.and_eq_true] at hc
        have a := i64G_spec hG hc.1
        have b := i64G_spec hG hc.2
        obtain ⟨v, u, rfl, h1, h2⟩ := args2 hv hlen
        rw [z9q.1 h1, z9q.1 h2]
        have hm : (muT x y).den E = decide ((x.den E).natAbs * (y.den E).natAbs / 18446744073709551616 > 8192) := by
          show decide ((8192 : Int) < (((x.den E).natAbs : Int) * ((y.den E).natAbs : Int)) / 18446744073709551616) = _
          rw [decide_eq_decide, ← Int.natCast_mul]; omega
        split at h
        · rename_i he
          injection h with h
          subst h
          have := BT.ev_spec hG he
          rw [hm] at this
          refine (multiply_calls w _ _ a b).mono ?_
          rintro e w' ⟨rfl, ex⟩
          refine ⟨_, rfl, ?_, ex⟩
          unfold mulM
          rw [if_pos (of_decide_eq_true this)]
          exact tNo_holds
        · rename_i he
          injection h with h
          subst h
          have := BT.ev_spec hG he
          rw [hm] at this
          refine (multiply_calls w _ _ a b).mono ?_
          rintro e w' ⟨rfl, ex⟩
          refine ⟨_, rfl, ?_, ex⟩
          unfold mulM
          rw [if_neg (of_decide_eq_false this)]
          exact tIv_holds (fl16T_den _) (ceiT_den _)
        · cases h
      · cases h
    · cases h
  · intro args G r h x off
    unfold kMu at h
    split at h
    · split at h
      · split at h
        · injection h with h; subst h; intro e; cases e
        · injection h with h; subst h; intro e; cases e
        · cases h
      · cases h
    · cases h
end Go.Proofs.YtifeacfljfmnpaaGreat
end

section
set_option maxRecDepth 100000
namespace Go.Proofs.YtifeacfljfmnpaaGreat
open Go.RowKit
def mulI (a b c d : Int) : Option (Int × Int) := prI (mulLo a b c d) (mulHi a b c d)
noncomputable def cMp : Cfg := cfgN (cfgOf [(237, kMu), (234, kPr)]) [(237, nMu), (234, nPr)]
theorem cMp_ok {E : Env} : CfgOK Tryz.prog E cMp := cfgN_ok (cfg_ok (.cons kMu_ok (.cons kPr_ok .nil)))
def pr0 : IT := .a2 2 (.var 0) (.var 4)
def pr1 : IT := .a2 2 (.var 0) (.var 6)
def pr2 : IT := .a2 2 (.var 2) (.var 4)
def pr3 : IT := .a2 2 (.var 2) (.var 6)
def gM4 (a b c d : Bool) : Asm := [(muT (.var 0) (.var 4), a), (muT (.var 0) (.var 6), b), (muT (.var 2) (.var 4), c), (muT (.var 2) (.var 6), d)]
def gV4 : Asm := gR (.var 0) ++ (gR (.var 2) ++ (gR (.var 4) ++ gR (.var 6)))
def pmLo : IT := .a2 12 (.a2 12 (.a2 12 (.a2 12 (.lit 9223372036854775807) (fl16T pr0)) (fl16T pr1)) (fl16T pr2)) (fl16T pr3)
def pmHi : IT := .a2 13 (.a2 13 (.a2 13 (.a2 13 (.lit (-9223372036854775808)) (ceiT pr0)) (ceiT pr1)) (ceiT pr2)) (ceiT pr3)
theorem pmul_walk : ∀ b, funE cMp Tryz.f193 ((exT pmLo pmHi, b) :: (gM4 false false false false ++ gV4)) [aIv 0, aIv 2] = some (lfX pmLo pmHi b) := by
  intro b
  cases b <;> kernel_rfl
theorem pmul_no : ∀ a b c d, (a || (b || (c || d))) = true → funE cMp Tryz.f193 (gM4 a b c d ++ gV4) [aIv 0, aIv 2] = some (.leaf noL) := by
  intro a b c d h
  cases a
  · cases b
    · cases c
      · cases d
        · cases h
        · kernel_rfl
      · cases d <;> kernel_rfl
    · cases c <;> cases d <;> kernel_rfl
  · cases b <;> cases c <;> cases d <;> kernel_rfl
theorem muT_den {E : Env} {x y : IT} : (muT x y).den E = decide ((x.den E).natAbs * (y.den E).natAbs / 18446744073709551616 > 8192) := by
  show decide ((8192 : Int) < (((x.den E).natAbs : Int) * ((y.den E).natAbs : Int)) / 18446744073709551616) = _
  rw [decide_eq_decide, ← Int.natCast_mul]; omega
theorem big_out {x y : Int} (h : x.natAbs * y.natAbs / 18446744073709551616 > 8192) : fl16 (x * y) < -2305843009213693952 ∨ 2305843009213693952 < cl16 (x * y) := by
  unfold fl16 cl16
  rcases prod_cases x y with ⟨_, e⟩ | ⟨_, e⟩ <;> rw [e] <;> omega
theorem small_in {x y : Int} (h : ¬ x.natAbs * y.natAbs / 18446744073709551616 > 8192) : -2305843009213693952 * 2 ≤ fl16 (x * y) ∧ fl16 (x * y) ≤ 2305843009213693952 * 2 ∧ -2305843009213693952 * 2 ≤ cl16 (x * y) ∧ cl16 (x * y) ≤ 2305843009213693952 * 2 := by
  unfold fl16 cl16
  rcases prod_cases x y with ⟨_, e⟩ | ⟨_, e⟩ <;> rw [e] <;> omega
theorem pMul_calls (w : World) (a b c d : Int) (hp : Prp a b) (hp' : Prp c d) : Calls Tryz.prog 193 #[.agg #[.int .i64 a, .int .i64 b], .agg #[.int .i64 c, .int .i64 d]] w (RetIv (mulI a b c d) w) := by
  obtain ⟨E, hE⟩ : ∃ E, E = qE [(a : Rat), (b : Rat), (c : Rat), (d : Rat)] := ⟨_, rfl⟩
  have e0 : E.i 0 = a := by rw [hE]; exact qE_int (i := 0) rfl
  have e2 : E.i 2 = b := by rw [hE]; exact qE_int (i := 1) rfl
  have e4 : E.i 4 = c := by rw [hE]; exact qE_int (i := 2) rfl
  have e6 : E.i 6 = d := by rw [hE]; exact qE_int (i := 3) rfl
  obtain ⟨p1, p2, p3⟩ := hp
  obtain ⟨q1, q2, q3⟩ := hp'
  have hv := two_args (E := E) (w := w) (args := [aIv 0, aIv 2]) (vs := [.agg #[.int .i64 a, .int .i64 b], .agg #[.int .i64 c, .int .i64 d]]) rfl rfl (fun β => by rw [hE]; exact aIv_holds (i := 0) rfl rfl) (fun β => by rw [hE]; exact aIv_holds (i := 2) rfl rfl)
  have hV : gV4.holds E := asm_app (gR_of e0 (by omega)) <| asm_app (gR_of e2 (by omega)) <| asm_app (gR_of e4 (by omega)) (gR_of e6 (by omega))
  have m0 : (muT (.var 0) (.var 4)).den E = decide (a.natAbs * c.natAbs / 18446744073709551616 > 8192) := by rw [muT_den]; show decide ((E.i 0).natAbs * (E.i 4).natAbs / _ > 8192) = _; rw [e0, e4]
  have m1 : (muT (.var 0) (.var 6)).den E = decide (a.natAbs * d.natAbs / 18446744073709551616 > 8192) := by rw [muT_den]; show decide ((E.i 0).natAbs * (E.i 6).natAbs / _ > 8192) = _; rw [e0, e6]
  have m2 : (muT (.var 2) (.var 4)).den E = decide (b.natAbs * c.natAbs / 18446744073709551616 > 8192) := by rw [muT_den]; show decide ((E.i 2).natAbs * (E.i 4).natAbs / _ > 8192) = _; rw [e2, e4]
  have m3 : (muT (.var 2) (.var 6)).den E = decide (b.natAbs * d.natAbs / 18446744073709551616 > 8192) := by rw [muT_den]; show decide ((E.i 2).natAbs * (E.i 6).natAbs / _ > 8192) = _; rw [e2, e6]
  obtain ⟨l1, l2, l3, l4⟩ := mulLo_le a b c d
  obtain ⟨u1, u2, u3, u4⟩ := le_mulHi a b c d
  by_cases hs : ¬ a.natAbs * c.natAbs / 18446744073709551616 > 8192 ∧ ¬ a.natAbs * d.natAbs / 18446744073709551616 > 8192 ∧ ¬ b.natAbs * c.natAbs / 18446744073709551616 > 8192 ∧ ¬ b.natAbs * d.natAbs / 18446744073709551616 > 8192
  · obtain ⟨s0, s1, s2, s3⟩ := hs
    have i0 := small_in s0
    have i1 := small_in s1
    have i2 := small_in s2
    have i3 := small_in s3
    have f0 : (fl16T pr0).den E = fl16 (a * c) := by rw [fl16T_den]; show fl16 (E.i 0 * E.i 4) = _; rw [e0, e4]
    have f1 : (fl16T pr1).den E = fl16 (a * d) := by rw [fl16T_den]; show fl16 (E.i 0 * E.i 6) = _; rw [e0, e6]
    have f2 : (fl16T pr2).den E = fl16 (b * c) := by rw [fl16T_den]; show fl16 (E.i 2 * E.i 4) = _; rw [e2, e4]
    have f3 : (fl16T pr3).den E = fl16 (b * d) := by rw [fl16T_den]; show fl16 (E.i 2 * E.i 6) = _; rw [e2, e6]
    have c0 : (ceiT pr0).den E = cl16 (a * c) := by rw [ceiT_den]; show cl16 (E.i 0 * E.i 4) = _; rw [e0, e4]
    have c1 : (ceiT pr1).den E = cl16 (a * d) := by rw [ceiT_den]; show cl16 (E.i 0 * E.i 6) = _; rw [e0, e6]
    have c2 : (ceiT pr2).den E = cl16 (b * c) := by rw [ceiT_den]; show cl16 (E.i 2 * E.i 4) = _; rw [e2, e4]
    have c3 : (ceiT pr3).den E = cl16 (b * d) := by rw [ceiT_den]; show cl16 (E.i 2 * E.i 6) = _; rw [e2, e6]
    have mn : ∀ x y : IT, (IT.a2 12 x y).den E = min (x.den E) (y.den E) := fun x y => by
      show (if y.den E < x.den E then y.den E else x.den E) = _
      split <;> omega
    have mx : ∀ x y : IT, (IT.a2 13 x y).den E = max (x.den E) (y.den E) := fun x y => by
      show (if y.den E > x.den E then y.den E else x.den E) = _
      split <;> omega
    refine ex_calls (E := E) (C := cMp) cMp_ok (asm_app (asm_c (by rw [m0, decide_eq_false s0]) <| asm_c (by rw [m1, decide_eq_false s1]) <| asm_c (by rw [m2, decide_eq_false s2]) <| asm_c (by rw [m3, decide_eq_false s3]) z8q) hV) Tryz.func193 (by decide +kernel) pmul_walk ?_ ?_ (by decide +kernel) (args := [aIv 0, aIv 2]) rfl (fun _ => trivial) w _ rfl hv
    · unfold pmLo
      rw [mn, mn, mn, mn, f0, f1, f2, f3]
      show min (min (min (min (9223372036854775807 : Int) _) _) _) _ = _
      unfold mulLo
      omega
    · unfold pmHi
      rw [mx, mx, mx, mx, c0, c1, c2, c3]
      show max (max (max (max (-9223372036854775808 : Int) _) _) _) _ = _
      unfold mulHi
      omega
  · have hno : mulI a b c d = none := by
      refine prI_neg ?_
      unfold Prp
      by_cases s0 : a.natAbs * c.natAbs / 18446744073709551616 > 8192
      · have := big_out s0; omega
      by_cases s1 : a.natAbs * d.natAbs / 18446744073709551616 > 8192
      · have := big_out s1; omega
      by_cases s2 : b.natAbs * c.natAbs / 18446744073709551616 > 8192
      · have := big_out s2; omega
      by_cases s3 : b.natAbs * d.natAbs / 18446744073709551616 > 8192
      · have := big_out s3; omega
      · exact absurd ⟨s0, s1, s2, s3⟩ hs
    rw [hno]
    refine no_calls (E := E) (C := cMp) cMp_ok (asm_app (asm_c m0 <| asm_c m1 <| asm_c m2 <| asm_c m3 z8q) hV) Tryz.func193 (by decide +kernel) (pmul_no _ _ _ _ ?_) (by decide +kernel) rfl (fun _ => trivial) w _ rfl hv
    rw [← Bool.decide_or, ← Bool.decide_or, ← Bool.decide_or, decide_eq_true_iff]
    omega
end Go.Proofs.YtifeacfljfmnpaaGreat
end

section
set_option maxRecDepth 100000
namespace Go.Proofs.YtifeacfljfmnpaaGreat
open Go.RowKit
def isIv (x y : IT) : Tree → Bool
  | .leaf [(true, [.n .i64 a, .n .i64 b]), (false, [.b (.lit true)])] => a.beq x && b.beq y
  | .leaf _ => false
  | .ite _ t e => isIv x y t && isIv x y e
theorem isIv_pick {E : Env} {x y : IT} : ∀ {T : Tree}, isIv x y T = true → T.pick E = ivL x y := by
  intro T
  induction T with
  | leaf l =>
    intro h
    unfold isIv at h
    split at h
    · rename_i a b e
      injection e with e
      subst e
      rw [Bool.and_eq_true] at h
      rw [IT.eq_of_beq h.1, IT.eq_of_beq h.2]
      rfl
    · cases h
    · rename_i e; cases e
  | ite c t e iht ihe =>
    intro h
    simp only [isIv, Bool.and_eq_true] at h
    simp only [Tree.pick]
    split
    · exact iht h.1
    · exact ihe h.2
def isNo : Tree → Bool
  | .leaf [(true, [.n .i64 (.lit 0), .n .i64 (.lit 0)]), (false, [.b (.lit false)])] => true
  | .leaf _ => false
  | .ite _ t e => isNo t && isNo e
theorem isNo_pick {E : Env} : ∀ {T : Tree}, isNo T = true → T.pick E = noL := by
  intro T
  induction T with
  | leaf l =>
    intro h
    unfold isNo at h
    split at h
    · rename_i e
      cases e
      rfl
    · cases h
    · rename_i e
      cases e
  | ite c t e iht ihe =>
    intro h
    simp only [isNo, Bool.and_eq_true] at h
    simp only [Tree.pick]
    split
    · exact iht h.1
    · exact ihe h.2
end Go.Proofs.YtifeacfljfmnpaaGreat
end

section
set_option maxRecDepth 100000
namespace Go.Proofs.YtifeacfljfmnpaaGreat
open Go.RowKit
def pG1 (G : Asm) (a b : IT) : Bool := (exT a b).ev G == some true
def pG (G : Asm) (a b : IT) : Bool := pG1 G a b || (match a, b with | .a1 0 b', .a1 0 a' => pG1 G a' b' | _, _ => false)
theorem pG1_spec {E : Env} {G : Asm} (hG : G.holds E) {a b : IT} (h : pG1 G a b = true) : Prp (a.den E) (b.den E) := by
  have := BT.ev_spec hG (beq_iff_eq.1 h)
  rw [exT_den] at this
  exact prpB_iff.1 this
theorem pG_spec {E : Env} {G : Asm} (hG : G.holds E) {a b : IT} (h : pG G a b = true) : Prp (a.den E) (b.den E) := by
  unfold pG at h
  rw [Bool.or_eq_true] at h
  rcases h with h | h
  · exact pG1_spec hG h
  · split at h
    · rename_i a' b'
      obtain ⟨h1, h2, h3⟩ := pG1_spec hG h
      show Prp (-_) (-_)
      unfold Prp
      omega
    · cases h
def kI2 (lo hi : IT → IT → IT → IT → IT) : Con
  | [.val true [.n .i64 a, .n .i64 b], .val true [.n .i64 c, .n .i64 d]], G => if pG G a b && pG G c d then kEx (lo a b c d) (hi a b c d) G else none
  | _, _ => none
def nI2 (lo hi : IT → IT → IT → IT → IT) : List AV → Asm → Option BT
  | [.val true [.n .i64 a, .n .i64 b], .val true [.n .i64 c, .n .i64 d]], _ => some (exT (lo a b c d) (hi a b c d))
  | _, _ => none
theorem kI2_ok {E : Env} {lo hi : IT → IT → IT → IT → IT} {L H : Int → Int → Int → Int → Int} (hL : ∀ a b c d, (lo a b c d).den E = L (a.den E) (b.den E) (c.den E) (d.den E)) (hH : ∀ a b c d, (hi a b c d).den E = H (a.den E) (b.den E) (c.den E) (d.den E)) {f : Nat}
    (hc : ∀ (w : World) (a b c d : Int), Prp a b → Prp c d → Calls Tryz.prog f #[.agg #[.int .i64 a, .int .i64 b], .agg #[.int .i64 c, .int .i64 d]] w (RetIv (prI (L a b c d) (H a b c d)) w)) (hb : ∃ fn, Tryz.prog.funcs[f]? = some fn ∧ fn.name ≠ "runtime.NumGoroutine" ∧ fn.body.isNone = false) : ConOK Tryz.prog E f (kI2 lo hi) := by
  refine ⟨?_, ?_, hb⟩
  · intro args G r h hG β w vs hv hlen
    unfold kI2 at h
    split at h
    · rename_i a b c d
      split at h
      · rename_i hm
        rw [Bool.and_eq_true] at hm
        obtain ⟨v, u, rfl, h1, h2⟩ := args2 hv hlen
        rw [show v = _ from agg_out h1, show u = _ from agg_out h2]
        refine (hc w _ _ _ _ (pG_spec hG hm.1) (pG_spec hG hm.2)).mono ?_
        rintro e w' ⟨rfl, ex⟩
        refine ⟨_, rfl, ?_, ex⟩
        rw [← hL, ← hH]
        exact kEx_holds hG h
      · cases h
    · cases h
  · intro args G r h
    unfold kI2 at h
    split at h
    · split at h
      · exact kEx_nptr h
      · cases h
    · cases h
def muLo (a b c d : IT) : IT := .a2 12 (.a2 12 (fl16T (.a2 2 a c)) (fl16T (.a2 2 a d))) (.a2 12 (fl16T (.a2 2 b c)) (fl16T (.a2 2 b d)))
def muHi (a b c d : IT) : IT := .a2 13 (.a2 13 (ceiT (.a2 2 a c)) (ceiT (.a2 2 a d))) (.a2 13 (ceiT (.a2 2 b c)) (ceiT (.a2 2 b d)))
theorem min_den {E : Env} (x y : IT) : (IT.a2 12 x y).den E = min (x.den E) (y.den E) := by
  show (if y.den E < x.den E then y.den E else x.den E) = _
  split <;> omega
theorem max_den {E : Env} (x y : IT) : (IT.a2 13 x y).den E = max (x.den E) (y.den E) := by
  show (if y.den E > x.den E then y.den E else x.den E) = _
  split <;> omega
theorem muLo_den {E : Env} (a b c d : IT) : (muLo a b c d).den E = mulLo (a.den E) (b.den E) (c.den E) (d.den E) := by
  unfold muLo
  rw [min_den, min_den, min_den, fl16T_den, fl16T_den, fl16T_den, fl16T_den]
  rfl
theorem muHi_den {E : Env} (a b c d : IT) : (muHi a b c d).den E = mulHi (a.den E) (b.den E) (c.den E) (d.den E) := by
  unfold muHi
  rw [max_den, max_den, max_den, ceiT_den, ceiT_den, ceiT_den, ceiT_den]
  rfl
def adLo (a _ c _ : IT) : IT := .a2 0 a c
def adHi (_ b _ d : IT) : IT := .a2 0 b d
def sqLoT (a : IT) : IT := sqfT (.a2 13 (.lit 0) a)
def sqHiT (b : IT) : IT := .a2 0 (sqfT b) (.a2 3 (.a2 2 b (.lit 65536)) (.a2 2 (sqfT b) (sqfT b)))
def kSqV : Con
  | [.val true [.n .i64 a, .n .i64 b]], G => if pG G a b then
      match (BT.lt b (.lit 0)).ev G with
      | some true => some tNo
      | some false => kEx (sqLoT a) (sqHiT b) G
      | none => none
    else none
  | _, _ => none
def nSqV : List AV → Asm → Option BT
  | [.val true [.n .i64 a, .n .i64 b]], G => match (BT.lt b (.lit 0)).ev G with
    | some _ => some (exT (sqLoT a) (sqHiT b))
    | none => some (.lt b (.lit 0))
  | _, _ => none
theorem kSqV_ok {E : Env} {f : Nat} (hc : ∀ (w : World) (x y : Int), Prp x y → Calls Tryz.prog f #[.agg #[.int .i64 x, .int .i64 y]] w (RetIv (sqrI x y) w)) (hb : ∃ fn, Tryz.prog.funcs[f]? = some fn ∧ fn.name ≠ "runtime.NumGoroutine" ∧ fn.body.isNone = false) : ConOK Tryz.prog E f kSqV := by
  refine ⟨?_, ?_, hb⟩
  · intro args G r h hG β w vs hv hlen
    unfold kSqV at h
    split at h
    · rename_i a b
      split at h
      · rename_i hm
        have hp := pG_spec hG hm
        obtain ⟨v, rfl, h1⟩ := args1 hv hlen
        rw [show v = _ from agg_out h1]
        refine (hc w _ _ hp).mono ?_
        rintro e w' ⟨rfl, ex⟩
        refine ⟨_, rfl, ?_, ex⟩
        unfold sqrI
        split at h
        · rename_i he
          have : b.den E < 0 := of_decide_eq_true (BT.ev_spec hG he)
          injection h with h
          subst h
          rw [if_pos this]
          exact tNo_holds
        · rename_i he
          have hn : ¬ b.den E < 0 := of_decide_eq_false (BT.ev_spec hG he)
          rw [if_neg hn]
          have k := kEx_holds (β := β) (w := w') hG h
          obtain ⟨o1, o2, o3, o4, o5, o6, o7⟩ := sq_order hp (by omega)
          have d1 : (sqLoT a).den E = sqLo (a.den E) := by
            show isq ((if a.den E > 0 then a.den E else 0) * 65536) = _
            rfl
          have d2 : (sqHiT b).den E = sqHi (b.den E) := rfl
          rw [d1, d2, prI_pos ⟨by omega, by omega, by omega⟩] at k
          exact k
        · cases h
      · cases h
    · cases h
  · intro args G r h
    unfold kSqV at h
    split at h
    · split at h
      · split at h
        · injection h with h; subst h; intro x off e; cases e
        · exact kEx_nptr h
        · cases h
      · cases h
    · cases h
def kNegI : Con
  | [.val true [.n .i64 a, .n .i64 b]], G => if pG G a b then some (.val true [.n .i64 (.a1 0 b), .n .i64 (.a1 0 a)]) else none
  | _, _ => none
theorem neg_walkP : funE (cfgOf []) Tryz.f200 [] [aIv 0] = some (.leaf [(true, [.n .i64 (.a1 20 (.a2 1 (.lit 0) (.var 2))), .n .i64 (.a1 20 (.a2 1 (.lit 0) (.var 0)))])]) := by kernel_rfl
theorem neg_gen {f : Nat} {fn : Func} (hf : Tryz.prog.funcs[f]? = some fn) (h4 : fn.results.toList.length ≤ 4) (h1 : 1 ≤ fn.ntmps) (hT : funE (cfgOf []) fn [] [aIv 0] = some (.leaf [(true, [.n .i64 (.a1 20 (.a2 1 (.lit 0) (.var 2))), .n .i64 (.a1 20 (.a2 1 (.lit 0) (.var 0)))])])) (w : World) (x y : Int) (hp : Prp x y) : Calls Tryz.prog f #[.agg #[.int .i64 x, .int .i64 y]] w fun e w' => e = .returned (.agg #[.int .i64 (-y), .int .i64 (-x)]) ∧ Ext w w' := by
  obtain ⟨E, hE⟩ : ∃ E, E = qE [(x : Rat), (y : Rat)] := ⟨_, rfl⟩
  have e0 : E.i 0 = x := by rw [hE]; exact qE_int (i := 0) rfl
  have e2 : E.i 2 = y := by rw [hE]; exact qE_int (i := 1) rfl
  obtain ⟨p1, p2, p3⟩ := hp
  refine (fun_leaf (E := E) (C := cfgOf []) (cfg_ok .nil) z8q hf h4 hT h1 rfl (fun _ => trivial) w [.agg #[.int .i64 x, .int .i64 y]] rfl (one_arg rfl rfl fun β => by rw [hE]; exact aIv_holds (i := 0) rfl rfl)).mono ?_
  rintro e w' ⟨β, v, rfl, hh, ex⟩
  have := agg_out hh
  rw [this]
  refine ⟨?_, ex⟩
  have a1 : (IT.a1 20 (.a2 1 (.lit 0) (.var 2))).den E = -y := by
    show IntKind.i64.wrap (0 - E.i 2) = _
    rw [e2, IntWalk.i64_in _ (by omega)]; omega
  have a2 : (IT.a1 20 (.a2 1 (.lit 0) (.var 0))).den E = -x := by
    show IntKind.i64.wrap (0 - E.i 0) = _
    rw [e0, IntWalk.i64_in _ (by omega)]; omega
  rw [a1, a2]
theorem kNegI_ok {E : Env} {f : Nat} (hc : ∀ (w : World) (x y : Int), Prp x y → Calls Tryz.prog f #[.agg #[.int .i64 x, .int .i64 y]] w fun e w' => e = .returned (.agg #[.int .i64 (-y), .int .i64 (-x)]) ∧ Ext w w') (hb : ∃ fn, Tryz.prog.funcs[f]? = some fn ∧ fn.name ≠ "runtime.NumGoroutine" ∧ fn.body.isNone = false) : ConOK Tryz.prog E f kNegI := by
  refine ⟨?_, ?_, hb⟩
  · intro args G r h hG β w vs hv hlen
    unfold kNegI at h
    split at h
    · rename_i a b
      split at h
      · rename_i hm
        injection h with h
        subst h
        obtain ⟨v, rfl, h1⟩ := args1 hv hlen
        rw [show v = _ from agg_out h1]
        refine (hc w _ _ (pG_spec hG hm)).mono ?_
        rintro e w' ⟨rfl, ex⟩
        exact ⟨_, rfl, ⟨[_, _], rfl, [_], _, rfl, rfl, [_], [], rfl, rfl, rfl⟩, ex⟩
      · cases h
    · cases h
  · intro args G r h x off
    unfold kNegI at h
    split at h
    · split at h
      · injection h with h; subst h; intro e; cases e
      · cases h
    · cases h
end Go.Proofs.YtifeacfljfmnpaaGreat
end

section
set_option maxRecDepth 100000
namespace Go.Proofs.YtifeacfljfmnpaaGreat
open Go.RowKit
def cfgAr (C : Cfg) (l : List (TypeId × Nat × TypeId)) : Cfg := { C with arr := fun t => match findR l t with | some e => some e | none => C.arr t }
theorem cfgAr_ok {E : Env} {C : Cfg} {l : List (TypeId × Nat × TypeId)} (h : CfgOK Tryz.prog E C) (hl : ArrOK Tryz.prog l) : CfgOK Tryz.prog E (cfgAr C l) := by
  refine ⟨h.zero, h.ag, h.fld, h.flds, h.bool, h.row, ?_, h.calls, h.nptr, h.body, h.slc, h.strT, h.cnv, h.apd, h.eq2, h.fty⟩
  intro t n e ht
  simp only [cfgAr] at ht
  split at ht
  · rename_i e' he
    injection ht with ht
    subst ht
    exact hl.all _ (findR_spec he)
  · exact h.arr t n e ht
end Go.Proofs.YtifeacfljfmnpaaGreat
end

section
set_option maxRecDepth 100000
namespace Go.Proofs.YtifeacfljfmnpaaGreat
open Go.RowKit
end Go.Proofs.YtifeacfljfmnpaaGreat
end

section
set_option maxRecDepth 100000
namespace Go.Proofs.YtifeacfljfmnpaaGreat
open Go.RowKit
end Go.Proofs.YtifeacfljfmnpaaGreat
end

section
set_option maxRecDepth 100000
namespace Go.Proofs.YtifeacfljfmnpaaGreat
open Go.RowKit
def bools : List Bool := [true, false]
theorem z15q (b : Bool) : b ∈ bools := by cases b <;> decide
theorem sqLoT_den {E : Env} {t : IT} {x : Int} (h : t.den E = x) : (sqLoT t).den E = sqLo x := by
  subst h; rfl
theorem sqHiT_den {E : Env} {t : IT} {x : Int} (h : t.den E = x) : (sqHiT t).den E = sqHi x := by
  subst h; rfl
end Go.Proofs.YtifeacfljfmnpaaGreat
end

section
set_option maxRecDepth 100000
namespace Go.Proofs.YtifeacfljfmnpaaGreat
open Go.RowKit
end Go.Proofs.YtifeacfljfmnpaaGreat
end

section
set_option maxRecDepth 100000
namespace Go.Proofs.YtifeacfljfmnpaaGreat
open Go.RowKit
end Go.Proofs.YtifeacfljfmnpaaGreat
end

section
set_option maxRecDepth 100000
namespace Go.Proofs.YtifeacfljfmnpaaGreat
open Go.RowKit
end Go.Proofs.YtifeacfljfmnpaaGreat
end

section
set_option maxRecDepth 100000
namespace Go.Proofs.YtifeacfljfmnpaaGreat
open Go.RowKit
def flipAt (ts : Asm) (i : Nat) : Asm := ts.take i ++ ((ts.drop i).take 1).map fun p => (p.1, !p.2)
theorem first_bad {E : Env} : ∀ (ts : Asm), ts.holds E ∨ ∃ i, i < ts.length ∧ (flipAt ts i).holds E
  | [] => .inl z8q
  | p :: ts => by
    by_cases h : p.1.den E = p.2
    · rcases first_bad (E := E) ts with k | ⟨i, hi, k⟩
      · refine .inl (asm_c (t := p.1) (b := p.2) h k)
      · refine .inr ⟨i + 1, by simpa using hi, ?_⟩
        exact asm_c (t := p.1) (b := p.2) h k
    · refine .inr ⟨0, by simp, ?_⟩
      refine asm_c (t := p.1) (b := !p.2) ?_ z8q
      cases h1 : p.1.den E <;> cases h2 : p.2 <;> simp_all
theorem sgQ'_num (a : Rat) : sgQ' a = cmpZ a.num 0 := by
  unfold sgQ'
  split
  · rename_i h
    rw [cmpZ_gt (num_pos' h)]
  · split
    · rename_i h
      subst h; rfl
    · rename_i h1 h2
      have : a.num < 0 := by
        have h3 : ¬ 0 ≤ a.num := fun k => by
          have := Rat.num_nonneg.1 k
          grind
        omega
      rw [cmpZ_lt this]
def sgI (i : Nat) : IT := .a2 3 (.var i) (.lit 0)
def qI (i : Nat) : IT2 := (.var i, .var (i + 1))
def sgnG (x y : IT) : Nat → Asm
  | 0 => [(.lt (.lit 0) x, true)]
  | 1 => [(.lt (.lit 0) x, false), (.lt y (.lit 0), true)]
  | 2 => [(.lt (.lit 0) x, false), (.lt y (.lit 0), false), (.and (.eq x (.lit 0)) (.eq y (.lit 0)), true)]
  | _ => [(.lt (.lit 0) x, false), (.lt y (.lit 0), false), (.and (.eq x (.lit 0)) (.eq y (.lit 0)), false)]
def sgnN : Nat → Int
  | 0 => 1
  | 1 => -1
  | _ => 0
theorem sgnG_ok {E : Env} {x y : IT} {a b : Int} (hx : x.den E = a) (hy : y.den E = b) : ∃ n, n < 4 ∧ (sgnG x y n).holds E ∧ (n < 3 → ivSg a b = some (sgnN n)) := by
  subst hx hy
  by_cases h1 : 0 < x.den E
  · exact ⟨0, by omega, lt_t h1 z8q, fun _ => if_pos h1⟩
  · by_cases h2 : y.den E < 0
    · exact ⟨1, by omega, lt_f h1 <| lt_t h2 z8q, fun _ => by unfold ivSg; rw [if_neg h1, if_pos h2]; rfl⟩
    · by_cases h3 : x.den E = 0 ∧ y.den E = 0
      · refine ⟨2, by omega, lt_f h1 <| lt_f h2 <| asm_c ?_ z8q, fun _ => by unfold ivSg; rw [if_neg h1, if_neg h2, if_pos h3]; rfl⟩
        show (x.den E == 0 && y.den E == 0) = true
        rw [h3.1, h3.2]; rfl
      · refine ⟨3, by omega, lt_f h1 <| lt_f h2 <| asm_c ?_ z8q, fun h => by omega⟩
        show (x.den E == 0 && y.den E == 0) = false
        rw [Bool.eq_false_iff]
        intro k
        rw [Bool.and_eq_true, beq_iff_eq, beq_iff_eq] at k
        exact h3 k
end Go.Proofs.YtifeacfljfmnpaaGreat
end

section
set_option maxRecDepth 100000
namespace Go.Proofs.YtifeacfljfmnpaaGreat
open Go.RowKit
theorem root_in {a b c : Rat} {m : Sq} (hc : 0 ≤ c) (hm : IsRt c m) (hC : 0 ≤ clR c) : IvIn (flR a + mulLo (flR b) (clR b) (sqLo (flR c)) (sqHi (clR c))) (clR a + mulHi (flR b) (clR b) (sqLo (flR c)) (sqHi (clR c))) fun k => a + b * m k := by
  have hs : IvIn (sqLo (flR c)) (sqHi (clR c)) m := by
    obtain ⟨h1, h2⟩ := sqLo_spec (flR c)
    obtain ⟨h3, h4⟩ := sqHi_spec hC
    exact IvIn.sqrt hc hm (IvIn.const c) h1 h2 h3 h4
  exact (IvIn.const a).add ((IvIn.const b).mul hs)
end Go.Proofs.YtifeacfljfmnpaaGreat
end

section
set_option maxRecDepth 100000
namespace Go.Proofs.YtifeacfljfmnpaaGreat
open Go.RowKit
def rawC : Nat → Nat → List Chunk
  | _, 0 => []
  | i, n + 1 => .raw i :: .raw (i + 1) :: rawC (i + 2) n
def intC (k : Nat) : Nat → Nat → List Chunk
  | _, 0 => []
  | i, n + 1 => .int (.var i) k :: .int (.var (i + 1)) k :: intC k (i + 2) n
def sgQT (A : IT2) : IT := .a2 3 A.1 (.lit 0)
def qL (q : IT2) : IT := frLo q.1 q.2
def qH (q : IT2) : IT := frHi q.1 q.2
theorem qL_den {E : Env} {q : IT2} {a : Rat} (h : RepQ E q a) : (qL q).den E = flR a := by
  show dq (q.1.den E * 65536) (q.2.den E) = _
  rw [h.1, h.2]; exact flR_eq a
theorem qH_den {E : Env} {q : IT2} {a : Rat} (h : RepQ E q a) : (qH q).den E = clR a := by
  show -dq (-(q.1.den E * 65536)) (q.2.den E) = _
  rw [h.1, h.2]; exact clR_eq a
def rbL (b c : IT2) : IT := muLo (qL b) (qH b) (sqLoT (qL c)) (sqHiT (qH c))
def rbH (b c : IT2) : IT := muHi (qL b) (qH b) (sqLoT (qL c)) (sqHiT (qH c))
def rtL (z : Bool) (a b c : IT2) : IT := if z then qL a else .a2 0 (qL a) (rbL b c)
def rtH (z : Bool) (a b c : IT2) : IT := if z then qH a else .a2 0 (qH a) (rbH b c)
def tsRt (z : Bool) (a b c : IT2) : Asm := (exT (qL a) (qH a), true) :: if z then [] else [(.lt (sgQT c) (.lit 0), false), (exT (qL c) (qH c), true), (.lt (qH c) (.lit 0), false), (exT (sqLoT (qL c)) (sqHiT (qH c)), true), (exT (qL b) (qH b), true), (exT (rbL b c) (rbH b c), true), (exT (rtL false a b c) (rtH false a b c), true)]
def rtLv (z : Bool) (a b c : Rat) : Int := if z then flR a else flR a + mulLo (flR b) (clR b) (sqLo (flR c)) (sqHi (clR c))
def rtHv (z : Bool) (a b c : Rat) : Int := if z then clR a else clR a + mulHi (flR b) (clR b) (sqLo (flR c)) (sqHi (clR c))
theorem rtL_den {E : Env} {A B C : IT2} {a b c : Rat} (z : Bool) (ha : RepQ E A a) (hb : RepQ E B b) (hc : RepQ E C c) : (rtL z A B C).den E = rtLv z a b c := by
  cases z
  · show (qL A).den E + (rbL B C).den E = _
    unfold rbL
    rw [muLo_den, qL_den ha, qL_den hb, qH_den hb, sqLoT_den (qL_den hc), sqHiT_den (qH_den hc)]; rfl
  · exact qL_den ha
theorem rtH_den {E : Env} {A B C : IT2} {a b c : Rat} (z : Bool) (ha : RepQ E A a) (hb : RepQ E B b) (hc : RepQ E C c) : (rtH z A B C).den E = rtHv z a b c := by
  cases z
  · show (qH A).den E + (rbH B C).den E = _
    unfold rbH
    rw [muHi_den, qH_den ha, qL_den hb, qH_den hb, sqLoT_den (qL_den hc), sqHiT_den (qH_den hc)]; rfl
  · exact qH_den ha
theorem clR_nonneg {c : Rat} (h : 0 ≤ c) : 0 ≤ clR c := by
  have h1 := Rat.floor_le (-(c * 65536))
  unfold clR
  have : ((-(c * 65536)).floor : Rat) ≤ ((0 : Int) : Rat) := by
    have : ((0 : Int) : Rat) = 0 := rfl
    grind
  have := Rat.intCast_le_intCast.1 this
  omega
theorem rt_in {a b c : Rat} {m : Sq} (z : Bool) (hz : z = true → b = 0) (hc : 0 ≤ c) (hm : IsRt c m) : IvIn (rtLv z a b c) (rtHv z a b c) fun k => a + b * m k := by
  cases z
  · exact root_in hc hm (clR_nonneg hc)
  · have := IvIn.const a
    intro k
    have h := this k
    rw [hz rfl]
    show (flR a : Rat) ≤ (a + 0 * m k) * 65536 ∧ (a + 0 * m k) * 65536 ≤ (clR a : Rat)
    constructor <;> grind
end Go.Proofs.YtifeacfljfmnpaaGreat
end

section
set_option maxRecDepth 100000
namespace Go.Proofs.YtifeacfljfmnpaaGreat
open Go.RowKit
theorem sgQ_eq (a : Rat) : sgQ' a = sgQ a := sgQ'_num a
theorem num_absQ {s : Rat} (h : s.num < 0) : (s.num.natAbs : Int) = (-s).num ∧ (s.den : Int) = ((-s).den : Int) := ⟨by rw [Rat.neg_num]; omega, by rw [Rat.neg_den]⟩
theorem cmp_sq (a s : Rat) (h0 : 0 ≤ s.num) : cmpZ (a.num * a.num * (s.den : Int)) ((s.num.natAbs : Int) * ((a.den : Int) * (a.den : Int))) = sgQ' (a * a - s) := by
  have da : (0 : Rat) < (a.den : Rat) := by
    have : ((0 : Nat) : Rat) < (a.den : Rat) := Rat.natCast_lt_natCast.2 a.den_pos
    exact this
  have ds : (0 : Rat) < (s.den : Rat) := by
    have : ((0 : Nat) : Rat) < (s.den : Rat) := Rat.natCast_lt_natCast.2 s.den_pos
    exact this
  have ea := mul_den' a
  have es := mul_den' s
  have e : (s.num.natAbs : Int) = s.num := by omega
  rw [e]
  have key : ((a.num * a.num * (s.den : Int) - s.num * ((a.den : Int) * (a.den : Int)) : Int) : Rat) = ((a.den : Rat) * (a.den : Rat) * (s.den : Rat)) * (a * a - s) := by
    rw [Rat.intCast_sub, Rat.intCast_mul, Rat.intCast_mul, Rat.intCast_mul, Rat.intCast_mul, ← ea, ← es]
    have e1 : (((a.den : Int)) : Rat) = (a.den : Rat) := rfl
    have e2 : (((s.den : Int)) : Rat) = (s.den : Rat) := rfl
    rw [e1, e2]
    grind
  have hk : (0 : Rat) < (a.den : Rat) * (a.den : Rat) * (s.den : Rat) := Rat.mul_pos (Rat.mul_pos da da) ds
  rw [← sgQ'_scale (a := a * a - s) hk, ← key, sgQ'_num, Rat.num_intCast]
  rcases z2q (a.num * a.num * (s.den : Int)) (s.num * ((a.den : Int) * (a.den : Int))) with ⟨c, e⟩ | ⟨c, e⟩ | ⟨c, e⟩ <;> rw [e]
  · rw [cmpZ_lt (by omega)]
  · rw [cmpZ_eq (by omega)]
  · rw [cmpZ_gt (by omega)]
theorem sgS_sg2 {a b m : Rat} (hm : 0 ≤ m) : sgS a (ratF 7 b m) = sg2 a b m := by
  have hs : ∃ s : Rat, s = ratF 7 b m ∧ sgQ' s = sgQ' b * sgQ' m ∧ (s.num < 0 → -s = b * b * m) ∧ (0 ≤ s.num → s = b * b * m) := by
    refine ⟨_, rfl, ?_, ?_, ?_⟩
    · show sgQ' (if b.num < 0 then -(b * b * m) else b * b * m) = _
      by_cases h : b.num < 0
      · rw [if_pos h]
        have hb : sgQ' b = -1 := by rw [sgQ'_num, cmpZ_lt h]
        have e : -(b * b * m) = (-(b * b)) * m := by grind
        have : sgQ' (-(b * b)) = -1 := by
          have h1 : b < 0 := by
            have : ¬ 0 ≤ b := fun k => by have := Rat.num_nonneg.2 k; omega
            grind
          have := Rat.mul_pos (a := -b) (b := -b) (by grind) (by grind)
          exact sgQ'_neg (by grind)
        rw [e, sgQ'_mul, this, hb]
      · rw [if_neg h, sgQ'_mul, sgQ'_mul]
        have : sgQ' b = 1 ∨ sgQ' b = 0 := by
          rw [sgQ'_num]
          rcases z2q b.num 0 with ⟨c, e⟩ | ⟨c, e⟩ | ⟨c, e⟩ <;> rw [e] <;> omega
        rcases this with e | e <;> rw [e] <;> rfl
    · show (if b.num < 0 then -(b * b * m) else b * b * m).num < 0 → -(if b.num < 0 then -(b * b * m) else b * b * m) = _
      intro h
      by_cases k : b.num < 0
      · rw [if_pos k]; grind
      · rw [if_neg k] at h
        have h1 : 0 ≤ b := Rat.num_nonneg.1 (by omega)
        have := Rat.num_nonneg.2 (Rat.mul_nonneg (Rat.mul_nonneg h1 h1) hm)
        omega
    · show 0 ≤ (if b.num < 0 then -(b * b * m) else b * b * m).num → (if b.num < 0 then -(b * b * m) else b * b * m) = _
      intro h
      by_cases k : b.num < 0
      · rw [if_pos k] at h ⊢
        have h0 := Rat.num_nonneg.1 h
        have h1 : b < 0 := by
          have : ¬ 0 ≤ b := fun k => by have := Rat.num_nonneg.2 k; omega
          grind
        have := Rat.mul_nonneg (Rat.mul_nonneg (a := -b) (b := -b) (by grind) (by grind)) hm
        grind
      · rw [if_neg k]
  obtain ⟨s, e, hsg, hn, hp⟩ := hs
  rw [← e]
  unfold sgS sg2 sumSg
  rw [← hsg]
  have ea : cmpZ a.num 0 = sgQ' a := (sgQ'_num a).symm
  have es : cmpZ s.num 0 = sgQ' s := (sgQ'_num s).symm
  rw [ea, es]
  by_cases h0 : s.num = 0
  · have z : sgQ' s = 0 := by rw [sgQ'_num, h0]; rfl
    rw [if_pos h0, z]
    by_cases ha : sgQ' a = 0
    · rw [if_pos ha, ha]
    · rw [if_neg ha, if_pos rfl]
  · have zs : sgQ' s ≠ 0 := by
      rw [sgQ'_num]
      rcases z2q s.num 0 with ⟨c, e⟩ | ⟨c, e⟩ | ⟨c, e⟩ <;> rw [e] <;> omega
    rw [if_neg h0]
    have hc : cmpZ (a.num * a.num * (s.den : Int)) ((s.num.natAbs : Int) * ((a.den : Int) * (a.den : Int))) = sgQ' (a * a - b * b * m) := by
      rcases Int.lt_or_le s.num 0 with k | k
      · obtain ⟨e1, e2⟩ := num_absQ k
        have k' : 0 ≤ (-s).num := by rw [Rat.neg_num]; omega
        have := cmp_sq a (-s) k'
        rw [← e2, show ((-s).num.natAbs : Int) = (s.num.natAbs : Int) by rw [Rat.neg_num]; omega, hn k] at this
        exact this
      · rw [cmp_sq a s k, hp k]
    rw [hc]
    rcases sgQ'_range a with ra | ra | ra <;> rcases sgQ'_range s with rs | rs | rs <;> rw [ra, rs] <;> first | exact absurd rs zs | rfl | (simp)
def psT (a b x y : IT) : IT := .a2 3 (qop 8 (izT' a) (qop 7 (izT' b) (x, y))).1 (.lit 0)
where izT' (t : IT) : IT2 := (t, .lit 1)
theorem psT_den {E : Env} {a b x y : IT} {p q : Int} {m : Rat} (ha : a.den E = p) (hb : b.den E = q) (hm : RepQ E (x, y) m) (h0 : 0 ≤ m) : (psT a b x y).den E = sg2 (p : Rat) (q : Rat) m := by
  have r : RepQ E (qop 8 (psT.izT' a) (qop 7 (psT.izT' b) (x, y))) (ratF 8 (p : Rat) (ratF 7 (q : Rat) m)) := rep_op (f := 8) (by omega) ⟨ha, rfl⟩ (rep_op (f := 7) (by omega) ⟨hb, rfl⟩ hm)
  show cmpZ ((qop 8 (psT.izT' a) (qop 7 (psT.izT' b) (x, y))).1.den E) 0 = _
  rw [r.1]
  show cmpZ ((sgS (p : Rat) (ratF 7 (q : Rat) m) : Int) : Rat).num 0 = _
  rw [Rat.num_intCast, sgS_sg2 h0]
  rcases sg2_range (p : Rat) (q : Rat) m with e | e | e <;> rw [e] <;> rfl
end Go.Proofs.YtifeacfljfmnpaaGreat
end

section
set_option maxRecDepth 100000
namespace Go.Proofs.YtifeacfljfmnpaaGreat
open Go.RowKit
noncomputable def tabPq : List (Nat × Con) := (126, kSg) :: tabInt
theorem tabPq_ok {E : Env} : TabOK Tryz.prog E tabPq := .cons kSg_ok tabInt_ok
noncomputable def cPq0 : Cfg := cfgOf tabPq
theorem cPq0_ok {E : Env} : CfgOK Tryz.prog E cPq0 := cfg_ok tabPq_ok
noncomputable def cPqg : Cfg := cfgI cPq0 cPq0 [(198, Tryz.f198), (77, Tryz.f77)]
theorem cPqg_ok {E : Env} : CfgOK Tryz.prog E cPqg := cfgI_ok mixed cPq0_ok cPq0_ok (fun _ => trivial) (.cons Tryz.func198 (by decide +kernel) (by kernel_rfl) <| .cons Tryz.func77 (by decide +kernel) (by kernel_rfl) .nil)
def aPr : AV := .val true [.int (.var 0) 30000, .int (.var 2) 30000, .int (.var 4) 100, .int (.var 5) 100]
def prA : IT := .a2 3 (.var 0) (.lit 0)
def prB : IT := .a2 2 (.a2 3 (.var 2) (.lit 0)) (.a2 3 (.var 4) (.lit 0))
def prC : IT := .a2 2 prA (.a2 3 (.a2 2 (.a2 2 (.var 0) (.var 0)) (.var 5)) (.a2 2 (.a2 2 (.var 2) (.var 2)) (.var 4)))
def prS : IT := .a2 13 (.lit (-1)) (.a2 12 (.lit 1) (.a1 20 (.a2 0 prA prB)))
def prTree : Tree := .ite (.le (.lit 0) (.a1 20 (.a2 2 prA prB))) (.leaf [(false, [.n .i64 prS])]) (.leaf [(false, [.n .i64 prC])])
theorem pr_walk : funE cPqg Tryz.f197 [] [aPr] = some prTree := by kernel_rfl
theorem wrap_tiny {x : Int} (h : -10 ≤ x ∧ x ≤ 10) : IntKind.i64.wrap x = x := IntWalk.i64_in _ (by omega)
theorem num_int (p : Int) : cmpZ p 0 = sgQ' (p : Rat) := by rw [sgQ'_num, Rat.num_intCast]
theorem pr_pick {p q : Int} {m : Rat} : ∃ z : Int, (∃ t, prTree.pick (qE [(p : Rat), (q : Rat), m]) = [(false, [.n .i64 t])] ∧ t.den (qE [(p : Rat), (q : Rat), m]) = z) ∧ z = sg2 (p : Rat) (q : Rat) m := by
  obtain ⟨E, hE⟩ : ∃ E, E = qE [(p : Rat), (q : Rat), m] := ⟨_, rfl⟩
  rw [← hE]
  have e0 : E.i 0 = p := by rw [hE]; exact qE_int (i := 0) rfl
  have e2 : E.i 2 = q := by rw [hE]; exact qE_int (i := 1) rfl
  have e4 : E.i 4 = m.num := by rw [hE]; rfl
  have e5 : E.i 5 = (m.den : Int) := by rw [hE]; rfl
  have dA : prA.den E = sgQ' (p : Rat) := by show cmpZ (E.i 0) 0 = _; rw [e0, num_int]
  have dB : prB.den E = sgQ' (q : Rat) * sgQ' m := by show cmpZ (E.i 2) 0 * cmpZ (E.i 4) 0 = _; rw [e2, e4, num_int, ← sgQ'_num]
  have dm : (0 : Rat) < (m.den : Rat) := by
    have : ((0 : Nat) : Rat) < (m.den : Rat) := Rat.natCast_lt_natCast.2 m.den_pos
    exact this
  have dC : prC.den E = sgQ' (p : Rat) * sgQ' ((p : Rat) * p - (q : Rat) * q * m) := by
    show prA.den E * cmpZ (E.i 0 * E.i 0 * E.i 5) (E.i 2 * E.i 2 * E.i 4) = _
    rw [dA, e0, e2, e4, e5]
    congr 1
    have key : ((p * p * (m.den : Int) - q * q * m.num : Int) : Rat) = (m.den : Rat) * ((p : Rat) * p - (q : Rat) * q * m) := by
      rw [Rat.intCast_sub, Rat.intCast_mul, Rat.intCast_mul, Rat.intCast_mul, Rat.intCast_mul, ← mul_den' m]
      have e1 : (((m.den : Int)) : Rat) = (m.den : Rat) := rfl
      rw [e1]
      grind
    rw [← sgQ'_scale (a := (p : Rat) * p - (q : Rat) * q * m) dm, ← key, sgQ'_num, Rat.num_intCast]
    rcases z2q (p * p * (m.den : Int)) (q * q * m.num) with ⟨c, e⟩ | ⟨c, e⟩ | ⟨c, e⟩ <;> rw [e]
    · rw [cmpZ_lt (by omega)]
    · rw [cmpZ_eq (by omega)]
    · rw [cmpZ_gt (by omega)]
  have rs := sgQ'_range (p : Rat)
  have rt := mul_range (sgQ'_range (q : Rat)) (sgQ'_range m)
  have rd := sgQ'_range ((p : Rat) * p - (q : Rat) * q * m)
  have hc : (BT.le (.lit 0) (.a1 20 (.a2 2 prA prB))).den E = decide (0 ≤ IntKind.i64.wrap (prA.den E * prB.den E)) := rfl
  have dS : prS.den E = (if (-1 : Int) < (if IntKind.i64.wrap (prA.den E + prB.den E) < 1 then IntKind.i64.wrap (prA.den E + prB.den E) else 1) then (if IntKind.i64.wrap (prA.den E + prB.den E) < 1 then IntKind.i64.wrap (prA.den E + prB.den E) else 1) else -1) := rfl
  rw [dA, dB] at hc dS
  unfold sg2 sumSg
  generalize sgQ' (p : Rat) = s at *
  generalize sgQ' (q : Rat) * sgQ' m = t at *
  generalize sgQ' ((p : Rat) * p - (q : Rat) * q * m) = d at *
  have hw1 : IntKind.i64.wrap (s * t) = s * t := wrap_tiny (by rcases rs with rfl | rfl | rfl <;> rcases rt with rfl | rfl | rfl <;> omega)
  have hw2 : IntKind.i64.wrap (s + t) = s + t := wrap_tiny (by omega)
  rw [hw1] at hc
  rw [hw2] at dS
  by_cases h : 0 ≤ s * t
  · refine ⟨prS.den E, ⟨prS, ?_, rfl⟩, ?_⟩
    · unfold prTree
      simp only [Tree.pick]
      rw [if_pos (by rw [hc, decide_eq_true h])]
    · rw [dS]
      rcases rs with rfl | rfl | rfl <;> rcases rt with rfl | rfl | rfl <;> first | rfl | exact absurd h (by decide)
  · refine ⟨prC.den E, ⟨prC, ?_, rfl⟩, ?_⟩
    · unfold prTree
      simp only [Tree.pick]
      rw [if_neg (by rw [hc, decide_eq_false h]; decide)]
    · rw [dC]
      rcases rs with rfl | rfl | rfl <;> rcases rt with rfl | rfl | rfl <;> first | rfl | exact absurd (by decide) h
theorem int_to {E E' : Env} {w : World} {s t : IT} {l m : Nat} {vs : List Value} (h : (Chunk.int s l).holds E w vs) (e : t.den E' = s.den E) (k : l ≤ m) : (Chunk.int t m).holds E' w vs := by
  obtain ⟨x, y, rfl, h1, h2⟩ := h
  exact ⟨x, y, rfl, by rw [e]; exact h1, by rw [e]; exact h2.mono k⟩
def kPs : Con
  | [.val true [.int a l, .int b m, .int x k, .int y j]], G => if canon x y && (decide (l ≤ 30000) && (decide (m ≤ 30000) && (decide (k ≤ 100) && (decide (j ≤ 100) && G.find (.lt (.a2 3 x (.lit 0)) (.lit 0)) == some false)))) then some (.val false [.n .i64 (psT a b x y)]) else none
  | _, _ => none
theorem kPs_ok {E : Env} (hE : QEnv E) : ConOK Tryz.prog E 197 kPs := by
  refine ⟨?_, ?_, ⟨_, Tryz.func197, by decide +kernel, by kernel_rfl⟩⟩
  · intro args G r h hG β w vs hv hlen
    unfold kPs at h
    split at h
    · rename_i a l b m x k y j
      split at h
      · rename_i hcd
        simp only [Bool.and_eq_true, decide_eq_true_iff, beq_iff_eq] at hcd
        obtain ⟨c1, b1, b2, b3, b4, hg⟩ := hcd
        injection h with h
        subst h
        obtain ⟨v, rfl, us, rfl, l1, r1, rfl, h1, l2, r2, rfl, h2, l3, r3, rfl, h3, l4, r4, rfl, h4, h5⟩ := args1 hv hlen
        obtain ⟨q, f1, f2⟩ := canon_spec hE c1
        have h0 : 0 ≤ q := by
          have := of_decide_eq_false (Asm.find_spec hG hg)
          have e : (IT.a2 3 x (.lit 0)).den E = cmpZ (x.den E) 0 := rfl
          rw [e, f1] at this
          exact Rat.num_nonneg.1 (by
            refine Decidable.byContradiction fun k => this ?_
            rw [cmpZ_lt (by omega)]
            show (-1 : Int) < 0
            omega)
        have hr : RepQ E (x, y) q := ⟨f1, f2⟩
        obtain ⟨z, ⟨t, ht, hz⟩, hz2⟩ := pr_pick (p := a.den E) (q := b.den E) (m := q)
        refine (z5q mixed cPqg_ok z8q Tryz.func197 (by decide +kernel) pr_walk (by decide +kernel) rfl w [_] rfl (E := qE [((a.den E : Int) : Rat), ((b.den E : Int) : Rat), q]) (fun i u hu => ?_)).mono ?_
        · match i, hu with
          | 0, hu =>
            injection hu with hu
            subst hu
            refine ⟨fun _ => 0, _, rfl, _, rfl, l1, _, rfl, int_to h1 (qE_int (i := 0) rfl) b1, l2, _, rfl, int_to h2 (qE_int (i := 1) rfl) b2, l3, _, rfl, int_to h3 f1.symm b3, l4, _, rfl, int_to h4 f2.symm b4, h5⟩
        · rintro e w' ⟨β', u, rfl, hh, ex⟩
          rw [ht] at hh
          have hu : u = .int .i64 z := by rw [← hz]; exact z9q.1 hh
          refine ⟨_, rfl, z9q.2 ?_, ex⟩
          rw [hu, hz2, psT_den rfl rfl hr h0]
      · cases h
    · cases h
  · intro args G r h x off
    unfold kPs at h
    split at h
    · split at h
      · injection h with h; subst h; intro e; cases e
      · cases h
    · cases h
def lcmT (x y : IT) : IT := .a2 2 (.a2 4 x (.a2 6 x y)) y
def kCm : Con
  | [.val true [.int x l], .val true [.int y m]], G => if decide (l ≤ 10000) && (decide (m ≤ 10000) && (G.find (.lt (.lit 0) x) == some true && G.find (.lt (.lit 0) y) == some true)) then some (.val true [.int (lcmT x y) (l + m)]) else none
  | _, _ => none
theorem cm_walk : funE cPq0 Tryz.f195 [] [.val true [.int (.var 0) 10000], .val true [.int (.var 1) 10000]] = some (.ite (.eq (.a2 3 (.var 0) (.var 1)) (.lit 0)) (.leaf [(true, [.int (.var 0) 10000])]) (.leaf [(true, [.int (lcmT (.var 0) (.var 1)) 20000])])) := by kernel_rfl
end Go.Proofs.YtifeacfljfmnpaaGreat
end

section
set_option maxRecDepth 100000
namespace Go.Proofs.YtifeacfljfmnpaaGreat
open Go.RowKit
theorem lcm_eq (p q : Nat) : p / Nat.gcd p q * q = Nat.lcm p q := by
  unfold Nat.lcm
  rw [Nat.div_mul_right_comm (Nat.gcd_dvd_left p q)]
theorem lcmT_den {E : Env} {x y : IT} {p q : Nat} (hx : x.den E = (p : Int)) (hy : y.den E = (q : Int)) (hp : 0 < p) : (lcmT x y).den E = (Nat.lcm p q : Int) := by
  show dq (x.den E) ((Nat.gcd (x.den E).natAbs (y.den E).natAbs : Nat) : Int) * y.den E = _
  rw [hx, hy, Int.natAbs_natCast, Int.natAbs_natCast]
  have hg : 0 < Nat.gcd p q := Nat.gcd_pos_of_pos_left _ hp
  rw [dq_pos (by omega), ← Int.natCast_ediv, ← Int.natCast_mul, lcm_eq]
theorem kCm_ok {E : Env} : ConOK Tryz.prog E 195 kCm := by
  refine ⟨?_, ?_, ⟨_, Tryz.func195, by decide +kernel, by kernel_rfl⟩⟩
  · intro args G r h hG β w vs hv hlen
    unfold kCm at h
    split at h
    · rename_i x l y m
      split at h
      · rename_i hcd
        simp only [Bool.and_eq_true, decide_eq_true_iff, beq_iff_eq] at hcd
        obtain ⟨b1, b2, g1, g2⟩ := hcd
        injection h with h
        subst h
        have p1 : 0 < x.den E := of_decide_eq_true (Asm.find_spec hG g1)
        have p2 : 0 < y.den E := of_decide_eq_true (Asm.find_spec hG g2)
        obtain ⟨v, u, rfl, h1, h2⟩ := args2 hv hlen
        obtain ⟨i1, l1⟩ := z10q.1 h1
        obtain ⟨i2, l2⟩ := z10q.1 h2
        obtain ⟨p, hp⟩ : ∃ p : Nat, x.den E = (p : Int) := ⟨(x.den E).toNat, by omega⟩
        obtain ⟨q, hq⟩ : ∃ q : Nat, y.den E = (q : Int) := ⟨(y.den E).toNat, by omega⟩
        have dL := lcmT_den hp hq (by omega)
        have hlim : Lim (l + m) ((lcmT x y).den E) := by
          show Lim (l + m) (dq (x.den E) ((Nat.gcd (x.den E).natAbs (y.den E).natAbs : Nat) : Int) * y.den E)
          exact (l1.natAbs_le (dq_abs _ _)).mul l2
        rw [hp] at i1 l1
        rw [hq] at i2 l2
        refine (z5q mixed cPq0_ok z8q Tryz.func195 (by decide +kernel) cm_walk (by decide +kernel) rfl w [v, u] rfl (E := eN [(p : Int), (q : Int)]) (fun i s hs => ?_)).mono ?_
        · match i, hs with
          | 0, hs => injection hs with hs; subst hs; exact ⟨fun _ => 0, v, rfl, z10q.2 ⟨i1, l1.mono b1⟩⟩
          | 1, hs => injection hs with hs; subst hs; exact ⟨fun _ => 0, u, rfl, z10q.2 ⟨i2, l2.mono b2⟩⟩
        · rintro e w' ⟨β', z, rfl, hh, ex⟩
          refine ⟨z, rfl, z10q.2 ⟨?_, hlim⟩, ex⟩
          rw [dL]
          have hc : (BT.eq (.a2 3 (.var 0) (.var 1)) (.lit 0)).den (eN [(p : Int), (q : Int)]) = decide (p = q) := by
            show (cmpZ (p : Int) (q : Int) == 0) = _
            rw [Bool.eq_iff_iff, beq_iff_eq, decide_eq_true_iff]
            rcases z2q (p : Int) (q : Int) with ⟨c, e⟩ | ⟨c, e⟩ | ⟨c, e⟩ <;> rw [e] <;> omega
          simp only [Tree.pick] at hh
          by_cases hpq : p = q
          · rw [if_pos (by rw [hc, decide_eq_true hpq])] at hh
            have := (z10q.1 hh).1
            rw [← hpq, Nat.lcm_self]
            exact this
          · rw [if_neg (by rw [hc, decide_eq_false hpq]; decide)] at hh
            have := (z10q.1 hh).1
            rw [lcmT_den (E := eN [(p : Int), (q : Int)]) (x := .var 0) (y := .var 1) (p := p) (q := q) rfl rfl (by omega)] at this
            exact this
      · cases h
    · cases h
  · intro args G r h x off
    unfold kCm at h
    split at h
    · split at h
      · injection h with h; subst h; intro e; cases e
      · cases h
    · cases h
noncomputable def tabEx : List (Nat × Con) := (197, kPs) :: (195, kCm) :: tabPq
theorem tabEx_ok {E : Env} (hE : QEnv E) : TabOK Tryz.prog E tabEx := .cons (kPs_ok hE) <| .cons kCm_ok tabPq_ok
noncomputable def cEx0 : Cfg := cfgOf tabEx
theorem cEx0_ok {E : Env} (hE : QEnv E) : CfgOK Tryz.prog E cEx0 := cfg_ok (tabEx_ok hE)
noncomputable def cEx1 : Cfg := cfgI cEx0 cEx0 [(198, Tryz.f198), (77, Tryz.f77), (196, Tryz.f196)]
theorem cEx1_ok {E : Env} (hE : QEnv E) : CfgOK Tryz.prog E cEx1 := cfgI_ok mixed (cEx0_ok hE) (cEx0_ok hE) (fun _ => trivial) (.cons Tryz.func198 (by decide +kernel) (by kernel_rfl) <| .cons Tryz.func77 (by decide +kernel) (by kernel_rfl) <| .cons Tryz.func196 (by decide +kernel) (by kernel_rfl) .nil)
noncomputable def cEx2 : Cfg := cfgI cEx1 cEx1 [(239, Tryz.f239)]
theorem cEx2_ok {E : Env} (hE : QEnv E) : CfgOK Tryz.prog E cEx2 := cfgI_ok mixed (cEx1_ok hE) (cEx1_ok hE) (fun _ => trivial) (.cons Tryz.func239 (by decide +kernel) (by kernel_rfl) .nil)
noncomputable def cEx : Cfg := cfgI cEx2 cEx2 [(199, Tryz.f199)]
theorem cEx_ok {E : Env} (hE : QEnv E) : CfgOK Tryz.prog E cEx := cfgI_ok mixed (cEx2_ok hE) (cEx2_ok hE) (fun _ => trivial) (.cons Tryz.func199 (by decide +kernel) (by kernel_rfl) .nil)
def RatsQ (w : World) : List Value → List Rat → Prop
  | vs, [] => vs = []
  | vs, q :: l => ∃ x r, vs = x ++ r ∧ IsRat w (.agg x.toArray) q ∧ RatsQ w r l
def IsQs (w : World) (v : Value) (l : List Rat) : Prop := ∃ vs : List Value, v = .agg vs.toArray ∧ RatsQ w vs l
def LimQs (k : Nat) (l : List Rat) : Prop := ∀ q ∈ l, LimQ k q
theorem qs_chunks {E : Env} {w : World} {k : Nat} : ∀ (l : List Rat) (i : Nat) (vs : List Value), (∀ j q, l[j]? = some q → RepQ E (qI (i + 2 * j)) q) → (chunks E w (intC k i l.length) vs ↔ RatsQ w vs l ∧ LimQs k l)
  | [], _, vs, _ => ⟨fun h => ⟨h, fun q hq => by cases hq⟩, fun h => h.1⟩
  | q :: l, i, vs, e => by
    have e0 := e 0 q rfl
    rw [Nat.mul_zero, Nat.add_zero] at e0
    have ih := fun r => qs_chunks (E := E) (w := w) (k := k) l (i + 2) r (fun j p hj => by
      have := e (j + 1) p hj
      rwa [show i + 2 * (j + 1) = i + 2 + 2 * j by omega] at this)
    constructor
    · intro h
      obtain ⟨x, r, rfl, ⟨h1, h2, h3⟩, h4⟩ := (two_chunks e0).1 h
      obtain ⟨k1, k2⟩ := (ih r).1 h4
      exact ⟨⟨x, r, rfl, h1, k1⟩, fun p hp => by
        rcases List.mem_cons.1 hp with rfl | hp
        · exact ⟨h2, h3⟩
        · exact k2 p hp⟩
    · rintro ⟨⟨x, r, rfl, h1, k1⟩, k2⟩
      have := k2 q (by simp)
      exact (two_chunks e0).2 ⟨x, r, rfl, ⟨h1, this.1, this.2⟩, (ih r).2 ⟨k1, fun p hp => k2 p (List.mem_cons_of_mem _ hp)⟩⟩
def exL1 : IT := lcmT (.var 1) (.var 3)
def exL2 : IT := lcmT (.var 5) (.var 7)
def exL : IT := lcmT exL1 exL2
def enT (i : Nat) : IT := .a2 2 (.var i) (.a2 4 exL (.var (i + 1)))
def plT (a b : IT) : IT := .a2 0 (.a2 2 (.a2 2 a a) (.var 9)) (.a2 2 (.a2 2 b b) (.var 8))
def faT (a b : IT) : IT := .a2 2 (.a2 2 a b) (.var 9)
def ex3a : IT := .a2 1 (.a2 2 (plT (enT 0) (enT 2)) (.var 11)) (.a2 2 (plT (enT 4) (enT 6)) (.var 10))
def exF : IT := .a2 1 (.a2 2 (faT (enT 0) (enT 2)) (.var 11)) (.a2 2 (faT (enT 4) (enT 6)) (.var 10))
def exS1 : IT := psT (enT 0) (enT 2) (.var 8) (.var 9)
def exO : IT := .a2 2 (psT (enT 4) (enT 6) (.var 8) (.var 9)) (.a2 3 (.var 10) (.lit 0))
def exS3 : IT := psT ex3a (.a2 0 exF exF) (.var 8) (.var 9)
def exSum : IT := .a2 13 (.lit (-1)) (.a2 12 (.lit 1) (.a1 20 (.a2 0 exS1 exO)))
def exTree : Tree := .ite (.le (.lit 0) (.a1 20 (.a2 2 exS1 exO))) (.leaf [(false, [.n .i64 exSum])]) (.leaf [(false, [.n .i64 (.a2 2 exS1 exS3)])])
def gPos (t : IT) : BT × Bool := (.lt (.lit 0) t, true)
def exG : Asm := [gPos (.var 1), gPos (.var 3), gPos (.var 5), gPos (.var 7), gPos exL1, gPos exL2, (.lt (.a2 3 (.var 8) (.lit 0)) (.lit 0), false)]
def aQd : AV := .val true (intC 40 0 6)
theorem ex_walk : funE cEx Tryz.f140 exG [aQd] = some exTree := by kernel_rfl
end Go.Proofs.YtifeacfljfmnpaaGreat
end

section
set_option maxRecDepth 100000
namespace Go.Proofs.YtifeacfljfmnpaaGreat
open Go.RowKit
theorem den_cast (q : Rat) : (((q.den : Int)) : Rat) = (q.den : Rat) := rfl
theorem den_posQ (q : Rat) : (0 : Rat) < (q.den : Rat) := by
  have : ((0 : Nat) : Rat) < (q.den : Rat) := Rat.natCast_lt_natCast.2 q.den_pos
  exact this
theorem enT_den {E : Env} {i : Nat} {q : Rat} {L : Nat} (hq : RepQ E (qI i) q) (hL : exL.den E = (L : Int)) (hd : q.den ∣ L) : ((enT i).den E : Rat) = q * (L : Rat) := by
  have h1 : (enT i).den E = q.num * ((L / q.den : Nat) : Int) := by
    show E.i i * dq (exL.den E) (E.i (i + 1)) = _
    rw [show E.i i = q.num from hq.1, show E.i (i + 1) = (q.den : Int) from hq.2, hL, dq_pos (by have := q.den_pos; omega), ← Int.natCast_ediv]
  obtain ⟨k, hk⟩ := hd
  have h2 : L / q.den = k := by rw [hk, Nat.mul_div_cancel_left _ q.den_pos]
  rw [h1, h2, Rat.intCast_mul, ← mul_den' q]
  have e1 : (((k : Nat) : Int) : Rat) = (k : Rat) := rfl
  have e2 : (L : Rat) = (q.den : Rat) * (k : Rat) := by rw [hk, Rat.natCast_mul]
  rw [e1, e2]
  grind
theorem ex_pick {A B C D M N : Rat} (hM : 0 ≤ M) : ∃ t, exTree.pick (qE [A, B, C, D, M, N]) = [(false, [.n .i64 t])] ∧ t.den (qE [A, B, C, D, M, N]) = sg4 A B C D M N := by
  obtain ⟨E, hE⟩ : ∃ E, E = qE [A, B, C, D, M, N] := ⟨_, rfl⟩
  rw [← hE]
  have rA : RepQ E (qI 0) A := by rw [hE]; exact ⟨rfl, rfl⟩
  have rB : RepQ E (qI 2) B := by rw [hE]; exact ⟨rfl, rfl⟩
  have rC : RepQ E (qI 4) C := by rw [hE]; exact ⟨rfl, rfl⟩
  have rD : RepQ E (qI 6) D := by rw [hE]; exact ⟨rfl, rfl⟩
  have rM : RepQ E (qI 8) M := by rw [hE]; exact ⟨rfl, rfl⟩
  have rN : RepQ E (qI 10) N := by rw [hE]; exact ⟨rfl, rfl⟩
  have d1 : exL1.den E = (Nat.lcm A.den B.den : Int) := lcmT_den rA.2 rB.2 A.den_pos
  have d2 : exL2.den E = (Nat.lcm C.den D.den : Int) := lcmT_den rC.2 rD.2 C.den_pos
  have pos1 : 0 < Nat.lcm A.den B.den := Nat.lcm_pos A.den_pos B.den_pos
  have pos2 : 0 < Nat.lcm C.den D.den := Nat.lcm_pos C.den_pos D.den_pos
  obtain ⟨L, hLd⟩ : ∃ L, L = Nat.lcm (Nat.lcm A.den B.den) (Nat.lcm C.den D.den) := ⟨_, rfl⟩
  have dL : exL.den E = (L : Int) := by rw [hLd]; exact lcmT_den d1 d2 pos1
  have posL : 0 < L := by rw [hLd]; exact Nat.lcm_pos pos1 pos2
  have hLr : (0 : Rat) < (L : Rat) := by
    have : ((0 : Nat) : Rat) < (L : Rat) := Rat.natCast_lt_natCast.2 posL
    exact this
  have vA : A.den ∣ L := by rw [hLd]; exact Nat.dvd_trans (Nat.dvd_lcm_left _ _) (Nat.dvd_lcm_left _ _)
  have vB : B.den ∣ L := by rw [hLd]; exact Nat.dvd_trans (Nat.dvd_lcm_right _ _) (Nat.dvd_lcm_left _ _)
  have vC : C.den ∣ L := by rw [hLd]; exact Nat.dvd_trans (Nat.dvd_lcm_left _ _) (Nat.dvd_lcm_right _ _)
  have vD : D.den ∣ L := by rw [hLd]; exact Nat.dvd_trans (Nat.dvd_lcm_right _ _) (Nat.dvd_lcm_right _ _)
  have ea := enT_den rA dL vA
  have eb := enT_den rB dL vB
  have ec := enT_den rC dL vC
  have ed := enT_den rD dL vD
  have key := sg4_scaled (A := A) (B := B) (C := C) (D := D) (M := M) (N := N) (L := (L : Rat)) (mD := (M.den : Rat)) (nD := (N.den : Rat)) (mN := (M.num : Rat)) (nN := (N.num : Rat)) hLr (den_posQ M) (den_posQ N) ea eb ec ed (mul_den' M).symm (mul_den' N).symm
  have s1 : exS1.den E = sg2 ((enT 0).den E : Rat) ((enT 2).den E : Rat) M := psT_den rfl rfl rM hM
  have s2 : (psT (enT 4) (enT 6) (.var 8) (.var 9)).den E = sg2 ((enT 4).den E : Rat) ((enT 6).den E : Rat) M := psT_den rfl rfl rM hM
  have sN : (IT.a2 3 (.var 10) (.lit 0)).den E = sgQ' N := by rw [sgQ'_num, ← rN.1]; rfl
  have m9 : E.i 9 = (M.den : Int) := rM.2
  have m8 : E.i 8 = M.num := rM.1
  have n11 : E.i 11 = (N.den : Int) := rN.2
  have n10 : E.i 10 = N.num := rN.1
  have pl : ∀ a b : IT, ((plT a b).den E : Rat) = (a.den E : Rat) * (a.den E : Rat) * (M.den : Rat) + (b.den E : Rat) * (b.den E : Rat) * (M.num : Rat) := fun a b => by
    show ((a.den E * a.den E * E.i 9 + b.den E * b.den E * E.i 8 : Int) : Rat) = _
    rw [m9, m8, Rat.intCast_add, Rat.intCast_mul, Rat.intCast_mul, Rat.intCast_mul, Rat.intCast_mul, den_cast]
  have fa : ∀ a b : IT, ((faT a b).den E : Rat) = (a.den E : Rat) * (b.den E : Rat) * (M.den : Rat) := fun a b => by
    show ((a.den E * b.den E * E.i 9 : Int) : Rat) = _
    rw [m9, Rat.intCast_mul, Rat.intCast_mul, den_cast]
  have d3a : (ex3a.den E : Rat) = (plT (enT 0) (enT 2)).den E * (N.den : Rat) - (plT (enT 4) (enT 6)).den E * (N.num : Rat) := by
    show (((plT (enT 0) (enT 2)).den E * E.i 11 - (plT (enT 4) (enT 6)).den E * E.i 10 : Int) : Rat) = _
    rw [n11, n10, Rat.intCast_sub, Rat.intCast_mul, Rat.intCast_mul, den_cast]
  have dF : (exF.den E : Rat) = (faT (enT 0) (enT 2)).den E * (N.den : Rat) - (faT (enT 4) (enT 6)).den E * (N.num : Rat) := by
    show (((faT (enT 0) (enT 2)).den E * E.i 11 - (faT (enT 4) (enT 6)).den E * E.i 10 : Int) : Rat) = _
    rw [n11, n10, Rat.intCast_sub, Rat.intCast_mul, Rat.intCast_mul, den_cast]
  have dFF : (((IT.a2 0 exF exF).den E : Int) : Rat) = (exF.den E : Rat) + (exF.den E : Rat) := by
    show ((exF.den E + exF.den E : Int) : Rat) = _
    rw [Rat.intCast_add]
  have s3 : exS3.den E = sg2 (ex3a.den E : Rat) ((IT.a2 0 exF exF).den E : Rat) M := psT_den rfl rfl rM hM
  rw [d3a, dFF, dF, pl, pl, fa, fa] at s3
  have rs := sg2_range ((enT 0).den E : Rat) ((enT 2).den E : Rat) M
  have rt := mul_range (sg2_range ((enT 4).den E : Rat) ((enT 6).den E : Rat) M) (sgQ'_range N)
  have dO : exO.den E = sg2 ((enT 4).den E : Rat) ((enT 6).den E : Rat) M * sgQ' N := by
    show (psT (enT 4) (enT 6) (.var 8) (.var 9)).den E * (IT.a2 3 (.var 10) (.lit 0)).den E = _
    rw [s2, sN]
  have hc : (BT.le (.lit 0) (.a1 20 (.a2 2 exS1 exO))).den E = decide (0 ≤ IntKind.i64.wrap (exS1.den E * exO.den E)) := rfl
  have dS : exSum.den E = (if (-1 : Int) < (if IntKind.i64.wrap (exS1.den E + exO.den E) < 1 then IntKind.i64.wrap (exS1.den E + exO.den E) else 1) then (if IntKind.i64.wrap (exS1.den E + exO.den E) < 1 then IntKind.i64.wrap (exS1.den E + exO.den E) else 1) else -1) := rfl
  have dP : (IT.a2 2 exS1 exS3).den E = exS1.den E * exS3.den E := rfl
  rw [key]
  rw [s1, dO] at hc dS
  rw [s1, s3] at dP
  unfold sumSg
  generalize sg2 ((enT 0).den E : Rat) ((enT 2).den E : Rat) M = s at *
  generalize sg2 ((enT 4).den E : Rat) ((enT 6).den E : Rat) M * sgQ' N = t at *
  have hw1 : IntKind.i64.wrap (s * t) = s * t := wrap_tiny (by rcases rs with rfl | rfl | rfl <;> rcases rt with rfl | rfl | rfl <;> omega)
  have hw2 : IntKind.i64.wrap (s + t) = s + t := wrap_tiny (by omega)
  rw [hw1] at hc
  rw [hw2] at dS
  by_cases h : 0 ≤ s * t
  · refine ⟨exSum, ?_, ?_⟩
    · unfold exTree
      simp only [Tree.pick]
      rw [if_pos (by rw [hc, decide_eq_true h])]
    · rw [dS]
      rcases rs with rfl | rfl | rfl <;> rcases rt with rfl | rfl | rfl <;> first | rfl | exact absurd h (by decide)
  · refine ⟨.a2 2 exS1 exS3, ?_, ?_⟩
    · unfold exTree
      simp only [Tree.pick]
      rw [if_neg (by rw [hc, decide_eq_false h]; decide)]
    · rw [dP]
      rcases rs with rfl | rfl | rfl <;> rcases rt with rfl | rfl | rfl <;> first | rfl | exact absurd (by decide) h
def RetN (z : Int) (w : World) (e : Ending) (w' : World) : Prop := e = .returned (.int .i64 z) ∧ Ext w w'
theorem exactSign_calls (w : World) (v : Value) (A B C D M N : Rat) (h : IsQs w v [A, B, C, D, M, N]) (l : LimQs 40 [A, B, C, D, M, N]) (hM : 0 ≤ M) : Calls Tryz.prog 140 #[v] w (RetN (sg4 A B C D M N) w) := by
  obtain ⟨vs, rfl, hvs⟩ := h
  have hch : chunks (qE [A, B, C, D, M, N]) w (intC 40 0 6) vs := (qs_chunks [A, B, C, D, M, N] 0 vs (fun j q hj => by
    match j, hj with
    | 0, hj => injection hj with hj; subst hj; exact ⟨rfl, rfl⟩
    | 1, hj => injection hj with hj; subst hj; exact ⟨rfl, rfl⟩
    | 2, hj => injection hj with hj; subst hj; exact ⟨rfl, rfl⟩
    | 3, hj => injection hj with hj; subst hj; exact ⟨rfl, rfl⟩
    | 4, hj => injection hj with hj; subst hj; exact ⟨rfl, rfl⟩
    | 5, hj => injection hj with hj; subst hj; exact ⟨rfl, rfl⟩)).2 ⟨hvs, l⟩
  have hG : exG.holds (qE [A, B, C, D, M, N]) := by
    have p : ∀ q : Rat, 0 < (q.den : Int) := fun q => by have := q.den_pos; omega
    refine lt_t (p A) <| lt_t (p B) <| lt_t (p C) <| lt_t (p D) <| lt_t ?_ <| lt_t ?_ <| lt_f ?_ z8q
    · rw [show exL1.den (qE [A, B, C, D, M, N]) = (Nat.lcm A.den B.den : Int) from lcmT_den rfl rfl A.den_pos]
      have := Nat.lcm_pos A.den_pos B.den_pos
      show (0 : Int) < _
      omega
    · rw [show exL2.den (qE [A, B, C, D, M, N]) = (Nat.lcm C.den D.den : Int) from lcmT_den rfl rfl C.den_pos]
      have := Nat.lcm_pos C.den_pos D.den_pos
      show (0 : Int) < _
      omega
    · show ¬ cmpZ M.num 0 < 0
      have := Rat.num_nonneg.2 hM
      intro k
      rcases z2q M.num 0 with ⟨c, e⟩ | ⟨c, e⟩ | ⟨c, e⟩ <;> omega
  refine (z5q mixed (cEx_ok (qE_ok _)) hG Tryz.func140 (by decide +kernel) ex_walk (by decide +kernel) rfl w [.agg vs.toArray] rfl (fun i x hx => ?_)).mono ?_
  · match i, hx with
    | 0, hx => injection hx with hx; subst hx; exact ⟨fun _ => 0, _, rfl, vs, rfl, hch⟩
  · rintro e w' ⟨β, u, rfl, hh, ex⟩
    obtain ⟨t, ht, hd⟩ := ex_pick (A := A) (B := B) (C := C) (D := D) (M := M) (N := N) hM
    rw [ht] at hh
    have hu : u = .int .i64 (sg4 A B C D M N) := by rw [← hd]; exact z9q.1 hh
    rw [hu]
    exact ⟨rfl, ex⟩
end Go.Proofs.YtifeacfljfmnpaaGreat
end

section
set_option maxRecDepth 100000
namespace Go.Proofs.YtifeacfljfmnpaaGreat
open Go.RowKit
noncomputable def tabFq : List (Nat × Con) := [(191, kFR), (193, kI2 muLo muHi), (228, kI2 adLo adHi), (192, kSqV), (200, kNegI), (175, kIn fun x => .a2 3 x (.lit 0))]
theorem tabFq_ok {E : Env} (hE : QEnv E) : TabOK Tryz.prog E tabFq :=
  .cons (kFR_ok hE pFromRat_calls ⟨_, Tryz.func191, by decide +kernel, by kernel_rfl⟩) <| .cons (kI2_ok muLo_den muHi_den pMul_calls ⟨_, Tryz.func193, by decide +kernel, by kernel_rfl⟩) <|
  .cons (kI2_ok (L := fun a _ c _ => a + c) (H := fun _ b _ d => b + d) (fun _ _ _ _ => rfl) (fun _ _ _ _ => rfl) pAdd_calls ⟨_, Tryz.func228, by decide +kernel, by kernel_rfl⟩) <|
  .cons (kSqV_ok pSqrt_calls ⟨_, Tryz.func192, by decide +kernel, by kernel_rfl⟩) <|
  .cons (kNegI_ok (neg_gen Tryz.func200 (by decide +kernel) (by decide +kernel) neg_walkP) ⟨_, Tryz.func200, by decide +kernel, by kernel_rfl⟩) <|
  .cons (kIn_ok (cmpZ · 0) (fun _ => rfl) (fun w v1 z1 h1 => sign_calls w v1 z1 h1) ⟨_, Tryz.func175, by decide +kernel, by kernel_rfl⟩) .nil
def needFq : List (Nat × (List AV → Asm → Option BT)) := [(191, nFR), (193, nI2 muLo muHi), (228, nI2 adLo adHi), (192, nSqV)]
noncomputable def cFq0 : Cfg := cfgN (cfgOf tabFq) needFq
theorem cFq0_ok {E : Env} (hE : QEnv E) : CfgOK Tryz.prog E cFq0 := cfgN_ok (cfg_ok (tabFq_ok hE))
noncomputable def cFq : Cfg := cfgI cFq0 cFq0 [(227, Tryz.f227)]
theorem cFq_ok {E : Env} (hE : QEnv E) : CfgOK Tryz.prog E cFq := cfgI_ok mixed (cFq0_ok hE) (cFq0_ok hE) (fun _ => trivial) (.cons Tryz.func227 (by decide +kernel) (by kernel_rfl) .nil)
def isIvQ (x y : IT) : Option Tree → Bool
  | some T => isIv x y T
  | none => false
def isNoQ : Option Tree → Bool
  | some T => isNo T
  | none => false
theorem ivQ_calls {C : Cfg} {E : Env} (hC : CfgOK Tryz.prog E C) (hw : ∀ w, C.wok w) {G : Asm} (hG : G.holds E) {f : FuncId} {fn : Func} (hf : Tryz.prog.funcs[f]? = some fn) (h4 : fn.results.toList.length ≤ 4) {args : List AV} {x y : IT} {a b : Int} (hT : isIvQ x y (funE C fn G args) = true) (hx : x.den E = a) (hy : y.den E = b) (hn : args.length ≤ fn.ntmps) (hp : args.all noPtr = true) (w : World) (vs : List Value) (hl : vs.length = args.length)
    (hv : ∀ (i : Nat) (x : AV), args[i]? = some x → ∃ v, vs[i]? = some v ∧ ∀ β, x.holds E β w v) : Calls Tryz.prog f vs.toArray w (RetIv (some (a, b)) w) := by
  unfold isIvQ at hT
  split at hT
  · rename_i T hT'
    refine (z5q mixed hC hG hf h4 hT' hn hp w vs hl (fun i x hx => ?_) (fun w' _ => hw w')).mono ?_
    · obtain ⟨v, h1, h2⟩ := hv i x hx
      exact ⟨fun _ => 0, v, h1, h2 _⟩
    · rintro e w' ⟨β, v, rfl, hh, ex⟩
      rw [isIv_pick hT] at hh
      rw [ivL_out hh, hx, hy]
      exact ⟨rfl, ex⟩
  · cases hT
theorem noQ_calls {C : Cfg} {E : Env} (hC : CfgOK Tryz.prog E C) (hw : ∀ w, C.wok w) {G : Asm} (hG : G.holds E) {f : FuncId} {fn : Func} (hf : Tryz.prog.funcs[f]? = some fn) (h4 : fn.results.toList.length ≤ 4) {args : List AV} (hT : isNoQ (funE C fn G args) = true) (hn : args.length ≤ fn.ntmps) (hp : args.all noPtr = true) (w : World) (vs : List Value) (hl : vs.length = args.length)
    (hv : ∀ (i : Nat) (x : AV), args[i]? = some x → ∃ v, vs[i]? = some v ∧ ∀ β, x.holds E β w v) : Calls Tryz.prog f vs.toArray w (RetIv none w) := by
  unfold isNoQ at hT
  split at hT
  · rename_i T hT'
    refine (z5q mixed hC hG hf h4 hT' hn hp w vs hl (fun i x hx => ?_) (fun w' _ => hw w')).mono ?_
    · obtain ⟨v, h1, h2⟩ := hv i x hx
      exact ⟨fun _ => 0, v, h1, h2 _⟩
    · rintro e w' ⟨β, v, rfl, hh, ex⟩
      rw [isNo_pick hT] at hh
      rw [noL_out hh]
      exact ⟨rfl, ex⟩
  · cases hT
def aRq : AV := .val true (rt (qI 0) (qI 2) (qI 4) 40)
def gZq (z : Bool) : Asm := [(.eq (sgQT (qI 2)) (.lit 0), z)]
noncomputable def pRq (G : Asm) : Option Tree := funE cFq Tryz.f190 G [aRq]
theorem rq_yes : (bools.all fun z => isIvQ (rtL z (qI 0) (qI 2) (qI 4)) (rtH z (qI 0) (qI 2) (qI 4)) (pRq (gZq z ++ tsRt z (qI 0) (qI 2) (qI 4)))) = true := by kernel_rfl
theorem rq_no : (bools.all fun z => (List.range 8).all fun i => decide ((tsRt z (qI 0) (qI 2) (qI 4)).length ≤ i) || isNoQ (pRq (gZq z ++ flipAt (tsRt z (qI 0) (qI 2) (qI 4)) i))) = true := by kernel_rfl
structure RootQ (a b c : Rat) (o : Option (Int × Int)) : Prop where
  prog : ∀ (w : World) (v : Value), z16q w v a b c → LimR 40 a b c → Calls Tryz.prog 190 #[v] w (RetIv o w)
  holds : ∀ L H, o = some (L, H) → Prp L H ∧ ∀ m, 0 ≤ c → IsRt c m → IvIn L H fun k => a + b * m k
theorem root_q (a b c : Rat) : ∃ o, RootQ a b c o := by
  obtain ⟨E, hE⟩ : ∃ E, E = qE [a, b, c] := ⟨_, rfl⟩
  have hQ : QEnv E := by rw [hE]; exact qE_ok _
  have ra : RepQ E (qI 0) a := by rw [hE]; exact ⟨rfl, rfl⟩
  have rb : RepQ E (qI 2) b := by rw [hE]; exact ⟨rfl, rfl⟩
  have rc : RepQ E (qI 4) c := by rw [hE]; exact ⟨rfl, rfl⟩
  have hv : ∀ (w : World) (v : Value), z16q w v a b c → LimR 40 a b c → ∀ (i : Nat) (x : AV), [aRq][i]? = some x → ∃ u, [v][i]? = some u ∧ ∀ β, x.holds E β w u := fun w v h l => one_arg rfl rfl fun β => (one_rt ra rb rc).2 ⟨h, l⟩
  obtain ⟨z, hz⟩ : ∃ z : Bool, z = decide (sgQ' b = 0) := ⟨_, rfl⟩
  have gz : (gZq z).holds E := by
    refine asm_c ?_ z8q
    show ((sgQT (qI 2)).den E == 0) = z
    rw [show (sgQT (qI 2)).den E = sgQ' b by rw [sgQ'_num, ← rb.1]; rfl, hz, Bool.eq_iff_iff, beq_iff_eq, decide_eq_true_iff]
  have zb : z = true → b = 0 := fun h => by
    rw [h] at hz
    have := of_decide_eq_true hz.symm
    rw [sgQ'_num] at this
    refine Rat.num_eq_zero.1 ?_
    rcases z2q b.num 0 with ⟨_, e⟩ | ⟨_, e⟩ | ⟨_, e⟩ <;> omega
  have dl := rtL_den z ra rb rc
  have dh := rtH_den z ra rb rc
  rcases first_bad (E := E) (tsRt z (qI 0) (qI 2) (qI 4)) with hall | ⟨i, hi, hbad⟩
  · have hw := List.all_eq_true.1 rq_yes z (z15q z)
    refine ⟨some (rtLv z a b c, rtHv z a b c), ?_, ?_⟩
    · intro w v h l
      exact ivQ_calls (cFq_ok hQ) (fun _ => trivial) (asm_app gz hall) Tryz.func190 (by decide +kernel) hw dl dh (by decide +kernel) rfl w _ rfl (hv w v h l)
    · intro L H e
      injection e with e
      injection e with e1 e2
      subst e1 e2
      refine ⟨?_, fun m hc hm => rt_in z zb hc hm⟩
      have : (exT (rtL z (qI 0) (qI 2) (qI 4)) (rtH z (qI 0) (qI 2) (qI 4))).den E = true := by
        cases z
        · exact hall (exT (rtL false (qI 0) (qI 2) (qI 4)) (rtH false (qI 0) (qI 2) (qI 4)), true) (by simp [tsRt])
        · exact hall (exT (qL (qI 0)) (qH (qI 0)), true) (by simp [tsRt])
      rw [exT_den, dl, dh] at this
      exact prpB_iff.1 this
  · have hi8 : i < 8 := by
      cases z
      · exact hi
      · have : i < 1 := hi
        omega
    have hw := List.all_eq_true.1 (List.all_eq_true.1 rq_no z (z15q z)) i (List.mem_range.2 hi8)
    rw [decide_eq_false (by omega), Bool.false_or] at hw
    refine ⟨none, ?_, ?_⟩
    · intro w v h l
      exact noQ_calls (cFq_ok hQ) (fun _ => trivial) (asm_app gz hbad) Tryz.func190 (by decide +kernel) hw (by decide +kernel) rfl w _ rfl (hv w v h l)
    · intro L H e
      cases e
end Go.Proofs.YtifeacfljfmnpaaGreat
end

section
set_option maxRecDepth 100000
namespace Go.Proofs.YtifeacfljfmnpaaGreat
open Go.RowKit
def kKq (chk : List AV → Bool) (r : AV) (k : Con) : Con := fun args G => if chk args then some r else k args G
structure KnownQ (E : Env) (f : Nat) (chk : List AV → Bool) (r : AV) : Prop where
  calls : ∀ args, chk args = true → ∀ (β : Nat → Nat) (w : World) (vs : List Value), (∀ (i : Nat) (x : AV), args[i]? = some x → ∃ v, vs[i]? = some v ∧ x.holds E β w v) → vs.length = args.length → Calls Tryz.prog f vs.toArray w fun e w' => ∃ v, e = .returned v ∧ (∀ β w', r.holds E β w' v) ∧ Ext w w'
  np : ∀ x off, r ≠ .ptr x off
theorem kKq_ok {E : Env} {f : Nat} {chk : List AV → Bool} {r : AV} {k : Con} (h : KnownQ E f chk r) (hk : ConOK Tryz.prog E f k) : ConOK Tryz.prog E f (kKq chk r k) := by
  refine ⟨?_, ?_, hk.body⟩
  · intro args G s hs hG β w vs hv hl
    unfold kKq at hs
    split at hs
    · rename_i hc
      injection hs with hs
      subst hs
      refine (h.calls args hc β w vs hv hl).mono ?_
      rintro e w' ⟨v, rfl, h1, h2⟩
      exact ⟨v, rfl, h1 _ _, h2⟩
    · exact hk.calls args G s hs hG β w vs hv hl
  · intro args G s hs x off
    unfold kKq at hs
    split at hs
    · injection hs with hs
      subst hs
      exact h.np x off
    · exact hk.nptr args G s hs x off
def kNoQ : Con := fun _ _ => none
theorem z18q {E : Env} {f : Nat} (hb : ∃ fn, Tryz.prog.funcs[f]? = some fn ∧ fn.name ≠ "runtime.NumGoroutine" ∧ fn.body.isNone = false) : ConOK Tryz.prog E f kNoQ := by
  refine ⟨?_, ?_, hb⟩
  · intro args G r h
    cases h
  · intro args G r h
    cases h
def resQ (o : Option (IT × IT)) : AV := match o with | some p => tIv p.1 p.2 | none => tNo
theorem resQ_np (o : Option (IT × IT)) : ∀ x off, resQ o ≠ .ptr x off := by
  intro x off e
  cases o <;> cases e
theorem resQ_holds {E : Env} {β : Nat → Nat} {w : World} {o : Option (IT × IT)} {u : Option (Int × Int)} (h : u = o.map fun p => (p.1.den E, p.2.den E)) : (resQ o).holds E β w (ivV u) := by
  subst h
  cases o with
  | none => exact tNo_holds
  | some p => exact tIv_holds rfl rfl
def isQw (i : Nat) : List Chunk → Bool
  | [.int (.var j) l, .int (.var k) m] => j == i && (k == i + 1 && (decide (l ≤ 40) && decide (m ≤ 40)))
  | _ => false
def isRw (a b c : Nat) : AV → Bool
  | .val true [x, y, z, t, u, s] => isQw a [x, y] && (isQw b [z, t] && isQw c [u, s])
  | _ => false
theorem isQw_spec {i : Nat} {cs : List Chunk} (h : isQw i cs = true) : ∃ l m, cs = [.int (.var i) l, .int (.var (i + 1)) m] ∧ l ≤ 40 ∧ m ≤ 40 := by
  unfold isQw at h
  split at h
  · simp only [Bool.and_eq_true, beq_iff_eq, decide_eq_true_iff] at h
    obtain ⟨rfl, rfl, h1, h2⟩ := h
    exact ⟨_, _, rfl, h1, h2⟩
  · cases h
theorem isRw_holds {E : Env} {w : World} {β : Nat → Nat} {i j k : Nat} {x : AV} {v : Value} {a b c : Rat} (ha : RepQ E (qI i) a) (hb : RepQ E (qI j) b) (hc : RepQ E (qI k) c) (h : isRw i j k x = true) (hv : x.holds E β w v) : z16q w v a b c ∧ LimR 40 a b c := by
  unfold isRw at h
  split at h
  · rename_i p q r s t u
    simp only [Bool.and_eq_true] at h
    obtain ⟨l1, m1, e1, b1, b2⟩ := isQw_spec h.1
    obtain ⟨l2, m2, e2, b3, b4⟩ := isQw_spec h.2.1
    obtain ⟨l3, m3, e3, b5, b6⟩ := isQw_spec h.2.2
    simp only [List.cons.injEq, and_true] at e1 e2 e3
    obtain ⟨rfl, rfl⟩ := e1
    obtain ⟨rfl, rfl⟩ := e2
    obtain ⟨rfl, rfl⟩ := e3
    obtain ⟨k1, ⟨k2, k3⟩, ⟨k4, k5⟩, k6, k7⟩ := (one_root (A := qI i) (B := qI j) (C := qI k) ha hb hc).1 hv
    exact ⟨k1, ⟨k2.mono b1, k3.mono b2⟩, ⟨k4.mono b3, k5.mono b4⟩, k6.mono b5, k7.mono b6⟩
  · cases h
def chkRw (a b c : Nat) : List AV → Bool
  | [x] => isRw a b c x
  | _ => false
theorem knownq_root {E : Env} {f : Nat} {i j k : Nat} {a b c : Rat} {u : Option (Int × Int)} {o : Option (IT × IT)} (ha : RepQ E (qI i) a) (hb : RepQ E (qI j) b) (hc : RepQ E (qI k) c) (h : ∀ (w : World) (v : Value), z16q w v a b c → LimR 40 a b c → Calls Tryz.prog f #[v] w (RetIv u w)) (ho : u = o.map fun p => (p.1.den E, p.2.den E)) : KnownQ E f (chkRw i j k) (resQ o) := by
  refine ⟨?_, resQ_np o⟩
  intro args hc' β w vs hv hl
  unfold chkRw at hc'
  split at hc'
  · obtain ⟨v, rfl, h1⟩ := args1 hv hl
    obtain ⟨k1, k2⟩ := isRw_holds ha hb hc hc' h1
    refine (h w v k1 k2).mono ?_
    rintro e w' ⟨rfl, ex⟩
    exact ⟨_, rfl, fun β w' => resQ_holds ho, ex⟩
  · cases hc'
def oL (b : Bool) : Option (IT × IT) := if b then some (.var 12, .var 14) else none
def oF (b : Bool) : Option (IT × IT) := if b then some (.var 16, .var 18) else none
def isIB (z : Int) (b : Bool) : Tree → Bool
  | .leaf [(false, [.n .i64 (.lit x)]), (false, [.b (.lit c)])] => x == z && c == b
  | .leaf _ => false
  | .ite _ t e => isIB z b t && isIB z b e
def isIBo (z : Int) (b : Bool) : Option Tree → Bool
  | some T => isIB z b T
  | none => false
theorem isIB_pick {E : Env} {z : Int} {b : Bool} : ∀ {T : Tree}, isIB z b T = true → T.pick E = [(false, [.n .i64 (.lit z)]), (false, [.b (.lit b)])] := by
  intro T
  induction T with
  | leaf l =>
    intro h
    unfold isIB at h
    split at h
    · rename_i x c e
      cases e
      simp only [Bool.and_eq_true, beq_iff_eq] at h
      rw [h.1, h.2]
      rfl
    · cases h
    · rename_i e
      cases e
  | ite c t e iht ihe =>
    intro h
    simp only [isIB, Bool.and_eq_true] at h
    simp only [Tree.pick]
    split
    · exact iht h.1
    · exact ihe h.2
def gTy (x y : IT) : Asm := [(.le x y, true), (.le lM x, true), (.le y lP, true)]
theorem gTy_ok {E : Env} {x y : IT} {a b : Int} (hx : x.den E = a) (hy : y.den E = b) (h : Prp a b) : (gTy x y).holds E := by
  subst hx hy
  obtain ⟨h1, h2, h3⟩ := h
  exact le_t h1 <| le_t h2 <| le_t h3 z8q
def gLF : Asm := gTy (.var 12) (.var 14) ++ gTy (.var 16) (.var 18)
end Go.Proofs.YtifeacfljfmnpaaGreat
end

section
set_option maxRecDepth 100000
namespace Go.Proofs.YtifeacfljfmnpaaGreat
open Go.RowKit
def RetIB (z : Int) (b : Bool) (w : World) (e : Ending) (w' : World) : Prop := e = .returned (.tuple #[.int .i64 z, .bool b]) ∧ Ext w w'
theorem IB_out {E : Env} {β : Nat → Nat} {w : World} {z : Int} {b : Bool} {v : Value} (h : (toAV [(false, [.n .i64 (.lit z)]), (false, [.b (.lit b)])]).holds E β w v) : v = .tuple #[.int .i64 z, .bool b] := by
  obtain ⟨vs, rfl, v1, r, rfl, h1, v2, r', rfl, h2, h3⟩ := h
  simp only [tupAll] at h3
  subst h3
  rw [z9q.1 h1, z11q.1 h2]
  rfl
theorem opt_ifq (u : Option (Int × Int)) : ∃ (s : Bool) (L H : Int), u = if s then some (L, H) else none := by
  cases u with
  | none => exact ⟨false, 0, 0, rfl⟩
  | some p => exact ⟨true, p.1, p.2, rfl⟩
theorem oL_map {E : Env} {s : Bool} {L H : Int} (h1 : E.i 12 = L) (h2 : E.i 14 = H) : (if s then some (L, H) else none) = (oL s).map fun p => (p.1.den E, p.2.den E) := by
  cases s
  · rfl
  · show some (L, H) = some (E.i 12, E.i 14)
    rw [h1, h2]
theorem oF_map {E : Env} {s : Bool} {L H : Int} (h1 : E.i 16 = L) (h2 : E.i 18 = H) : (if s then some (L, H) else none) = (oF s).map fun p => (p.1.den E, p.2.den E) := by
  cases s
  · rfl
  · show some (L, H) = some (E.i 16, E.i 18)
    rw [h1, h2]
def qsg (A B C D M N : Rat) : Int := if M.num < 0 ∨ N.num < 0 then 0 else sg4 A B C D M N
def isQ6 : AV → Bool
  | .val true [x0, x1, x2, x3, x4, x5, x6, x7, x8, x9, x10, x11] => isQw 0 [x0, x1] && (isQw 2 [x2, x3] && (isQw 4 [x4, x5] && (isQw 6 [x6, x7] && (isQw 8 [x8, x9] && isQw 10 [x10, x11]))))
  | _ => false
def rIB (z : Int) (b : Bool) : AV := .tup [(false, [.n .i64 (.lit z)]), (false, [.b (.lit b)])]
def rNq (z : Int) : AV := .val false [.n .i64 (.lit z)]
def isNl (z : Int) : Tree → Bool
  | .leaf [(false, [.n .i64 (.lit x)])] => x == z
  | .leaf _ => false
  | .ite _ t e => isNl z t && isNl z e
def isNlo (z : Int) : Option Tree → Bool
  | some T => isNl z T
  | none => false
theorem isNl_pick {E : Env} {z : Int} : ∀ {T : Tree}, isNl z T = true → T.pick E = [(false, [.n .i64 (.lit z)])] := by
  intro T
  induction T with
  | leaf l =>
    intro h
    unfold isNl at h
    split at h
    · rename_i x e
      cases e
      simp only [beq_iff_eq] at h
      rw [h]
      rfl
    · cases h
    · rename_i e
      cases e
  | ite c t e iht ihe =>
    intro h
    simp only [isNl, Bool.and_eq_true] at h
    simp only [Tree.pick]
    split
    · exact iht h.1
    · exact ihe h.2
def sgs : List Int := [1, 0, -1]
theorem sgs_mem {z : Int} (h : z = 1 ∨ z = 0 ∨ z = -1) : z ∈ sgs := by rcases h with rfl | rfl | rfl <;> decide
end Go.Proofs.YtifeacfljfmnpaaGreat
end

section
set_option maxRecDepth 100000
namespace Go.Proofs.YtifeacfljfmnpaaGreat
open Go.RowKit
end Go.Proofs.YtifeacfljfmnpaaGreat
end

section
set_option maxRecDepth 100000
namespace Go.Proofs.YtifeacfljfmnpaaGreat
open Go.RowKit
end Go.Proofs.YtifeacfljfmnpaaGreat
end

section
set_option maxRecDepth 100000
namespace Go.Proofs.YtifeacfljfmnpaaGreat
open Go.RowKit
def t6 : List IT2 → List Chunk → Bool
  | [], [] => true
  | t :: ts, .int x _ :: .int y _ :: cs => x.beq t.1 && (y.beq t.2 && t6 ts cs)
  | _, _ => false
def c6 (ts : List IT2) : List AV → Bool
  | [.val true cs] => t6 ts cs
  | _ => false
def Reps (E : Env) : List IT2 → List Rat → Prop
  | [], [] => True
  | t :: ts, q :: qs => RepQ E t q ∧ Reps E ts qs
  | _, _ => False
theorem t6_holds {E : Env} {w : World} : ∀ {ts : List IT2} {cs : List Chunk} {qs : List Rat} {vs : List Value}, Reps E ts qs → t6 ts cs = true → chunks E w cs vs → RatsQ w vs qs
  | [], cs, [], vs, _, h, hc => by
    unfold t6 at h
    split at h
    · exact hc
    · contradiction
    · cases h
  | [], _, _ :: _, _, hr, _, _ => hr.elim
  | _ :: _, _, [], _, hr, _, _ => hr.elim
  | t :: ts, cs, q :: qs, vs, hr, h, hc => by
    unfold t6 at h
    split at h
    · contradiction
    · rename_i t' ts' x l y m cs' e
      cases e
      simp only [Bool.and_eq_true] at h
      obtain ⟨h1, h2, h3⟩ := h
      have e1 := IT.eq_of_beq h1
      have e2 := IT.eq_of_beq h2
      subst e1 e2
      obtain ⟨x, r, rfl, k1, k2⟩ := (two_chunks hr.1).1 hc
      exact ⟨x, r, rfl, k1.1, t6_holds hr.2 h3 k2⟩
    · cases h
theorem known6 {E : Env} {f : Nat} {ts : List IT2} {qs : List Rat} {z : Int} (hr : Reps E ts qs) (h : ∀ (w : World) (v : Value), IsQs w v qs → Calls Tryz.prog f #[v] w (RetN z w)) : KnownQ E f (c6 ts) (rNq z) := by
  refine ⟨?_, fun x off e => by cases e⟩
  intro args hc' β w vs hv hl
  unfold c6 at hc'
  split at hc'
  · obtain ⟨v, rfl, us, rfl, h1⟩ := args1 hv hl
    refine (h w _ ⟨us, rfl, t6_holds hr hc' h1⟩).mono ?_
    rintro e w' ⟨rfl, ex⟩
    exact ⟨_, rfl, fun β w' => z9q.2 rfl, ex⟩
  · cases hc'
def cfgZr (C : Cfg) (l : List (TypeId × List Chunk)) : Cfg := { C with zero := fun t => match findR l t with | some e => some e | none => C.zero t }
theorem cfgZr_ok {E : Env} {C : Cfg} {l : List (TypeId × List Chunk)} (h : CfgOK Tryz.prog E C) (hl : ZeroOK Tryz.prog l) : CfgOK Tryz.prog E (cfgZr C l) := by
  refine ⟨?_, h.ag, h.fld, h.flds, h.bool, h.row, h.arr, h.calls, h.nptr, h.body, h.slc, h.strT, h.cnv, h.apd, h.eq2, h.fty⟩
  intro t cs ht w
  simp only [cfgZr] at ht
  split at ht
  · rename_i e' he
    injection ht with ht
    subst ht
    exact hl.all _ (findR_spec he) E w
  · exact h.zero t cs ht w
def zInt2 : List Chunk := [.int (.lit 0) 0, .int (.lit 0) 0]
theorem LimQ.mul' {l m k j : Nat} {a b : Rat} (h1 : Lim l a.num) (h2 : Lim m (a.den : Int)) (h3 : Lim k b.num) (h4 : Lim j (b.den : Int)) : Lim (l + k) (a * b).num ∧ Lim (m + j) ((a * b).den : Int) := by
  obtain ⟨m1, m2⟩ := mul_dq a b
  rw [← m1, ← m2]
  exact ⟨(h1.natAbs_le (dq_abs _ _)).mul (h3.natAbs_le (dq_abs _ _)), (h2.natAbs_le (dq_abs _ _)).mul (h4.natAbs_le (dq_abs _ _))⟩
theorem LimQ.sub' {l m k j n : Nat} {a b : Rat} (h1 : Lim l a.num) (h2 : Lim m (a.den : Int)) (h3 : Lim k b.num) (h4 : Lim j (b.den : Int)) (e1 : l + j < n) (e2 : k + m < n) : Lim n (a - b).num ∧ Lim (m + j) ((a - b).den : Int) := by
  rw [Rat.sub_eq_add_neg]
  have h3' : Lim k (-b).num := by rw [Rat.neg_num]; exact h3.neg
  have h4' : Lim j ((-b).den : Int) := h4
  obtain ⟨m1, m2⟩ := sum_dq a (-b) _ rfl
  rw [← m1, ← m2]
  refine ⟨Lim.natAbs_le ?_ (dq_abs _ _), (h2.natAbs_le (dq_abs _ _)).mul (h4'.natAbs_le (dq_abs _ _))⟩
  exact ((h1.mul (h4'.natAbs_le (dq_abs _ _))).add2 (h3'.mul (h2.natAbs_le (dq_abs _ _)))).mono (by omega)
end Go.Proofs.YtifeacfljfmnpaaGreat
end

section
set_option maxRecDepth 100000
namespace Go.Proofs.YtifeacfljfmnpaaGreat
open Go.RowKit
theorem qsg_range (A B C D M N : Rat) : qsg A B C D M N = 1 ∨ qsg A B C D M N = 0 ∨ qsg A B C D M N = -1 := by
  unfold qsg
  split
  · exact .inr (.inl rfl)
  · exact sg4_range _ _ _ _ _ _
end Go.Proofs.YtifeacfljfmnpaaGreat
end

section
set_option maxRecDepth 100000
namespace Go.Proofs.YtifeacfljfmnpaaGreat
open Go.RowKit
noncomputable def iC2 : List (Nat × Func) := [(204, Tryz.f204)]
noncomputable def tabSb : List (Nat × Con) := tabR2 ++ (tabInt ++ tabT)
theorem tabSb_ok {E : Env} (hE : QEnv E) : TabOK Tryz.prog E tabSb := TabOK.app tabR2_ok (TabOK.app tabInt_ok (tabT_ok hE))
def aRo (i : Nat) : AV := .val true (rt (qI i) (qI (i + 2)) (qI (i + 4)) 9)
def cmTs : List IT2 := [qop 1 (qI 0) (qI 6), qI 2, (.a1 0 (.var 8), .var 9), (.lit 0, .lit 1), qI 4, qI 10]
theorem cm_reps {E : Env} {a b c a' b' c' : Rat} (h1 : RepQ E (qI 0) a) (h2 : RepQ E (qI 2) b) (h3 : RepQ E (qI 4) c) (h4 : RepQ E (qI 6) a') (h5 : RepQ E (qI 8) b') (h6 : RepQ E (qI 10) c') : Reps E cmTs [a - a', b, -b', 0, c, c'] := by
  refine ⟨rep_op (f := 1) (by omega) h1 h4, h2, ⟨?_, ?_⟩, ⟨rfl, rfl⟩, h3, h6, trivial⟩
  · show -(E.i 8) = _
    rw [Rat.neg_num, show E.i 8 = b'.num from h5.1]
  · exact h5.2
theorem sub_lims {a b c a' b' c' : Rat} (l : LimR 9 a b c) (l' : LimR 9 a' b' c') : LimQs 40 [a - a', b, -b', 0, c, c'] := by
  have a1 := LimQ.sub' (n := 20) l.1.1 l.1.2 l'.1.1 l'.1.2 (by omega) (by omega)
  have a2 : Lim 9 (-b').num := by rw [Rat.neg_num]; exact l'.2.1.1.neg
  have a3 : Lim 9 ((-b').den : Int) := l'.2.1.2
  intro x hx
  simp only [List.mem_cons, List.not_mem_nil, or_false] at hx
  rcases hx with rfl | rfl | rfl | rfl | rfl | rfl
  · exact ⟨a1.1.mono (by omega), a1.2.mono (by omega)⟩
  · exact ⟨l.2.1.1.mono (by omega), l.2.1.2.mono (by omega)⟩
  · exact ⟨a2.mono (by omega), a3.mono (by omega)⟩
  · refine ⟨?_, ?_⟩ <;> unfold Lim <;> decide +kernel
  · exact ⟨l.2.2.1.mono (by omega), l.2.2.2.mono (by omega)⟩
  · exact ⟨l'.2.2.1.mono (by omega), l'.2.2.2.mono (by omega)⟩
def cmR (a b c a' b' c' : Rat) : Int := qsg (a - a') b (-b') 0 c c'
theorem two_roots {E : Env} {w : World} {v u : Value} {a b c a' b' c' : Rat} (h1 : RepQ E (qI 0) a) (h2 : RepQ E (qI 2) b) (h3 : RepQ E (qI 4) c) (h4 : RepQ E (qI 6) a') (h5 : RepQ E (qI 8) b') (h6 : RepQ E (qI 10) c') (hv : z16q w v a b c) (hu : z16q w u a' b' c') (l : LimR 9 a b c) (l' : LimR 9 a' b' c') :
    ∀ (i : Nat) (x : AV), [aRo 0, aRo 6][i]? = some x → ∃ β y, [v, u][i]? = some y ∧ x.holds E β w y := by
  intro i x hx
  match i, hx with
  | 0, hx => injection hx with hx; subst hx; exact ⟨fun _ => 0, v, rfl, (one_root (A := qI 0) (B := qI 2) (C := qI 4) h1 h2 h3).2 ⟨hv, l⟩⟩
  | 1, hx => injection hx with hx; subst hx; exact ⟨fun _ => 0, u, rfl, (one_root (A := qI 6) (B := qI 8) (C := qI 10) h4 h5 h6).2 ⟨hu, l'⟩⟩
end Go.Proofs.YtifeacfljfmnpaaGreat
end

section
set_option maxRecDepth 100000
namespace Go.Proofs.YtifeacfljfmnpaaGreat
open Go.RowKit
noncomputable def tabCf (b d : Bool) : List (Nat × Con) := (190, kKq (chkRw 0 2 4) (resQ (oL b)) (kKq (chkRw 6 8 10) (resQ (oF d)) kNoQ)) :: tabFq
noncomputable def cCf0 (b d : Bool) : Cfg := cfgN (cfgOf (tabCf b d)) needFq
noncomputable def cCf1 (b d : Bool) : Cfg := cfgI (cCf0 b d) (cCf0 b d) [(238, Tryz.f238)]
noncomputable def cCf (b d : Bool) : Cfg := cfgI (cCf1 b d) (cCf1 b d) [(194, Tryz.f194)]
def cfL : IT := .a2 0 (.var 12) (.a1 0 (.var 18))
def cfH : IT := .a2 0 (.var 14) (.a1 0 (.var 16))
def tsCf : Asm := [(exT cfL cfH, true)]
noncomputable def cfW (b d : Bool) (z : Int) (c : Bool) (G : Asm) : Bool := isIBo z c (funE (cCf b d) Tryz.f144 G [aRo 0, aRo 6])
theorem cf_none : (cfW false false 0 false [] && (cfW false true 0 false [] && cfW true false 0 false [])) = true := by kernel_rfl
theorem cf_no : ((List.range 1).all fun i => cfW true true 0 false (gLF ++ flipAt tsCf i)) = true := by kernel_rfl
theorem cf_all : ((List.range 4).all fun n => cfW true true (sgnN n) (decide (n < 3)) (gLF ++ (tsCf ++ sgnG cfL cfH n))) = true := by kernel_rfl
structure FastC (a b c a' b' c' : Rat) (z : Int) (t : Bool) : Prop where
  calls : ∀ (w : World) (v u : Value), z16q w v a b c → z16q w u a' b' c' → LimR 9 a b c → LimR 9 a' b' c' → Calls Tryz.prog 144 #[v, u] w (RetIB z t w)
  right : t = true → 0 ≤ c → 0 ≤ c' → z = cmR a b c a' b' c'
  zero : t = false → z = 0
theorem cmR_sg {a b c a' b' c' : Rat} {m n : Sq} (hc : 0 ≤ c) (hc' : 0 ≤ c') (hm : IsRt c m) (hn : IsRt c' n) : HasSg (fun k => (a + b * m k) - (a' + b' * n k)) (cmR a b c a' b' c') := by
  have h := sqv4 (A := a - a') (B := b) (C := -b') (D := 0) hc hc' hm hn
  have e : cmR a b c a' b' c' = sg4 (a - a') b (-b') 0 c c' := if_neg (by have := Rat.num_nonneg.2 hc; have := Rat.num_nonneg.2 hc'; omega)
  rw [e]
  have f : (fun k => (a + b * m k) - (a' + b' * n k)) = fun k => a - a' + b * m k + (-b' + 0 * m k) * n k := funext fun k => by grind
  rw [f]
  exact h
theorem fast_c (a b c a' b' c' : Rat) : ∃ z t, FastC a b c a' b' c' z t := by
  obtain ⟨u1, hu1⟩ := root_q a b c
  obtain ⟨u2, hu2⟩ := root_q a' b' c'
  obtain ⟨s1, L1, H1, e1⟩ := opt_ifq u1
  obtain ⟨s2, L2, H2, e2⟩ := opt_ifq u2
  obtain ⟨E, hE⟩ : ∃ E, E = qE [a, b, c, a', b', c', (L1 : Rat), (H1 : Rat), (L2 : Rat), (H2 : Rat)] := ⟨_, rfl⟩
  have hQ : QEnv E := by rw [hE]; exact qE_ok _
  have r1 : RepQ E (qI 0) a := by rw [hE]; exact ⟨rfl, rfl⟩
  have r2 : RepQ E (qI 2) b := by rw [hE]; exact ⟨rfl, rfl⟩
  have r3 : RepQ E (qI 4) c := by rw [hE]; exact ⟨rfl, rfl⟩
  have r4 : RepQ E (qI 6) a' := by rw [hE]; exact ⟨rfl, rfl⟩
  have r5 : RepQ E (qI 8) b' := by rw [hE]; exact ⟨rfl, rfl⟩
  have r6 : RepQ E (qI 10) c' := by rw [hE]; exact ⟨rfl, rfl⟩
  have e12 : E.i 12 = L1 := by rw [hE]; exact qE_int (i := 6) rfl
  have e14 : E.i 14 = H1 := by rw [hE]; exact qE_int (i := 7) rfl
  have e16 : E.i 16 = L2 := by rw [hE]; exact qE_int (i := 8) rfl
  have e18 : E.i 18 = H2 := by rw [hE]; exact qE_int (i := 9) rfl
  have o1 := e1.trans (oL_map (E := E) (s := s1) e12 e14)
  have o2 := e2.trans (oF_map (E := E) (s := s2) e16 e18)
  have hC : CfgOK Tryz.prog E (cCf s1 s2) := by
    have hT : TabOK Tryz.prog E (tabCf s1 s2) := .cons (kKq_ok (knownq_root r1 r2 r3 hu1.prog o1) (kKq_ok (knownq_root r4 r5 r6 hu2.prog o2) (z18q ⟨_, Tryz.func190, by decide +kernel, by kernel_rfl⟩))) (tabFq_ok hQ)
    have h0 : CfgOK Tryz.prog E (cCf0 s1 s2) := cfgN_ok (cfg_ok hT)
    have h1 : CfgOK Tryz.prog E (cCf1 s1 s2) := cfgI_ok mixed h0 h0 (fun _ => trivial) (.cons Tryz.func238 (by decide +kernel) (by kernel_rfl) .nil)
    exact cfgI_ok mixed h1 h1 (fun _ => trivial) (.cons Tryz.func194 (by decide +kernel) (by kernel_rfl) .nil)
  have fin : ∀ (G : Asm) (z : Int) (t : Bool), G.holds E → cfW s1 s2 z t G = true → ∀ (w : World) (v u : Value), z16q w v a b c → z16q w u a' b' c' → LimR 9 a b c → LimR 9 a' b' c' → Calls Tryz.prog 144 #[v, u] w (RetIB z t w) := by
    intro G z t hG hT w v u hv hu l l'
    unfold cfW isIBo at hT
    split at hT
    · rename_i T hT'
      refine (z5q mixed hC hG Tryz.func144 (by decide +kernel) hT' (by decide +kernel) rfl w [v, u] rfl (two_roots r1 r2 r3 r4 r5 r6 hv hu l l')).mono ?_
      rintro e w' ⟨β, x, rfl, hh, ex⟩
      rw [isIB_pick hT] at hh
      rw [IB_out hh]
      exact ⟨rfl, ex⟩
    · cases hT
  have hno := cf_none
  rw [Bool.and_eq_true, Bool.and_eq_true] at hno
  cases s1 with
  | false =>
    cases s2 with
    | false => exact ⟨0, false, fin _ _ _ z8q hno.1, (fun h => by cases h), fun _ => rfl⟩
    | true => exact ⟨0, false, fin _ _ _ z8q hno.2.1, (fun h => by cases h), fun _ => rfl⟩
  | true =>
    cases s2 with
    | false => exact ⟨0, false, fin _ _ _ z8q hno.2.2, (fun h => by cases h), fun _ => rfl⟩
    | true =>
      obtain ⟨q1, in1⟩ := hu1.holds L1 H1 e1
      obtain ⟨q2, in2⟩ := hu2.holds L2 H2 e2
      have gxy : gLF.holds E := asm_app (gTy_ok e12 e14 q1) (gTy_ok e16 e18 q2)
      rcases first_bad (E := E) tsCf with hall | ⟨i, hi, hbad⟩
      · have dl : cfL.den E = L1 + -H2 := by
          show E.i 12 + -(E.i 18) = _
          rw [e12, e18]
        have dh : cfH.den E = H1 + -L2 := by
          show E.i 14 + -(E.i 16) = _
          rw [e14, e16]
        obtain ⟨n, hn, hg, hk⟩ := sgnG_ok dl dh
        refine ⟨sgnN n, decide (n < 3), fin _ _ _ (asm_app gxy <| asm_app hall hg) (List.all_eq_true.1 cf_all n (List.mem_range.2 hn)), fun h hM hN => ?_, fun h => ?_⟩
        rotate_left
        · have h4 := of_decide_eq_false h
          match n, hn, h4 with
          | 3, _, _ => rfl
          | 0, _, h4 => exact absurd (by omega) h4
          | 1, _, h4 => exact absurd (by omega) h4
          | 2, _, h4 => exact absurd (by omega) h4
        have h3 := of_decide_eq_true h
        obtain ⟨m, hm⟩ := exists_rt hM
        obtain ⟨k, hk2⟩ := exists_rt hN
        have hin := (in1 m hM hm).add (in2 k hN hk2).neg
        refine (ivSg_spec (hk h3) hin).unique ?_
        have := cmR_sg (a := a) (b := b) (a' := a') (b' := b') hM hN hm hk2
        simpa only [Rat.sub_eq_add_neg] using this
      · exact ⟨0, false, fin _ _ _ (asm_app gxy hbad) (List.all_eq_true.1 cf_no i (List.mem_range.2 hi)), (fun h => by cases h), fun _ => rfl⟩
end Go.Proofs.YtifeacfljfmnpaaGreat
end

section
set_option maxRecDepth 100000
namespace Go.Proofs.YtifeacfljfmnpaaGreat
open Go.RowKit
noncomputable def cId : Cfg := cfgI (cfgOf tabSb) (cfgOf tabSb) [(201, Tryz.f201)]
def eqz (i j : Nat) : BT := .eq (.a2 3 (.var i) (.var j)) (.lit 0)
def idT : List (Nat × Nat) → Tree
  | [] => .leaf [(false, [.b (.lit true)])]
  | [p] => .leaf [(false, [.b (eqz p.1 p.2)])]
  | p :: l => .ite (eqz p.1 p.2) (idT l) (.leaf [(false, [.b (.lit false)])])
def idL : List (Nat × Nat) := [(0, 6), (1, 7), (2, 8), (3, 9), (4, 10), (5, 11)]
theorem id_walk : funE cId Tryz.f145 [] [aRo 0, aRo 6] = some (idT idL) := by kernel_rfl
theorem eqz_den {E : Env} {i j : Nat} : (eqz i j).den E = true ↔ E.i i = E.i j := by
  show (cmpZ (E.i i) (E.i j) == 0) = true ↔ _
  rw [beq_iff_eq]
  rcases z2q (E.i i) (E.i j) with ⟨a, e⟩ | ⟨a, e⟩ | ⟨a, e⟩ <;> rw [e] <;> omega
theorem id_pick {E : Env} : ∀ l : List (Nat × Nat), ∃ t, (idT l).pick E = [(false, [.b t])] ∧ (t.den E = true ↔ ∀ p ∈ l, E.i p.1 = E.i p.2)
  | [] => ⟨_, rfl, ⟨fun _ p hp => (by cases hp), fun _ => rfl⟩⟩
  | [p] => ⟨_, rfl, by rw [eqz_den]; simp⟩
  | p :: q :: l => by
    obtain ⟨t, h1, h2⟩ := id_pick (E := E) (q :: l)
    by_cases h : (eqz p.1 p.2).den E = true
    · refine ⟨t, ?_, ?_⟩
      · simp only [idT, Tree.pick, h, if_true]
        exact h1
      · rw [h2, List.forall_mem_cons (a := p)]
        exact ⟨fun k => ⟨eqz_den.1 h, k⟩, fun k => k.2⟩
    · refine ⟨.lit false, ?_, ?_⟩
      · simp only [idT, Tree.pick, h]
        rfl
      · rw [List.forall_mem_cons (a := p)]
        exact ⟨fun k => (by cases k), fun k => absurd (eqz_den.2 k.1) h⟩
def RetBl (b : Bool) (w : World) (e : Ending) (w' : World) : Prop := e = .returned (.bool b) ∧ Ext w w'
theorem ident_calls (w : World) (v u : Value) (a b c a' b' c' : Rat) (hv : z16q w v a b c) (hu : z16q w u a' b' c') (l : LimR 9 a b c) (l' : LimR 9 a' b' c') :
    Calls Tryz.prog 145 #[v, u] w (RetBl (decide (a = a' ∧ b = b' ∧ c = c')) w) := by
  obtain ⟨E, hE⟩ : ∃ E, E = qE [a, b, c, a', b', c'] := ⟨_, rfl⟩
  have hQ : QEnv E := by rw [hE]; exact qE_ok _
  have r1 : RepQ E (qI 0) a := by rw [hE]; exact ⟨rfl, rfl⟩
  have r2 : RepQ E (qI 2) b := by rw [hE]; exact ⟨rfl, rfl⟩
  have r3 : RepQ E (qI 4) c := by rw [hE]; exact ⟨rfl, rfl⟩
  have r4 : RepQ E (qI 6) a' := by rw [hE]; exact ⟨rfl, rfl⟩
  have r5 : RepQ E (qI 8) b' := by rw [hE]; exact ⟨rfl, rfl⟩
  have r6 : RepQ E (qI 10) c' := by rw [hE]; exact ⟨rfl, rfl⟩
  have hC : CfgOK Tryz.prog E cId := cfgI_ok mixed (cfg_ok (tabSb_ok hQ)) (cfg_ok (tabSb_ok hQ)) (fun _ => trivial) (.cons Tryz.func201 (by decide +kernel) (by kernel_rfl) .nil)
  obtain ⟨t, ht, hd⟩ := id_pick (E := E) idL
  refine (z5q mixed hC z8q Tryz.func145 (by decide +kernel) id_walk (by decide +kernel) rfl w [v, u] rfl (two_roots r1 r2 r3 r4 r5 r6 hv hu l l')).mono ?_
  rintro e w' ⟨β, x, rfl, hh, ex⟩
  rw [ht] at hh
  have hx := z11q.1 hh
  refine ⟨?_, ex⟩
  rw [hx]
  have key : t.den E = decide (a = a' ∧ b = b' ∧ c = c') := by
    rw [Bool.eq_iff_iff, hd, decide_eq_true_iff]
    have s : ∀ {i j : Nat} {x y : Rat}, RepQ E (qI i) x → RepQ E (qI j) y → ((E.i i = E.i j ∧ E.i (i + 1) = E.i (j + 1)) ↔ x = y) := by
      intro i j x y hx hy
      rw [show E.i i = x.num from hx.1, show E.i j = y.num from hy.1, show E.i (i + 1) = (x.den : Int) from hx.2, show E.i (j + 1) = (y.den : Int) from hy.2]
      exact ⟨fun k => Rat.ext k.1 (Int.ofNat.inj k.2), fun k => by rw [k]; exact ⟨rfl, rfl⟩⟩
    rw [← s r1 r4, ← s r2 r5, ← s r3 r6]
    simp only [idL, List.forall_mem_cons, List.not_mem_nil, false_imp_iff, implies_true, and_true, and_assoc]
  rw [key]
structure KnownR (E : Env) (f : Nat) (chk : List AV → Bool) (r : AV) : Prop where
  calls : ∀ args, chk args = true → ∀ (β : Nat → Nat) (w : World) (vs : List Value), (∀ (i : Nat) (x : AV), args[i]? = some x → ∃ v, vs[i]? = some v ∧ x.holds E β w v) → vs.length = args.length → Calls Tryz.prog f vs.toArray w fun e w' => ∃ v, e = .returned v ∧ (∀ β, r.holds E β w' v) ∧ Ext w w'
  np : ∀ x off, r ≠ .ptr x off
theorem z17q {E : Env} {f : Nat} {chk : List AV → Bool} {r : AV} {k : Con} (h : KnownR E f chk r) (hk : ConOK Tryz.prog E f k) : ConOK Tryz.prog E f (kKq chk r k) := by
  refine ⟨?_, ?_, hk.body⟩
  · intro args G s hs hG β w vs hv hl
    unfold kKq at hs
    split at hs
    · rename_i hc
      injection hs with hs
      subst hs
      refine (h.calls args hc β w vs hv hl).mono ?_
      rintro e w' ⟨v, rfl, h1, h2⟩
      exact ⟨v, rfl, h1 _, h2⟩
    · exact hk.calls args G s hs hG β w vs hv hl
  · intro args G s hs x off
    unfold kKq at hs
    split at hs
    · injection hs with hs
      subst hs
      exact h.np x off
    · exact hk.nptr args G s hs x off
end Go.Proofs.YtifeacfljfmnpaaGreat
end

section
set_option maxRecDepth 100000
namespace Go.Proofs.YtifeacfljfmnpaaGreat
open Go.RowKit
def sqG (b : Bool) : BT × Bool := (.and (sqT (qv 2).1) (sqT (qv 2).2), b)
noncomputable def tbV : List (Nat × Con) := [(124, kVl), (18, kVl), (125, kSqQ), (73, kSqQ)]
theorem tbV_ok {E : Env} (hE : QEnv E) : TabOK Tryz.prog E tbV :=
  .cons (kVl_ok hE (fun w v s1 s2 xs1 xs2 h l1 l2 => valid_rat_calls w v s1 s2 xs1 xs2 h l1 l2) ⟨_, Tryz.func124, by decide +kernel, by kernel_rfl⟩)
    (.cons (kVl_ok hE (fun w v s1 s2 xs1 xs2 h l1 l2 => rvalid_rat_calls w v s1 s2 xs1 xs2 h l1 l2) ⟨_, Tryz.func18, by decide +kernel, by kernel_rfl⟩)
      (.cons (kSqQ_ok (fun w v n d h l m => sqrtQ_calls w v n d h l m) ⟨_, Tryz.func125, by decide +kernel, by kernel_rfl⟩)
        (.cons (kSqQ_ok (fun w v n d h l m => rsqrtQ_calls w v n d h l m) ⟨_, Tryz.func73, by decide +kernel, by kernel_rfl⟩) .nil)))
def lfB (t : BT) : Tree := .leaf [(false, [.b t])]
theorem lfB_out {E : Env} {β : Nat → Nat} {w : World} {v : Value} {t : BT} (h : (toAV ((lfB t).pick E)).holds E β w v) : v = .bool (t.den E) := z11q.1 h
theorem sq_test {c : Rat} (h : 0 < c) : (sqB c.num && sqB (c.den : Int)) = (sqz c.num && sqz (c.den : Int)) := by
  have := (num_pos_iff c).2 h
  rw [sqz_sqB (by omega), sqz_sqB (by have := c.den_pos; omega)]
section
variable {w : World} {v : Value} {a b c : Rat}
theorem sqG_den (x : Bool) : (sqG x).1.den (qE [a, b, c]) = (sqB c.num && sqB (c.den : Int)) := by
  show ((sqT (qv 2).1).den _ && (sqT (qv 2).2).den _) = _
  rw [sqT_den, sqT_den]; rfl
theorem gtz_den {E : Env} {p : IT2} {q : Rat} (h : RepQ E p q) : (BT.lt (.lit 0) (sgt p)).den E = decide (0 < q) := by
  show decide (0 < (sgt p).den E) = _
  rw [sgt_den h, Bool.eq_iff_iff, decide_eq_true_iff, decide_eq_true_iff]
  rcases sgQ_cases q with ⟨k, e⟩ | ⟨k, e⟩ | ⟨k, e⟩ <;> rw [e] <;> constructor <;> intro j <;> first | omega | grind
theorem Rdb_cases (b c : Rat) : Rdb b c = if b = 0 then decide (c = 0) else if 0 < c then !(sqB c.num && sqB (c.den : Int)) else false := by
  have n1 : b.num = 0 ↔ b = 0 := Rat.num_eq_zero
  have n2 : c.num = 0 ↔ c = 0 := Rat.num_eq_zero
  have n3 := num_pos_iff c
  unfold Rdb
  by_cases hb : b = 0
  · rw [if_pos hb]
    subst hb
    show ((true && (c.num == 0)) || (false && _)) = _
    rw [Bool.true_and, Bool.false_and, Bool.or_false, Bool.eq_iff_iff, beq_iff_eq, decide_eq_true_iff, n2]
  · rw [if_neg hb]
    have e : (b.num == 0) = false := by rw [beq_eq_false_iff_ne]; exact fun k => hb (n1.1 k)
    have e2 : (b.num != 0) = true := by rw [bne_iff_ne]; exact fun k => hb (n1.1 k)
    rw [e, e2, Bool.false_and, Bool.false_or, Bool.true_and]
    by_cases hc : 0 < c
    · rw [if_pos hc, decide_eq_true (n3.2 hc), Bool.true_and, sq_test hc]
    · rw [if_neg hc, decide_eq_false (fun k => hc (n3.1 k)), Bool.false_and]
def vaT (b : Bool) : Tree := .ite (zt (qv 1)) (lfB (zt (qv 2))) (.ite (.lt (.lit 0) (sgt (qv 2))) (lfB (.lit b)) (lfB (.lit false)))
theorem vaT_out {β : Nat → Nat} {w' : World} {y : Value} {x : Bool} (hx : (sqB c.num && sqB (c.den : Int)) = !x) (hh : (toAV ((vaT x).pick (qE [a, b, c]))).holds (qE [a, b, c]) β w' y) : y = .bool (Rdb b c) := by
  obtain ⟨ra, rb, rc⟩ := rep3 (a := a) (b := b) (c := c)
  unfold vaT at hh
  rw [ite_pick (zt_den rb), ite_pick (gtz_den rc)] at hh
  rw [Rdb_cases]
  by_cases hb : b = 0
  · rw [decide_eq_true hb, if_pos rfl] at hh
    rw [lfB_out hh, zt_den rc, if_pos hb]
  · rw [decide_eq_false hb, if_neg (by decide)] at hh
    rw [if_neg hb]
    by_cases hc : 0 < c
    · rw [decide_eq_true hc, if_pos rfl] at hh
      rw [lfB_out hh, if_pos hc, hx, Bool.not_not]; rfl
    · rw [decide_eq_false hc, if_neg (by decide)] at hh
      rw [lfB_out hh, if_neg hc]; rfl
theorem sqG_holds {x : Bool} (h : (sqB c.num && sqB (c.den : Int)) = x) : Asm.holds (qE [a, b, c]) [sqG x] := by
  intro p hp
  simp only [List.mem_cons, List.not_mem_nil, or_false] at hp
  subst hp
  rw [sqG_den, h]; rfl
theorem p_valid (h : z16q w v a b c) (l : LimR 100 a b c) : Calls Tryz.prog 74 #[v] w fun e w' => e = .returned (.bool (Rdb b c)) ∧ Ext w w' := by
  cases hx : (sqB c.num && sqB (c.den : Int)) with
  | true =>
    refine (walk1 (l := [a, b, c]) (tab := tbV) (x := aRl 0 100) (G := [sqG true]) (T := vaT false) Tryz.func74 (by decide +kernel) (tbV_ok (qE_ok _)) (sqG_holds hx) (by kernel_rfl) (by decide +kernel) rfl w v (fun _ => aRl_holds h l)).mono ?_
    rintro e w' ⟨β, y, rfl, hh, ex⟩
    rw [vaT_out (by rw [hx]; rfl) hh]
    exact ⟨rfl, ex⟩
  | false =>
    refine (walk1 (l := [a, b, c]) (tab := tbV) (x := aRl 0 100) (G := [sqG false]) (T := vaT true) Tryz.func74 (by decide +kernel) (tbV_ok (qE_ok _)) (sqG_holds hx) (by kernel_rfl) (by decide +kernel) rfl w v (fun _ => aRl_holds h l)).mono ?_
    rintro e w' ⟨β, y, rfl, hh, ex⟩
    rw [vaT_out (by rw [hx]; rfl) hh]
    exact ⟨rfl, ex⟩
end
section
variable {w : World} {v : Value} {p1 p2 p3 p4 p5 p6 : RI}
end
end Go.Proofs.YtifeacfljfmnpaaGreat
end

section
set_option maxRecDepth 100000
namespace Go.Proofs.YtifeacfljfmnpaaGreat
open Go.RowKit
def kTru : Con
  | [], _ => some (.val false [.b (.lit true)])
  | _, _ => none
def b12 (i l : Nat) : AV := .val true [.int (.var i) l, .int (.var (i + 1)) l, .int (.var (i + 2)) l, .int (.var (i + 3)) l, .int (.var (i + 4)) l, .int (.var (i + 5)) l]
theorem int_conv {E E' : Env} {w : World} {s t : IT} {l m : Nat} {vs : List Value} (h : (Chunk.int s l).holds E w vs) (e : t.den E' = s.den E) (k : l ≤ m) : (Chunk.int t m).holds E' w vs := by
  obtain ⟨x, y, rfl, h1, h2⟩ := h
  exact ⟨x, y, rfl, by rw [e]; exact h1, by rw [e]; exact h2.mono k⟩
def smT6 (x1 x2 x3 x4 x5 x6 y1 y2 y3 y4 y5 y6 : IT) : BT := .and (.and (.eq x1 y1) (.eq x2 y2)) (.and (.and (.eq x3 y3) (.eq x4 y4)) (.and (.eq x5 y5) (.eq x6 y6)))
def kRSm : Con
  | [.val true [.int x1 l1, .int x2 l2, .int x3 l3, .int x4 l4, .int x5 l5, .int x6 l6], .val true [.int y1 m1, .int y2 m2, .int y3 m3, .int y4 m4, .int y5 m5, .int y6 m6]], _ =>
    if (decide (l1 ≤ 100000) && (decide (l2 ≤ 100000) && (decide (l3 ≤ 100000) && (decide (l4 ≤ 100000) && (decide (l5 ≤ 100000) && decide (l6 ≤ 100000)))))) && (decide (m1 ≤ 100000) && (decide (m2 ≤ 100000) && (decide (m3 ≤ 100000) && (decide (m4 ≤ 100000) && (decide (m5 ≤ 100000) && decide (m6 ≤ 100000)))))) then
      some (.val false [.b (smT6 x1 x2 x3 x4 x5 x6 y1 y2 y3 y4 y5 y6)]) else none
  | _, _ => none
theorem kRSm_ok {E : Env} : ConOK Tryz.prog E 37 kRSm := by
  refine ⟨?_, ?_, ⟨_, Tryz.func37, by decide +kernel, by kernel_rfl⟩⟩
  · intro args G r h hG β w vs hv hlen
    unfold kRSm at h
    split at h
    · rename_i x1 l1 x2 l2 x3 l3 x4 l4 x5 l5 x6 l6 y1 m1 y2 m2 y3 m3 y4 m4 y5 m5 y6 m6
      split at h
      · rename_i hcd
        simp only [Bool.and_eq_true, decide_eq_true_iff] at hcd
        obtain ⟨⟨a1, a2, a3, a4, a5, a6⟩, b1, b2, b3, b4, b5, b6⟩ := hcd
        injection h with h
        subst h
        obtain ⟨v, u, rfl, h1, h2⟩ := args2 hv hlen
        obtain ⟨E', hE'⟩ : ∃ E', E' = zE [x1.den E, x2.den E, x3.den E, x4.den E, x5.den E, x6.den E, y1.den E, y2.den E, y3.den E, y4.den E, y5.den E, y6.den E] := ⟨_, rfl⟩
        have k1 : (b12 0 100000).holds E' β w v := by
          obtain ⟨us, rfl, u0, r0, rfl, c0, u1, r1, rfl, c1, u2, r2, rfl, c2, u3, r3, rfl, c3, u4, r4, rfl, c4, u5, r5, rfl, c5, hn⟩ := h1
          subst hE'
          exact ⟨_, rfl, u0, _, rfl, int_conv c0 rfl a1, u1, _, rfl, int_conv c1 rfl a2, u2, _, rfl, int_conv c2 rfl a3, u3, _, rfl, int_conv c3 rfl a4, u4, _, rfl, int_conv c4 rfl a5, u5, _, rfl, int_conv c5 rfl a6, hn⟩
        have k2 : (b12 6 100000).holds E' β w u := by
          obtain ⟨us, rfl, u0, r0, rfl, c0, u1, r1, rfl, c1, u2, r2, rfl, c2, u3, r3, rfl, c3, u4, r4, rfl, c4, u5, r5, rfl, c5, hn⟩ := h2
          subst hE'
          exact ⟨_, rfl, u0, _, rfl, int_conv c0 rfl b1, u1, _, rfl, int_conv c1 rfl b2, u2, _, rfl, int_conv c2 rfl b3, u3, _, rfl, int_conv c3 rfl b4, u4, _, rfl, int_conv c4 rfl b5, u5, _, rfl, int_conv c5 rfl b6, hn⟩
        refine (z5q (C := cfgOf [(20, kSame)]) (E := E') (args := [b12 0 100000, b12 6 100000]) (G := [])
          (T := .ite (.and (.eq (.var 0) (.var 6)) (.eq (.var 1) (.var 7))) (.ite (.and (.eq (.var 2) (.var 8)) (.eq (.var 3) (.var 9))) (lfB (.and (.eq (.var 4) (.var 10)) (.eq (.var 5) (.var 11)))) (lfB (.lit false))) (lfB (.lit false)))
          mixed (cfg_ok (.cons kSame_ok .nil)) z8q Tryz.func37 (by decide +kernel) (by kernel_rfl) (by decide +kernel) rfl w [v, u] rfl ?_).mono ?_
        · intro i x hx
          match i, hx with
          | 0, hx => injection hx with hx; subst hx; exact ⟨β, v, rfl, k1⟩
          | 1, hx => injection hx with hx; subst hx; exact ⟨β, u, rfl, k2⟩
        · rintro e w' ⟨β', y, rfl, hh, ex⟩
          refine ⟨_, rfl, z11q.2 ?_, ex⟩
          subst hE'
          simp only [Tree.pick] at hh
          show y = .bool ((x1.den E == y1.den E && x2.den E == y2.den E) && ((x3.den E == y3.den E && x4.den E == y4.den E) && (x5.den E == y5.den E && x6.den E == y6.den E)))
          have e0 : (BT.and (.eq (.var 0) (.var 6)) (.eq (.var 1) (.var 7))).den (zE [x1.den E, x2.den E, x3.den E, x4.den E, x5.den E, x6.den E, y1.den E, y2.den E, y3.den E, y4.den E, y5.den E, y6.den E]) = (x1.den E == y1.den E && x2.den E == y2.den E) := rfl
          have e1 : (BT.and (.eq (.var 2) (.var 8)) (.eq (.var 3) (.var 9))).den (zE [x1.den E, x2.den E, x3.den E, x4.den E, x5.den E, x6.den E, y1.den E, y2.den E, y3.den E, y4.den E, y5.den E, y6.den E]) = (x3.den E == y3.den E && x4.den E == y4.den E) := rfl
          rw [e0, e1] at hh
          cases h0 : (x1.den E == y1.den E && x2.den E == y2.den E) <;> rw [h0] at hh
          · exact lfB_out hh
          · cases h1 : (x3.den E == y3.den E && x4.den E == y4.den E) <;> rw [h1] at hh
            · exact lfB_out hh
            · exact lfB_out hh
      · cases h
    · cases h
  · intro args G r h x off
    unfold kRSm at h
    split at h
    · split at h
      · injection h with h; subst h; intro e; cases e
      · cases h
    · cases h
def cfgS (f0 : Nat) (sm : List Chunk → Nat → Option Bool) (C : Cfg) : Cfg :=
  { C with calls := fun f args M G => if f = f0 then (match args, M with
      | [.ptr _ off], [some cs] => (lt2 off (sm cs off)).map fun c => .val false [.b (.lit c)]
      | _, _ => none) else C.calls f args M G }
def RowSm (E : Env) (f0 : Nat) (sm : List Chunk → Nat → Option Bool) : Prop := ∀ cs off c, sm cs off = some c → ∀ (w : World) (b : Nat), VarAt E w b cs → Calls Tryz.prog f0 #[pv b off] w fun e w' => e = .returned (.bool c) ∧ Ext w w'
theorem cfgS_ok {E : Env} {f0 : Nat} {sm : List Chunk → Nat → Option Bool} {C : Cfg} (h : CfgOK Tryz.prog E C) (hs : RowSm E f0 sm) (hb : ∃ fn, Tryz.prog.funcs[f0]? = some fn ∧ fn.name ≠ "runtime.NumGoroutine" ∧ fn.body.isNone = false) : CfgOK Tryz.prog E (cfgS f0 sm C) := by
  refine ⟨h.zero, h.ag, h.fld, h.flds, h.bool, h.row, h.arr, ?_, ?_, ?_, h.slc, h.strT, h.cnv, h.apd, h.eq2, h.fty⟩
  · intro f args M G r hr hG β w vs hwk hv hlen hm
    simp only [cfgS] at hr
    split at hr
    · rename_i hf
      subst hf
      split at hr
      · rename_i x off cs
        obtain ⟨c, hc, rfl⟩ := Option.map_eq_some_iff.1 hr
        obtain ⟨h2b, hc⟩ := lt2_spec hc
        obtain ⟨v, rfl, h1⟩ := args1 hv hlen
        have h1' : v = pv (β x) off := AV.pv_of h1 h2b
        subst h1'
        refine (hs cs off c hc w (β x) (hm 0 x off cs rfl rfl)).mono ?_
        rintro e w' ⟨rfl, ex⟩
        exact ⟨_, rfl, z11q.2 rfl, ex⟩
      · cases hr
    · exact h.calls f args M G r hr hG β w vs hwk hv hlen hm
  · intro f args M G r hr x off
    simp only [cfgS] at hr
    split at hr
    · split at hr
      · obtain ⟨c, hc, rfl⟩ := Option.map_eq_some_iff.1 hr
        intro e; cases e
      · cases hr
    · exact h.nptr f args M G r hr x off
  · intro f args M G r hr
    simp only [cfgS] at hr
    split at hr
    · rename_i hf
      subst hf
      exact hb
    · exact h.body f args M G r hr
end Go.Proofs.YtifeacfljfmnpaaGreat
end

section
set_option maxRecDepth 100000
namespace Go.Proofs.YtifeacfljfmnpaaGreat
open Go.RowKit
end Go.Proofs.YtifeacfljfmnpaaGreat
end

section
set_option maxRecDepth 100000
namespace Go.Proofs.YtifeacfljfmnpaaGreat
open Go.RowKit
theorem Rd.comb {b c b' c' x : Rat} (R : Rd b c) (R' : Rd b' c') (hx : x ≠ 0 → b ≠ 0 ∨ b' ≠ 0) : Rd x (rC x (cm b c c')) := by
  by_cases h0 : x = 0
  · subst h0; rw [rC_zero]; exact .inl ⟨rfl, rfl⟩
  · rw [rC_ne h0]
    by_cases hb : b = 0
    · have hb' : b' ≠ 0 := (hx h0).elim (fun k => absurd hb k) id
      rw [hb, cm_zero]
      rcases R' with ⟨k, _⟩ | ⟨_, k⟩
      · exact absurd k hb'
      · exact .inr ⟨h0, k⟩
    · rw [cm_ne hb]
      rcases R with ⟨k, _⟩ | ⟨_, k⟩
      · exact absurd k hb
      · exact .inr ⟨h0, k⟩
theorem asm_nil {E : Env} : Asm.holds E [] := z8q
theorem asm_and {E : Env} {t : BT} {b : Bool} {G : Asm} (h : t.den E = b) (k : G.holds E) : Asm.holds E ((t, b) :: G) := fun p hp => by
  rcases List.mem_cons.1 hp with rfl | hp
  · exact h
  · exact k p hp
def g2 (n m : Bool) : Asm := [(rdT (qv 1) (qv 2), true), (rdT (qv 4) (qv 5), true), (nokT (qv 1) (qv 2) (qv 4) (qv 5), n), (nokT (qv 4) (qv 5) (qv 1) (qv 2), m)]
section
variable {w : World} {v u : Value} {a b c a' b' c' : Rat}
end
end Go.Proofs.YtifeacfljfmnpaaGreat
end

section
set_option maxRecDepth 100000
namespace Go.Proofs.YtifeacfljfmnpaaGreat
open Go.RowKit
theorem Rd.nonneg {b c : Rat} (R : Rd b c) : 0 ≤ c := by
  rcases R with ⟨_, h⟩ | ⟨_, h, _⟩ <;> grind
end Go.Proofs.YtifeacfljfmnpaaGreat
end

section
set_option maxRecDepth 100000
namespace Go.Proofs.YtifeacfljfmnpaaGreat
open Go.RowKit
theorem sgN_sg2 {a b c : Rat} (R : Rd b c) : sgN a b c = sg2 a b c := by
  rw [← sgS_sgN R]
  exact sgS_sg2 R.nonneg
theorem cmR_ok {a b c a' b' c' : Rat} (R : Rd b c) (R' : Rd b' c') (h : Ok b c b' c') : cmR a b c a' b' c' = sgN (a - a') (b - b') (rC (b - b') (cm b c c')) := by
  have RR : Rd (b - b') (rC (b - b') (cm b c c')) := Rd.comb R R' (fun hx => by
    by_cases hb : b = 0
    · exact .inr (fun k => hx (by rw [hb, k]; grind))
    · exact .inl hb)
  rw [sgN_sg2 RR]
  obtain ⟨z, hz⟩ := exists_rt RR.nonneg
  have fin : ∀ {m n k : Sq}, IsRt c m → IsRt c' n → IsRt (rC (b - b') (cm b c c')) k → (∀ i, (a + b * m i) - (a' + b' * n i) = (a - a') + (b - b') * k i) → cmR a b c a' b' c' = sg2 (a - a') (b - b') (rC (b - b') (cm b c c')) := by
    intro m n k hm hn hk e
    have h1 := cmR_sg (a := a) (b := b) (a' := a') (b' := b') R.nonneg R'.nonneg hm hn
    rw [funext e] at h1
    exact h1.unique (sqv2 RR.nonneg hk)
  obtain ⟨m, hm⟩ := exists_rt R.nonneg
  obtain ⟨n, hn⟩ := exists_rt R'.nonneg
  by_cases hx : b - b' = 0
  · by_cases hb : b = 0
    · have hb' : b' = 0 := by grind
      exact fin hm hn hz (fun i => by rw [hb, hb']; grind)
    · have hb' : b' ≠ 0 := by grind
      have hc : c = c' := by rcases h with h | h | h <;> first | exact absurd h hb | exact absurd h hb' | exact h
      exact fin hm (hc ▸ hm) hz (fun i => by rw [show b' = b by grind]; grind)
  · have eC : rC (b - b') (cm b c c') = cm b c c' := rC_ne hx _
    by_cases hb : b = 0
    · have e2 : cm b c c' = c' := by rw [hb, cm_zero]
      exact fin hm hn (by rw [eC, e2]; exact hn) (fun i => by rw [hb]; grind)
    · have e2 : cm b c c' = c := cm_ne hb c c'
      have hk : IsRt (rC (b - b') (cm b c c')) m := by rw [eC, e2]; exact hm
      by_cases hb' : b' = 0
      · exact fin hm hn hk (fun i => by rw [hb']; grind)
      · have hc : c = c' := by rcases h with h | h | h <;> first | exact absurd h hb | exact absurd h hb' | exact h
        exact fin hm (hc ▸ hm) hk (fun i => by grind)
theorem cmR_rat {a c a' c' : Rat} (hc : 0 ≤ c) (hc' : 0 ≤ c') : cmR a 0 c a' 0 c' = sgQ' (a - a') := by
  obtain ⟨m, hm⟩ := exists_rt hc
  obtain ⟨n, hn⟩ := exists_rt hc'
  have h1 := cmR_sg (a := a) (b := 0) (a' := a') (b' := 0) hc hc' hm hn
  have e : (fun k => (a + 0 * m k) - (a' + 0 * n k)) = fun _ => a - a' := funext fun k => by grind
  rw [e] at h1
  exact h1.unique (hasSg_const _)
theorem cmR_same {a b c : Rat} (hc : 0 ≤ c) : cmR a b c a b c = 0 := by
  obtain ⟨m, hm⟩ := exists_rt hc
  have h1 := cmR_sg (a := a) (b := b) (a' := a) (b' := b) hc hc hm hm
  have e : (fun k => (a + b * m k) - (a + b * m k)) = fun _ => (0 : Rat) := funext fun k => by grind
  rw [e] at h1
  have h2 := hasSg_const (0 : Rat)
  exact h1.unique h2
end Go.Proofs.YtifeacfljfmnpaaGreat
end

section
set_option maxRecDepth 100000
namespace Go.Proofs.YtifeacfljfmnpaaGreat
open Go.RowKit
def c66 (ts us : List IT2) : List AV → Bool
  | [.val true xs, .val true ys] => t6 ts xs && t6 us ys
  | _ => false
def rqA : List IT2 := [qI 0, qI 2, qI 4]
def rqB : List IT2 := [qI 6, qI 8, qI 10]
def rqN : List IT2 := [qng (qI 6), qng (qI 8), qI 10]
def rqD : List IT2 := [qI 12, qI 14, qI 16]
def zer6 : List Chunk := [.int (.lit 0) 0, .int (.lit 0) 0, .int (.lit 0) 0, .int (.lit 0) 0, .int (.lit 0) 0, .int (.lit 0) 0]
def rAdd (ok : Bool) : AV := .tup [(true, if ok then rt (qI 12) (qI 14) (qI 16) 40 else zer6), (false, [.n .i64 (.lit (if ok then 0 else 1))])]
def rBl (b : Bool) : AV := .val false [.b (.lit b)]
noncomputable def tabCp (z : Int) (t i ok : Bool) (x : Int) : List (Nat × Con) :=
  (144, kKq (c66 rqA rqB) (rIB z t) kNoQ) :: (145, kKq (c66 rqA rqB) (rBl i) kNoQ) :: (81, kKq (c6 rqB) (.val true (rt (qng (qI 6)) (qng (qI 8)) (qI 10) 9)) kNoQ) ::
  (146, kKq (c66 rqA rqN) (rAdd ok) kNoQ) :: (147, if ok then kKq (c6 rqD) (rNq x) kNoQ else kNoQ) :: (140, kKq (c6 cmTs) (rNq x) kNoQ) :: tabSb
noncomputable def iCp0 : List (Nat × Func) := [(241, Tryz.f241), (143, Tryz.f143)]
noncomputable def cCp0 (z : Int) (t i ok : Bool) (x : Int) : Cfg := cfgI (cfgOf (tabCp z t i ok x)) (cfgOf (tabCp z t i ok x)) iCp0
noncomputable def cCp1 (z : Int) (t i ok : Bool) (x : Int) : Cfg := cfgI (cCp0 z t i ok x) (cCp0 z t i ok x) iC2
noncomputable def cCp (z : Int) (t i ok : Bool) (x : Int) : Cfg := cfgI (cCp1 z t i ok x) (cCp1 z t i ok x) [(148, Tryz.f148)]
def gzQ (i : Nat) (b : Bool) : BT × Bool := (.eq (sgI i) (.lit 0), b)
def guC : List Asm := [[gzQ 2 false], [gzQ 2 true, gzQ 8 false]]
noncomputable def cpW (z : Int) (t i ok : Bool) (x y : Int) (G : Asm) : Bool := isNlo y (funE (cCp z t i ok x) Tryz.f75 G [aRo 0, aRo 6])
theorem cp_all : (sgs.all fun z => bools.all fun t => bools.all fun i => bools.all fun ok => sgs.all fun x => guC.all fun G => cpW z t i ok x (if t then z else if i then 0 else x) G) = true := by kernel_rfl
noncomputable def cCr : Cfg := cfgI (cfgOf tabSb) (cfgOf tabSb) iCp0
theorem cp_rat : funE cCr Tryz.f75 [gzQ 2 true, gzQ 8 true] [aRo 0, aRo 6] = some (.leaf [(false, [.n .i64 (qcmp (qI 0) (qI 6))])]) := by kernel_rfl
end Go.Proofs.YtifeacfljfmnpaaGreat
end

section
set_option maxRecDepth 100000
namespace Go.Proofs.YtifeacfljfmnpaaGreat
open Go.RowKit
theorem rats3 {w : World} {vs : List Value} {a b c : Rat} (h : RatsQ w vs [a, b, c]) : z16q w (.agg vs.toArray) a b c := by
  obtain ⟨x, r, rfl, h1, y, s, rfl, h2, z, t, rfl, h3, rfl⟩ := h
  exact ⟨x, y, z, by rw [List.append_nil], h1, h2, h3⟩
theorem known66 {E : Env} {f : Nat} {ts us : List IT2} {a b c a' b' c' : Rat} {r : AV} (hr : Reps E ts [a, b, c]) (hs : Reps E us [a', b', c']) (np : ∀ x off, r ≠ .ptr x off)
    (h : ∀ (w : World) (v u : Value), z16q w v a b c → z16q w u a' b' c' → Calls Tryz.prog f #[v, u] w fun e w' => ∃ x, e = .returned x ∧ (∀ β, r.holds E β w' x) ∧ Ext w w') : KnownR E f (c66 ts us) r := by
  refine ⟨?_, np⟩
  intro args hc' β w vs hv hl
  unfold c66 at hc'
  split at hc'
  · rw [Bool.and_eq_true] at hc'
    obtain ⟨v, u, rfl, ⟨xs, rfl, h1⟩, ⟨ys, rfl, h2⟩⟩ := args2 hv hl
    exact h w _ _ (rats3 (t6_holds hr hc'.1 h1)) (rats3 (t6_holds hs hc'.2 h2))
  · cases hc'
theorem known3 {E : Env} {f : Nat} {ts : List IT2} {a b c : Rat} {r : AV} (hr : Reps E ts [a, b, c]) (np : ∀ x off, r ≠ .ptr x off)
    (h : ∀ (w : World) (v : Value), z16q w v a b c → Calls Tryz.prog f #[v] w fun e w' => ∃ x, e = .returned x ∧ (∀ β, r.holds E β w' x) ∧ Ext w w') : KnownR E f (c6 ts) r := by
  refine ⟨?_, np⟩
  intro args hc' β w vs hv hl
  unfold c6 at hc'
  split at hc'
  · obtain ⟨v, rfl, xs, rfl, h1⟩ := args1 hv hl
    exact h w _ (rats3 (t6_holds hr hc' h1))
  · cases hc'
theorem radCmp_calls (w : World) (v u : Value) (a b c a' b' c' : Rat) (R : Rd b c) (R' : Rd b' c') (hv : z16q w v a b c) (hu : z16q w u a' b' c') (l : LimR 9 a b c) (l' : LimR 9 a' b' c') :
    Calls Tryz.prog 75 #[v, u] w (RetN (cmR a b c a' b' c') w) := by
  obtain ⟨p, hp⟩ : ∃ p, p = a - a' := ⟨_, rfl⟩
  obtain ⟨q, hq⟩ : ∃ q, q = b - b' := ⟨_, rfl⟩
  obtain ⟨r, hr⟩ : ∃ r, r = rC (b - b') (cm b c c') := ⟨_, rfl⟩
  obtain ⟨E, hE⟩ : ∃ E, E = qE [a, b, c, a', b', c', p, q, r] := ⟨_, rfl⟩
  have hQ : QEnv E := by rw [hE]; exact qE_ok _
  have r1 : RepQ E (qI 0) a := by rw [hE]; exact ⟨rfl, rfl⟩
  have r2 : RepQ E (qI 2) b := by rw [hE]; exact ⟨rfl, rfl⟩
  have r3 : RepQ E (qI 4) c := by rw [hE]; exact ⟨rfl, rfl⟩
  have r4 : RepQ E (qI 6) a' := by rw [hE]; exact ⟨rfl, rfl⟩
  have r5 : RepQ E (qI 8) b' := by rw [hE]; exact ⟨rfl, rfl⟩
  have r6 : RepQ E (qI 10) c' := by rw [hE]; exact ⟨rfl, rfl⟩
  have r7 : RepQ E (qI 12) p := by rw [hE]; exact ⟨rfl, rfl⟩
  have r8 : RepQ E (qI 14) q := by rw [hE]; exact ⟨rfl, rfl⟩
  have r9 : RepQ E (qI 16) r := by rw [hE]; exact ⟨rfl, rfl⟩
  have sA : Reps E rqA [a, b, c] := ⟨r1, r2, r3, trivial⟩
  have sB : Reps E rqB [a', b', c'] := ⟨r4, r5, r6, trivial⟩
  have sN : Reps E rqN [-a', -b', c'] := ⟨rep_ng r4, rep_ng r5, r6, trivial⟩
  have sD : Reps E rqD [p, q, r] := ⟨r7, r8, r9, trivial⟩
  have ln : LimR 9 (-a') (-b') c' := ⟨⟨by rw [Rat.neg_num]; exact l'.1.1.neg, l'.1.2⟩, ⟨by rw [Rat.neg_num]; exact l'.2.1.1.neg, l'.2.1.2⟩, l'.2.2⟩
  have ld : LimR 40 p q r := by
    have x1 := LimQ.sub' (n := 20) l.1.1 l.1.2 l'.1.1 l'.1.2 (by omega) (by omega)
    have x2 := LimQ.sub' (n := 20) l.2.1.1 l.2.1.2 l'.2.1.1 l'.2.1.2 (by omega) (by omega)
    refine ⟨by rw [hp]; exact ⟨x1.1.mono (by omega), x1.2.mono (by omega)⟩, by rw [hq]; exact ⟨x2.1.mono (by omega), x2.2.mono (by omega)⟩, ?_⟩
    rw [hr]
    by_cases hx : b - b' = 0
    · rw [hx, rC_zero]
      refine ⟨?_, ?_⟩ <;> unfold Lim <;> decide +kernel
    · rw [rC_ne hx]
      by_cases hb : b = 0
      · rw [hb, cm_zero]; exact l'.2.2.mono (by omega)
      · rw [cm_ne hb]; exact l.2.2.mono (by omega)
  have RD : Rd q r := by
    rw [hq, hr]
    exact Rd.comb R R' (fun hx => by
      by_cases hb : b = 0
      · exact .inr (fun k => hx (by rw [hb, k]; grind))
      · exact .inl hb)
  obtain ⟨z, t, hf⟩ := fast_c a b c a' b' c'
  obtain ⟨i, hi⟩ : ∃ i, i = decide (a = a' ∧ b = b' ∧ c = c') := ⟨_, rfl⟩
  obtain ⟨ok, hok⟩ : ∃ ok : Bool, (ok = true ↔ Ok b c b' c') := by
    by_cases h : Ok b c b' c'
    · exact ⟨true, by simp [h]⟩
    · exact ⟨false, by simp [h]⟩
  obtain ⟨x, hx⟩ : ∃ x, x = cmR a b c a' b' c' := ⟨_, rfl⟩
  have hxs : x ∈ sgs := by rw [hx]; exact sgs_mem (qsg_range _ _ _ _ _ _)
  have hz : z ∈ sgs := by
    cases t with
    | false => rw [hf.zero rfl]; decide
    | true => rw [hf.right rfl R.nonneg R'.nonneg, ← hx]; exact hxs
  have hT : TabOK Tryz.prog E (tabCp z t i ok x) := by
    refine .cons (z17q (known66 sA sB (fun x off e => by cases e) fun w v u h1 h2 => (hf.calls w v u h1 h2 l l').mono ?_) (z18q ⟨_, Tryz.func144, by decide +kernel, by kernel_rfl⟩)) <|
      .cons (z17q (known66 sA sB (fun x off e => by cases e) fun w v u h1 h2 => (ident_calls w v u a b c a' b' c' h1 h2 l l').mono ?_) (z18q ⟨_, Tryz.func145, by decide +kernel, by kernel_rfl⟩)) <|
      .cons (z17q (known3 sB (fun x off e => by cases e) fun w v h1 => (p_neg R' h1 (l'.mono (by omega))).mono ?_) (z18q ⟨_, Tryz.func81, by decide +kernel, by kernel_rfl⟩)) <|
      .cons (z17q (known66 sA sN (fun x off e => by cases e) fun w v u h1 h2 => (p_add h1 h2 (l.mono (by omega)) (ln.mono (by omega))).mono ?_) (z18q ⟨_, Tryz.func146, by decide +kernel, by kernel_rfl⟩)) <|
      .cons ?_ <| .cons (kKq_ok (known6 (cm_reps r1 r2 r3 r4 r5 r6) fun w v h => ?_) (z18q ⟨_, Tryz.func140, by decide +kernel, by kernel_rfl⟩)) (tabSb_ok hQ)
    · rintro e w' ⟨rfl, ex⟩
      exact ⟨_, rfl, fun β => ⟨[_, _], rfl, _, _, rfl, z9q.2 rfl, _, _, rfl, z11q.2 rfl, rfl⟩, ex⟩
    · rintro e w' ⟨rfl, ex⟩
      exact ⟨_, rfl, fun β => z11q.2 (by rw [← hi]; rfl), ex⟩
    · rintro e w' ⟨x, rfl, hx, ex⟩
      exact ⟨x, rfl, fun β => (one_root (A := qng (qI 6)) (B := qng (qI 8)) (C := qI 10) (rep_ng r4) (rep_ng r5) r6).2 ⟨hx, ln⟩, ex⟩
    · rintro e w' ⟨k1, k2⟩
      have eo : Ok b c (-b') c' ↔ Ok b c b' c' := by
        unfold Ok
        rw [show (-b' = 0 ↔ b' = 0) from ⟨fun k => by grind, fun k => by grind⟩]
      rw [eo] at k1 k2
      cases ok with
      | true =>
        obtain ⟨y, rfl, hy, ex⟩ := k1 (hok.1 rfl)
        rw [← Rat.sub_eq_add_neg, ← Rat.sub_eq_add_neg, ← hp, ← hr, ← hq] at hy
        exact ⟨_, rfl, fun β => ⟨[_, _], rfl, _, _, rfl, (one_root (A := qI 12) (B := qI 14) (C := qI 16) r7 r8 r9).2 ⟨hy, ld⟩, _, _, rfl, z9q.2 rfl, rfl⟩, ex⟩
      | false =>
        obtain ⟨y, rfl, hy, ex⟩ := k2 (fun k => by have := hok.2 k; cases this)
        exact ⟨_, rfl, fun β => ⟨[_, _], rfl, _, _, rfl, hy E, _, _, rfl, z9q.2 rfl, rfl⟩, ex⟩
    · cases ok with
      | false => exact z18q ⟨_, Tryz.func147, by decide +kernel, by kernel_rfl⟩
      | true =>
        refine z17q (known3 sD (fun x off e => by cases e) fun w v h1 => (p_sign RD h1 (ld.mono (by omega))).mono ?_) (z18q ⟨_, Tryz.func147, by decide +kernel, by kernel_rfl⟩)
        rintro e w' ⟨rfl, ex⟩
        refine ⟨_, rfl, fun β => z9q.2 ?_, ex⟩
        rw [hp, hq, hr, ← cmR_ok R R' (hok.1 rfl), ← hx]
        rfl
    · have e : x = sg4 (a - a') b (-b') 0 c c' := by rw [hx]; exact if_neg (by have := Rat.num_nonneg.2 R.nonneg; have := Rat.num_nonneg.2 R'.nonneg; omega)
      rw [e]
      exact exactSign_calls w v _ _ _ _ _ _ h (sub_lims l l') R.nonneg
  have hC : CfgOK Tryz.prog E (cCp z t i ok x) := by
    have h0 := cfg_ok hT
    have h1 : CfgOK Tryz.prog E (cCp0 z t i ok x) := cfgI_ok mixed h0 h0 (fun _ => trivial) (.cons Tryz.func241 (by decide +kernel) (by kernel_rfl) <| .cons Tryz.func143 (by decide +kernel) (by kernel_rfl) .nil)
    have h2 : CfgOK Tryz.prog E (cCp1 z t i ok x) := cfgI_ok mixed h1 h1 (fun _ => trivial) (.cons Tryz.func204 (by decide +kernel) (by kernel_rfl) .nil)
    exact cfgI_ok mixed h2 h2 (fun _ => trivial) (.cons Tryz.func148 (by decide +kernel) (by kernel_rfl) .nil)
  have hres : (if t then z else if i then 0 else x) = cmR a b c a' b' c' := by
    cases t with
    | true => exact hf.right rfl R.nonneg R'.nonneg
    | false =>
      cases hii : i with
      | true =>
        have := of_decide_eq_true (hi ▸ hii)
        obtain ⟨rfl, rfl, rfl⟩ := this
        exact (cmR_same R.nonneg).symm
      | false => exact hx
  have fin : ∀ G ∈ guC, G.holds E → Calls Tryz.prog 75 #[v, u] w (RetN (cmR a b c a' b' c') w) := by
    intro G hm hG
    have hW := List.all_eq_true.1 (List.all_eq_true.1 (List.all_eq_true.1 (List.all_eq_true.1 (List.all_eq_true.1 (List.all_eq_true.1 cp_all z hz) t (by cases t <;> decide)) i (by cases i <;> decide)) ok (by cases ok <;> decide)) x hxs) G hm
    rw [hres] at hW
    unfold cpW isNlo at hW
    split at hW
    · rename_i T hTe
      refine (z5q mixed hC hG Tryz.func75 (by decide +kernel) hTe (by decide +kernel) rfl w [v, u] rfl (two_roots r1 r2 r3 r4 r5 r6 hv hu l l')).mono ?_
      rintro e w' ⟨β, y, rfl, hh, ex⟩
      rw [isNl_pick hW] at hh
      rw [show y = _ from z9q.1 hh]
      exact ⟨rfl, ex⟩
    · cases hW
  have zd : ∀ {j : Nat} {y : Rat}, RepQ E (qI j) y → (BT.eq (sgI j) (.lit 0)).den E = decide (y = 0) := by
    intro j y hy
    show (cmpZ (E.i j) 0 == 0) = _
    rw [show E.i j = y.num from hy.1, Bool.eq_iff_iff, beq_iff_eq, decide_eq_true_iff, ← Rat.num_eq_zero]
    rcases z2q y.num 0 with ⟨k, e⟩ | ⟨k, e⟩ | ⟨k, e⟩ <;> rw [e] <;> omega
  by_cases hb : b = 0
  · by_cases hb' : b' = 0
    · have g : Asm.holds E [gzQ 2 true, gzQ 8 true] := asm_cons (asm_cons z8q (by rw [zd r5]; exact decide_eq_true hb')) (by rw [zd r2]; exact decide_eq_true hb)
      have hC' : CfgOK Tryz.prog E cCr := cfgI_ok mixed (cfg_ok (tabSb_ok hQ)) (cfg_ok (tabSb_ok hQ)) (fun _ => trivial) (.cons Tryz.func241 (by decide +kernel) (by kernel_rfl) <| .cons Tryz.func143 (by decide +kernel) (by kernel_rfl) .nil)
      refine (z5q mixed hC' g Tryz.func75 (by decide +kernel) cp_rat (by decide +kernel) rfl w [v, u] rfl (two_roots r1 r2 r3 r4 r5 r6 hv hu l l')).mono ?_
      rintro e w' ⟨β, y, rfl, hh, ex⟩
      rw [show y = _ from z9q.1 hh, rep_cmp r1 r4, hb, hb', cmR_rat R.nonneg R'.nonneg, sgQ_eq]
      exact ⟨rfl, ex⟩
    · exact fin [gzQ 2 true, gzQ 8 false] (by simp [guC]) (asm_cons (asm_cons z8q (by rw [zd r5]; exact decide_eq_false hb')) (by rw [zd r2]; exact decide_eq_true hb))
  · exact fin [gzQ 2 false] (by simp [guC]) (asm_cons z8q (by rw [zd r2]; exact decide_eq_false hb))
end Go.Proofs.YtifeacfljfmnpaaGreat
end

section
set_option maxRecDepth 100000
namespace Go.Proofs.YtifeacfljfmnpaaGreat
open Go.RowKit
def isBl (b : Bool) : Tree → Bool
  | .leaf [(false, [.b (.lit c)])] => c == b
  | .leaf _ => false
  | .ite _ t e => isBl b t && isBl b e
def isBlo (b : Bool) : Option Tree → Bool
  | some T => isBl b T
  | none => false
theorem isBl_pick {E : Env} {b : Bool} : ∀ {T : Tree}, isBl b T = true → T.pick E = [(false, [.b (.lit b)])] := by
  intro T
  induction T with
  | leaf l =>
    intro h
    unfold isBl at h
    split at h
    · rename_i x e
      cases e
      simp only [beq_iff_eq] at h
      rw [h]
      rfl
    · cases h
    · rename_i e
      cases e
  | ite c t e iht ihe =>
    intro h
    simp only [isBl, Bool.and_eq_true] at h
    simp only [Tree.pick]
    split
    · exact iht h.1
    · exact ihe h.2
structure Rts (E : Env) (a b c a' b' c' : Rat) : Prop where
  r1 : RepQ E (qI 0) a
  r2 : RepQ E (qI 2) b
  r3 : RepQ E (qI 4) c
  r4 : RepQ E (qI 6) a'
  r5 : RepQ E (qI 8) b'
  r6 : RepQ E (qI 10) c'
theorem rts_mk (a b c a' b' c' : Rat) (l : List Rat) : Rts (qE (a :: b :: c :: a' :: b' :: c' :: l)) a b c a' b' c' := ⟨⟨rfl, rfl⟩, ⟨rfl, rfl⟩, ⟨rfl, rfl⟩, ⟨rfl, rfl⟩, ⟨rfl, rfl⟩, ⟨rfl, rfl⟩⟩
noncomputable def tabEq (z : Int) : List (Nat × Con) := [(75, kKq (c66 rqA rqB) (rNq z) kNoQ)]
theorem eq_walk : (sgs.all fun z => isBlo (z == 0) (funE (cfgOf (tabEq z)) Tryz.f71 [] [aRo 0, aRo 6])) = true := by kernel_rfl
theorem cmR_range (a b c a' b' c' : Rat) : cmR a b c a' b' c' ∈ sgs := sgs_mem (qsg_range _ _ _ _ _ _)
theorem radEqual_calls (w : World) (v u : Value) (a b c a' b' c' : Rat) (R : Rd b c) (R' : Rd b' c') (hv : z16q w v a b c) (hu : z16q w u a' b' c') (l : LimR 9 a b c) (l' : LimR 9 a' b' c') :
    Calls Tryz.prog 71 #[v, u] w (RetBl (cmR a b c a' b' c' == 0) w) := by
  obtain ⟨E, hE⟩ : ∃ E, E = qE [a, b, c, a', b', c'] := ⟨_, rfl⟩
  have q : Rts E a b c a' b' c' := by rw [hE]; exact rts_mk _ _ _ _ _ _ _
  have hW := List.all_eq_true.1 eq_walk _ (cmR_range a b c a' b' c')
  have hT : TabOK Tryz.prog E (tabEq (cmR a b c a' b' c')) := by
    refine .cons (z17q (known66 ⟨q.r1, q.r2, q.r3, trivial⟩ ⟨q.r4, q.r5, q.r6, trivial⟩ (fun x off e => by cases e) fun w v u h1 h2 => (radCmp_calls w v u a b c a' b' c' R R' h1 h2 l l').mono ?_) (z18q ⟨_, Tryz.func75, by decide +kernel, by kernel_rfl⟩)) .nil
    rintro e w' ⟨rfl, ex⟩
    exact ⟨_, rfl, fun β => z9q.2 rfl, ex⟩
  unfold isBlo at hW
  split at hW
  · rename_i T hTe
    refine (z5q mixed (cfg_ok hT) z8q Tryz.func71 (by decide +kernel) hTe (by decide +kernel) rfl w [v, u] rfl (two_roots q.r1 q.r2 q.r3 q.r4 q.r5 q.r6 hv hu l l')).mono ?_
    rintro e w' ⟨β, x, rfl, hh, ex⟩
    rw [isBl_pick hW] at hh
    rw [show x = _ from z11q.1 hh]
    exact ⟨rfl, ex⟩
  · cases hW
def aQ9 (i : Nat) : AV := .val true [.int (.var i) 9, .int (.var (i + 1)) 9]
def rqZ : List IT2 := [qI 6, (.lit 0, .lit 1), (.lit 0, .lit 1)]
noncomputable def tabCq (z : Int) : List (Nat × Con) := (75, kKq (c66 rqA rqZ) (rNq z) kNoQ) :: tabSb
theorem cq_walk : (sgs.all fun z => isNlo z (funE (cfgOf (tabCq z)) Tryz.f82 [] [aRo 0, aQ9 6])) = true := by kernel_rfl
theorem root_ratA {E : Env} {w : World} {v u : Value} {a b c d : Rat} (h1 : RepQ E (qI 0) a) (h2 : RepQ E (qI 2) b) (h3 : RepQ E (qI 4) c) (h4 : RepQ E (qI 6) d) (hv : z16q w v a b c) (hu : IsRat w u d) (l : LimR 9 a b c) (l' : LimQ 9 d) :
    ∀ (i : Nat) (x : AV), [aRo 0, aQ9 6][i]? = some x → ∃ β y, [v, u][i]? = some y ∧ x.holds E β w y := by
  intro i x hx
  match i, hx with
  | 0, hx => injection hx with hx; subst hx; exact ⟨fun _ => 0, v, rfl, (one_root (A := qI 0) (B := qI 2) (C := qI 4) h1 h2 h3).2 ⟨hv, l⟩⟩
  | 1, hx => injection hx with hx; subst hx; exact ⟨fun _ => 0, u, rfl, (one_q (A := qI 6) h4).2 ⟨hu, l'.1, l'.2⟩⟩
theorem lim_zeroR {n : Nat} (h : 1 ≤ n) : LimQ n (0 : Rat) := ⟨lim_zero, (lim1 (z := 1) (by decide)).mono h⟩
theorem radCmpRat_calls (w : World) (v u : Value) (a b c d : Rat) (R : Rd b c) (hv : z16q w v a b c) (hu : IsRat w u d) (l : LimR 9 a b c) (l' : LimQ 9 d) :
    Calls Tryz.prog 82 #[v, u] w (RetN (cmR a b c d 0 0) w) := by
  obtain ⟨E, hE⟩ : ∃ E, E = qE [a, b, c, d, 0, 0] := ⟨_, rfl⟩
  have hQ : QEnv E := by rw [hE]; exact qE_ok _
  have q : Rts E a b c d 0 0 := by rw [hE]; exact rts_mk _ _ _ _ _ _ _
  have hW := List.all_eq_true.1 cq_walk _ (cmR_range a b c d 0 0)
  have hT : TabOK Tryz.prog E (tabCq (cmR a b c d 0 0)) := by
    refine .cons (z17q (known66 ⟨q.r1, q.r2, q.r3, trivial⟩ (us := rqZ) (a' := d) (b' := 0) (c' := 0) ⟨q.r4, ⟨rfl, rfl⟩, ⟨rfl, rfl⟩, trivial⟩ (fun x off e => by cases e) fun w v u h1 h2 => (radCmp_calls w v u a b c d 0 0 R (.inl ⟨rfl, rfl⟩) h1 h2 l ⟨l', lim_zeroR (by omega), lim_zeroR (by omega)⟩).mono ?_) (z18q ⟨_, Tryz.func75, by decide +kernel, by kernel_rfl⟩)) (tabSb_ok hQ)
    rintro e w' ⟨rfl, ex⟩
    exact ⟨_, rfl, fun β => z9q.2 rfl, ex⟩
  unfold isNlo at hW
  split at hW
  · rename_i T hTe
    refine (z5q mixed (cfg_ok hT) z8q Tryz.func82 (by decide +kernel) hTe (by decide +kernel) rfl w [v, u] rfl (root_ratA q.r1 q.r2 q.r3 q.r4 hv hu l l')).mono ?_
    rintro e w' ⟨β, x, rfl, hh, ex⟩
    rw [isNl_pick hW] at hh
    rw [show x = _ from z9q.1 hh]
    exact ⟨rfl, ex⟩
  · cases hW
end Go.Proofs.YtifeacfljfmnpaaGreat
end

section
set_option maxRecDepth 100000
namespace Go.Proofs.YtifeacfljfmnpaaGreat
open Go.RowKit
theorem SimOK.parts {ln ld hn hd : Int} {r : Int × Int} (h : SimOK ln ld hn hd r) : (Rat.divInt r.1 r.2).num = r.1 ∧ ((Rat.divInt r.1 r.2).den : Int) = r.2 := by
  have hc := h.coprime
  have h1 := h.p1
  have h2 := h.p2
  have hco : coB r.1 r.2 = true := by
    unfold coB
    rw [hc, decide_eq_true h2]; rfl
  unfold coB at hco
  simp only [Bool.and_eq_true, decide_eq_true_iff, beq_iff_eq] at hco
  have e : Rat.divInt r.1 r.2 = ⟨r.1, r.2.natAbs, by omega, hc⟩ := by
    rw [Rat.mk_eq_divInt]
    congr 1
    omega
  rw [e]
  refine ⟨rfl, ?_⟩
  show ((r.2.natAbs : Nat) : Int) = r.2
  omega
theorem lim_le {m : Nat} {x y : Int} (h : Lim m y) (h1 : 0 ≤ x) (h2 : x ≤ y) : Lim m x := h.natAbs_le (by omega)
theorem SimOK.lim {l : Nat} {ln ld hn hd : Int} {r : Int × Int} (h : SimOK ln ld hn hd r) (_h1 : 0 ≤ ln) (h2 : 0 < ld) (_h3 : 0 < hn) (h4 : 0 ≤ hd) (hlt : ln * hd < hn * ld) (a1 : Lim l ln) (a2 : Lim l ld) (a3 : Lim l hn) (a4 : Lim l hd) : Lim (l + 1) r.1 ∧ Lim (l + 1) r.2 := by
  obtain ⟨j1, j2⟩ := h.least (ln + hn) (ld + hd) (by omega) (by rw [Int.mul_add, Int.add_mul]; omega) (by rw [Int.mul_add, Int.add_mul]; omega)
  have p1 := h.p1
  have p2 := h.p2
  exact ⟨lim_le ((a1.add2 a3).mono (by rw [Nat.max_self]; exact Nat.le_refl _)) (by omega) j1, lim_le ((a2.add2 a4).mono (by rw [Nat.max_self]; exact Nat.le_refl _)) (by omega) j2⟩
def beq2 (x y : IT) (p : IT2) : Bool := x.beq p.1 && y.beq p.2
theorem beq2_spec {x y : IT} {p : IT2} (h : beq2 x y p = true) : x = p.1 ∧ y = p.2 := by
  unfold beq2 at h
  rw [Bool.and_eq_true] at h
  exact ⟨IT.eq_of_beq h.1, IT.eq_of_beq h.2⟩
end Go.Proofs.YtifeacfljfmnpaaGreat
end

section
set_option maxRecDepth 100000
namespace Go.Proofs.YtifeacfljfmnpaaGreat
open Go.RowKit
end Go.Proofs.YtifeacfljfmnpaaGreat
end

section
set_option maxRecDepth 100000
namespace Go.Proofs.YtifeacfljfmnpaaGreat
open Go.RowKit
def spI : LInv where
  lk := [(2, .ptr 2 0), (3, .ptr 3 0), (4, .ptr 4 0), (5, .ptr 5 0), (6, .ptr 6 0)]
  vr := [(2, [.int (.var 0) 710, .int (.var 1) 710]), (3, [.int (.var 2) 710, .int (.var 3) 710]), (4, [.int (.lit 0) 0, .int (.lit 0) 0]), (5, [.int (.var 4) 710, .int (.var 5) 710]), (6, [.int (.var 6) 710, .int (.var 7) 710])]
  vs := [0, 1, 2, 3, 4, 5, 6, 7]
  G := []
  lm := [(0, 710), (1, 710), (2, 710), (3, 710), (4, 710), (5, 710), (6, 710), (7, 710)]
def spF : IT := .a2 4 (.var 0) (.var 1)
def spNx : IT := .a2 0 spF (.lit 1)
def spN : IT := .a2 0 (.a2 2 spNx (.var 4)) (.var 6)
def spD : IT := .a2 0 (.a2 2 spNx (.var 5)) (.var 7)
def spAg : List IT := [.var 3, .a2 1 (.var 2) (.a2 2 spF (.var 3)), .var 1, .a2 5 (.var 0) (.var 1), .a2 0 (.a2 2 spF (.var 4)) (.var 6), .a2 0 (.a2 2 spF (.var 5)) (.var 7), .var 4, .var 5]
def spLeaf : List (Bool × List Chunk) := [(true, [.int spN 2132, .int spD 2132])]
def spTree : LTree := .ite (.lt (.a2 3 (.a2 2 spNx (.var 3)) (.var 2)) (.lit 0)) (.leaf spLeaf) (.again 0 spAg)
def spE (E : Env) (a b c d x y z t : Int) : Env := E.upd spI.vs [a, b, c, d, x, y, z, t]
theorem spE_upd {E : Env} {a b c d x y z t : Int} (l : List Int) (a' b' c' d' x' y' z' t' : Int) (hl : l = [a', b', c', d', x', y', z', t']) : (spE E a b c d x y z t).upd spI.vs l = spE E a' b' c' d' x' y' z' t' := by
  subst hl
  unfold spE Env.upd
  congr 1
  funext k
  match k with
  | 0 | 1 | 2 | 3 | 4 | 5 | 6 | 7 => rfl
  | k + 8 => simp [spI, updI]
theorem dr_ge {x y : Int} (h : 0 < y) : dr x y = x - x / y * y := by
  unfold dr
  rw [if_neg (by omega), Int.fmod_eq_emod_of_nonneg _ (by omega), Int.emod_def, Int.mul_comm]
theorem sp_run (E : Env) (P Q : Int) (lP : Lim 710 P) (lQ : Lim 710 Q) : ∀ (k : Nat) (ln ld hn hd lN lD bN bD : Int), 0 ≤ ln → 0 < ld → 0 < hn → 0 ≤ hd → ln * hd < hn * ld → ld + hd < k → 0 ≤ lN → 0 ≤ lD → 0 ≤ bN → 0 ≤ bD →
    Lim 710 ld → Lim 710 hd → lN * (simS k ln ld hn hd).1 + bN * (simS k ln ld hn hd).2 = P → lD * (simS k ln ld hn hd).1 + bD * (simS k ln ld hn hd).2 = Q →
    ∃ m E', Run (fun _ => True) (noStk.set 0 (spI, spTree)) spTree (spE E ln ld hn hd lN lD bN bD) m E' spLeaf ∧ spN.den E' = P ∧ spD.den E' = Q := by
  intro k
  induction k with
  | zero => intro ln ld hn hd lN lD bN bD _ h2 _ h4 _ h6; exfalso; have : ((0 : Nat) : Int) = 0 := rfl; omega
  | succ k ih =>
    intro ln ld hn hd lN lD bN bD h1 h2 h3 h4 h5 h6 n1 n2 n3 n4 lld lhd hP hQ
    obtain ⟨f, hf⟩ : ∃ f, f = ln / ld := ⟨_, rfl⟩
    have hf0 : 0 ≤ f := by rw [hf]; exact Int.ediv_nonneg h1 (by omega)
    have hr0 : 0 ≤ ln - f * ld := by
      have := Int.ediv_mul_le ln (show ld ≠ 0 by omega)
      rw [← hf] at this
      omega
    have hr1 : ln - f * ld < ld := by
      have := Int.lt_ediv_add_one_mul_self ln h2
      rw [← hf, Int.add_mul, Int.one_mul] at this
      omega
    have eF : spF.den (spE E ln ld hn hd lN lD bN bD) = f := by
      show dq ln ld = f
      rw [dq_pos h2, hf]
    have eT : (BT.lt (.a2 3 (.a2 2 spNx (.var 3)) (.var 2)) (.lit 0)).den (spE E ln ld hn hd lN lD bN bD) = decide (cmpZ ((f + 1) * hd) hn < 0) := by
      show decide (cmpZ ((spF.den _ + 1) * hd) hn < 0) = _
      rw [eF]
    by_cases hc : (f + 1) * hd < hn
    · refine ⟨0, _, .iteT ?_ .leaf, ?_, ?_⟩
      · rw [eT, decide_eq_true_iff, cmpZ_lt hc]; decide
      · rw [simS, ← hf, if_pos hc] at hP
        show (spF.den _ + 1) * lN + bN = P
        rw [eF, ← hP]
        show (f + 1) * lN + bN = lN * (f + 1) + bN * 1
        grind
      · rw [simS, ← hf, if_pos hc] at hQ
        show (spF.den _ + 1) * lD + bD = Q
        rw [eF, ← hQ]
        show (f + 1) * lD + bD = lD * (f + 1) + bD * 1
        grind
    · have hg1 : hn - f * hd ≤ hd := by
        have : (f + 1) * hd = f * hd + hd := by grind
        omega
      have hg0 : 0 < hn - f * hd := by
        have e1 : f * ld * hd ≤ ln * hd := Int.mul_le_mul_of_nonneg_right (by omega) h4
        have e2 : f * hd * ld < hn * ld := by
          have : f * hd * ld = f * ld * hd := by grind
          omega
        have := lt_of_mul e2 h2
        omega
      have hlt2 : hd * (ln - f * ld) < ld * (hn - f * hd) := by grind
      have O := simS_ok k hd (hn - f * hd) ld (ln - f * ld) h4 hg0 h2 hr0 hlt2 (by omega)
      rw [simS, ← hf, if_neg hc] at hP hQ
      have p1 := O.p1
      have p2 := O.p2
      have hP' : (f * lN + bN) * (simS k hd (hn - f * hd) ld (ln - f * ld)).1 + lN * (simS k hd (hn - f * hd) ld (ln - f * ld)).2 = P := by
        rw [← hP]
        show _ = lN * (f * (simS k hd (hn - f * hd) ld (ln - f * ld)).1 + (simS k hd (hn - f * hd) ld (ln - f * ld)).2) + bN * (simS k hd (hn - f * hd) ld (ln - f * ld)).1
        grind
      have hQ' : (f * lD + bD) * (simS k hd (hn - f * hd) ld (ln - f * ld)).1 + lD * (simS k hd (hn - f * hd) ld (ln - f * ld)).2 = Q := by
        rw [← hQ]
        show _ = lD * (f * (simS k hd (hn - f * hd) ld (ln - f * ld)).1 + (simS k hd (hn - f * hd) ld (ln - f * ld)).2) + bD * (simS k hd (hn - f * hd) ld (ln - f * ld)).1
        grind
      have m1 : 0 ≤ f * lN := Int.mul_nonneg hf0 n1
      have m2 : 0 ≤ f * lD := Int.mul_nonneg hf0 n2
      have lg : Lim 710 (hn - f * hd) := lim_le lhd (by omega) hg1
      have lr : Lim 710 (ln - f * ld) := lim_le lld hr0 (by omega)
      obtain ⟨m, E', hR, e1, e2⟩ := ih hd (hn - f * hd) ld (ln - f * ld) (f * lN + bN) (f * lD + bD) lN lD h4 hg0 h2 hr0 hlt2 (by omega) (by omega) (by omega) n1 n2 lg lr hP' hQ'
      have big : ∀ {x y u v S : Int}, 0 ≤ x → 0 ≤ y → 0 < u → 0 < v → x * u + y * v = S → x ≤ S ∧ y ≤ S := by
        intro x y u v S hx hy hu hv hS
        have a1 : x * 1 ≤ x * u := Int.mul_le_mul_of_nonneg_left (by omega) hx
        have a2 : y * 1 ≤ y * v := Int.mul_le_mul_of_nonneg_left (by omega) hy
        have a3 : 0 ≤ x * u := Int.mul_nonneg hx (by omega)
        have a4 : 0 ≤ y * v := Int.mul_nonneg hy (by omega)
        omega
      obtain ⟨b1, b2⟩ := big (by omega) n1 p1 p2 hP'
      obtain ⟨b3, b4⟩ := big (by omega) n2 p1 p2 hQ'
      have hval : spAg.map (IT.den (spE E ln ld hn hd lN lD bN bD)) = [hd, hn - f * hd, ld, ln - f * ld, f * lN + bN, f * lD + bD, lN, lD] := by
        show [hd, hn - spF.den _ * hd, ld, dr ln ld, spF.den _ * lN + bN, spF.den _ * lD + bD, lN, lD] = _
        rw [eF, dr_ge h2, ← hf]
      have hup := spE_upd (E := E) (a := ln) (b := ld) (c := hn) (d := hd) (x := lN) (y := lD) (z := bN) (t := bD) _ _ _ _ _ _ _ _ _ hval
      refine ⟨m + 1, E', .iteF ?_ (.again (I := spI) (T := spTree) (by simp [Stk.set]) ⟨z8q, trivial, ?_⟩ ?_), e1, e2⟩
      · rw [eT, decide_eq_false_iff_not]
        rcases z2q ((f + 1) * hd) hn with ⟨h, e⟩ | ⟨h, e⟩ | ⟨h, e⟩ <;> rw [e] <;> omega
      · rw [hup]
        intro p hp
        simp only [spI, List.mem_cons, List.not_mem_nil, or_false] at hp
        rcases hp with rfl | rfl | rfl | rfl | rfl | rfl | rfl | rfl
        · exact lhd
        · exact lg
        · exact lld
        · exact lr
        · exact lim_le (x := f * lN + bN) lP (by omega) b1
        · exact lim_le (x := f * lD + bD) lQ (by omega) b3
        · exact lim_le lP n1 b2
        · exact lim_le lQ n2 b4
      · rw [hup]; exact hR
def spT : LTree := .loop 0 spI [.var 0, .var 1, .var 2, .var 3, .lit 1, .lit 0, .lit 0, .lit 1] spTree
def argB (i : Nat) : AV := .val true [.int (.var (2 * i)) 700, .int (.var (2 * i + 1)) 700]
theorem argB_holds {E : Env} {β : Nat → Nat} {w : World} {v : Value} {q : Rat} {i : Nat} (h : IsRat w v q) (l : LimQ 700 q) (e1 : E.i (2 * i) = q.num) (e2 : E.i (2 * i + 1) = (q.den : Int)) : (argB i).holds E β w v := by
  refine one_pair.2 ⟨?_, ?_, ?_⟩
  · show IsPair w v (E.i (2 * i)) (E.i (2 * i + 1)); rw [e1, e2]; exact h
  · show Lim 700 (E.i (2 * i)); rw [e1]; exact l.1
  · show Lim 700 (E.i (2 * i + 1)); rw [e2]; exact l.2
theorem simPos_calls (w : World) (v1 v2 : Value) (a b : Rat) (h1 : IsRat w v1 a) (h2 : IsRat w v2 b) (l1 : LimQ 700 a) (l2 : LimQ 700 b) (h0 : 0 ≤ a.num) (hlt : a < b) :
    Calls Tryz.prog 152 #[v1, v2] w (Ret (fun v w' => IsRat w' v (simP a b)) w) := by
  have da : 0 < (a.den : Int) := by have := a.den_pos; omega
  have db : 0 < (b.den : Int) := by have := b.den_pos; omega
  have hltI := (Rat.lt_iff a b).1 hlt
  have hb0 : 0 < b.num := by
    have e1 : 0 ≤ a.num * (b.den : Int) := Int.mul_nonneg h0 (by omega)
    exact pos_of_mul (show 0 < b.num * (a.den : Int) by omega) da
  obtain ⟨k, hk⟩ : ∃ k, k = ((a.den : Int) + (b.den : Int) + 1).toNat := ⟨_, rfl⟩
  have O := simS_ok k a.num (a.den : Int) b.num (b.den : Int) h0 da hb0 (by omega) hltI (by omega)
  obtain ⟨O1, O2⟩ := O.lim h0 da hb0 (by omega) hltI l1.1 l1.2 l2.1 l2.2
  obtain ⟨P1, P2⟩ := O.parts
  obtain ⟨m, E', hR, e1, e2⟩ := sp_run (qE [a, b]) _ _ (O1.mono (by omega)) (O2.mono (by omega)) k a.num (a.den : Int) b.num (b.den : Int) 1 0 0 1 h0 da hb0 (by omega) hltI (by omega) (by omega) (by omega) (by omega) (by omega) (l1.2.mono (by omega)) (l2.2.mono (by omega))
    (by rw [Int.one_mul, Int.zero_mul, Int.add_zero]) (by rw [Int.one_mul, Int.zero_mul, Int.zero_add])
  refine (loops_sound (Good := fun _ => True) (C := cfgOf tabSP) (L := fun _ => some spI) (E := qE [a, b]) (args := [argB 0, argB 1]) (T := spT) (l := spLeaf) (E' := E') (m := m)
    mixed (fun _ _ => cfg_ok tabSP_ok) z8q trivial Tryz.func152 (by decide +kernel) (by kernel_rfl) (by decide +kernel) rfl ?_ w [v1, v2] rfl ?_).mono ?_
  · have hval : [IT.var 0, .var 1, .var 2, .var 3, .lit 1, .lit 0, .lit 0, .lit 1].map (IT.den (qE [a, b])) = [a.num, (a.den : Int), b.num, (b.den : Int), 1, 0, 0, 1] := rfl
    refine .loop ⟨z8q, trivial, ?_⟩ ?_
    · rw [hval]
      intro p hp
      simp only [spI, List.mem_cons, List.not_mem_nil, or_false] at hp
      rcases hp with rfl | rfl | rfl | rfl | rfl | rfl | rfl | rfl
      · exact l1.1.mono (by omega)
      · exact l1.2.mono (by omega)
      · exact l2.1.mono (by omega)
      · exact l2.2.mono (by omega)
      · exact (lim1 (z := 1) (by decide)).mono (by omega)
      · exact lim_zero
      · exact lim_zero
      · exact (lim1 (z := 1) (by decide)).mono (by omega)
    · rw [hval]; exact hR
  · intro i x hx
    match i, hx with
    | 0, hx => injection hx with hx; subst hx; exact ⟨fun _ => 0, v1, rfl, argB_holds h1 l1 rfl rfl⟩
    | 1, hx => injection hx with hx; subst hx; exact ⟨fun _ => 0, v2, rfl, argB_holds h2 l2 rfl rfl⟩
  · rintro e w' ⟨β, u, rfl, hh, ex⟩
    refine ⟨u, rfl, ?_, ex⟩
    have kk := (one_pair.1 hh).1
    rw [e1, e2] at kk
    have hs : simP a b = Rat.divInt (simS k a.num (a.den : Int) b.num (b.den : Int)).1 (simS k a.num (a.den : Int) b.num (b.den : Int)).2 := by
      unfold simP simQ
      rw [← hk]
    show IsPair w' u (simP a b).num ((simP a b).den : Int)
    rw [hs, P1, P2]
    exact kk
end Go.Proofs.YtifeacfljfmnpaaGreat
end

section
set_option maxRecDepth 100000
namespace Go.Proofs.YtifeacfljfmnpaaGreat
open Go.RowKit
def RetSim (a b : Rat) (w : World) (e : Ending) (w' : World) : Prop := ∃ v, e = .returned (.tuple #[v, .int .i64 0]) ∧ IsRat w' v (simV a b) ∧ Ext w w'
def qneg (p : IT2) : IT2 := (.a1 0 p.1, p.2)
theorem rep_neg {E : Env} {p : IT2} {a : Rat} (h : RepQ E p a) : RepQ E (qneg p) (-a) := by
  constructor
  · show - p.1.den E = _
    rw [h.1, Rat.neg_num]
  · show p.2.den E = _
    rw [h.2, Rat.neg_den]
theorem limQ_neg {m : Nat} {a : Rat} (h : LimQ m a) : LimQ m (-a) := by
  refine ⟨?_, ?_⟩
  · rw [Rat.neg_num]; exact h.1.natAbs_le (by omega)
  · rw [Rat.neg_den]; exact h.2
def kSpX (tup : Bool) (p q : IT2) : Con
  | [.val true [.int x _, .int y _], .val true [.int z _, .int t _]], _ => if beq2 x y p && beq2 z t q then some (if tup then .tup [(true, [.int (.var 4) 710, .int (.var 5) 710]), (false, [.n .i64 (.lit 0)])] else .val true [.int (.var 4) 710, .int (.var 5) 710]) else none
  | _, _ => none
theorem kSpX_ok {a b s c d : Rat} {p q : IT2} {tup : Bool} (hp : RepQ (qE [a, b, s]) p c) (hq : RepQ (qE [a, b, s]) q d) (ls : LimQ 710 s) {f : Nat}
    (hc : ∀ (w : World) (v u : Value), IsRat w v c → IsRat w u d → Calls Tryz.prog f #[v, u] w (fun e w' => ∃ x, e = .returned (if tup then .tuple #[x, .int .i64 0] else x) ∧ IsRat w' x s ∧ Ext w w'))
    (hf : ∃ fn, Tryz.prog.funcs[f]? = some fn ∧ fn.name ≠ "runtime.NumGoroutine" ∧ fn.body.isNone = false) : ConOK Tryz.prog (qE [a, b, s]) f (kSpX tup p q) := by
  have rs : RepQ (qE [a, b, s]) (qv 2) s := rep_v (i := 2)
  refine ⟨?_, ?_, hf⟩
  · intro args As r h hG β w vs hv hlen
    unfold kSpX at h
    split at h
    · split at h
      · rename_i x l y m z k t j hm
        rw [Bool.and_eq_true] at hm
        obtain ⟨rfl, rfl⟩ := beq2_spec hm.1
        obtain ⟨rfl, rfl⟩ := beq2_spec hm.2
        injection h with h
        subst h
        obtain ⟨v, u, rfl, h1, h2⟩ := args2 hv hlen
        have p1 := (one_pair.1 h1).1
        have p2 := (one_pair.1 h2).1
        rw [hp.1, hp.2] at p1
        rw [hq.1, hq.2] at p2
        refine (hc w v u p1 p2).mono ?_
        rintro e w' ⟨x, rfl, hI, ex⟩
        have one : one (qE [a, b, s]) w' (true, [.int (.var 4) 710, .int (.var 5) 710]) x := by
          refine one_pair.2 ⟨?_, ?_, ?_⟩
          · show IsPair w' x ((qv 2).1.den _) ((qv 2).2.den _)
            rw [rs.1, rs.2]; exact hI
          · show Lim 710 ((qv 2).1.den _)
            rw [rs.1]; exact ls.1
          · show Lim 710 ((qv 2).2.den _)
            rw [rs.2]; exact ls.2
        cases tup with
        | false => exact ⟨x, rfl, one, ex⟩
        | true => exact ⟨_, rfl, ⟨[x, .int .i64 0], rfl, x, _, rfl, one, _, _, rfl, z9q.2 rfl, rfl⟩, ex⟩
      · cases h
    · cases h
  · intro args As r h x off
    unfold kSpX at h
    split at h
    · split at h
      · injection h with h; subst h; cases tup <;> (intro e; cases e)
      · cases h
    · cases h
def kVlC : Con
  | [.val true [.int x l, .int y m]], _ => if canon x y && (ql l && ql m) then some (.val false [.b (.lit true)]) else none
  | _, _ => none
theorem kVlC_ok {E : Env} (hE : QEnv E) : ConOK Tryz.prog E 124 kVlC := by
  refine ⟨?_, ?_, ⟨_, Tryz.func124, by decide +kernel, by kernel_rfl⟩⟩
  · intro args As r h hG β w vs hv hlen
    unfold kVlC at h
    split at h
    · split at h
      · rename_i hm
        simp only [ql, Bool.and_eq_true, decide_eq_true_iff] at hm
        obtain ⟨c1, b1, b2⟩ := hm
        injection h with h
        subst h
        obtain ⟨v, rfl, h1⟩ := args1 hv hlen
        obtain ⟨q, _, e1, e2, hq, m1, m2⟩ := one_ratQ hE c1 h1
        refine (validP_calls w v q.num (q.den : Int) hq (m1.mono b1) (m2.mono b2)).mono ?_
        rintro e w' ⟨rfl, ex⟩
        refine ⟨_, rfl, z11q.2 ?_, ex⟩
        have r' : Nat.gcd q.num.natAbs (q.den : Int).natAbs = 1 := q.reduced
        rw [r', decide_eq_true (by have := q.den_pos; omega)]
        rfl
      · cases h
    · cases h
  · intro args As r h x off
    unfold kVlC at h
    split at h
    · split at h
      · injection h with h; subst h; intro e; cases e
      · cases h
    · cases h
def cmpG (c : Bool) : BT × Bool := (.le (.lit 0) (qcmp (qv 0) (qv 1)), c)
def saG (c : Bool) : BT × Bool := (.le (.lit 0) (.a2 3 (.var 0) (.lit 0)), c)
def sbL (c : Bool) : BT × Bool := (.le (.a2 3 (.var 2) (.lit 0)) (.lit 0), c)
theorem sg_nonneg (n : Int) : (0 ≤ cmpZ n 0) ↔ 0 ≤ n := by rcases z2q n 0 with ⟨h, e⟩ | ⟨h, e⟩ | ⟨h, e⟩ <;> rw [e] <;> omega
theorem cmpG_ok {a b : Rat} {l : List Rat} : (cmpG false).1.den (qE (a :: b :: l)) = decide (¬ a < b) := by
  have ra : RepQ (qE (a :: b :: l)) (qv 0) a := rep_v (i := 0)
  have rb : RepQ (qE (a :: b :: l)) (qv 1) b := rep_v (i := 1)
  have rc := rep_cmp ra rb
  show decide (0 ≤ (qcmp (qv 0) (qv 1)).den (qE (a :: b :: l))) = _
  rw [rc]
  rcases sgQ_cases (a - b) with ⟨k, e⟩ | ⟨k, e⟩ | ⟨k, e⟩ <;> rw [e]
  · rw [decide_eq_false (by decide), decide_eq_false (by grind)]
  · rw [decide_eq_true (by decide), decide_eq_true (by grind)]
  · rw [decide_eq_true (by decide), decide_eq_true (by grind)]
theorem simP_lim {l : Nat} {a b : Rat} (l1 : LimQ l a) (l2 : LimQ l b) (h0 : 0 ≤ a.num) (hlt : a < b) : LimQ (l + 1) (simP a b) := by
  have da : 0 < (a.den : Int) := by have := a.den_pos; omega
  have db : 0 < (b.den : Int) := by have := b.den_pos; omega
  have hltI := (Rat.lt_iff a b).1 hlt
  have hb0 : 0 < b.num := by
    have e1 : 0 ≤ a.num * (b.den : Int) := Int.mul_nonneg h0 (by omega)
    exact pos_of_mul (show 0 < b.num * (a.den : Int) by omega) da
  have O := simS_ok ((a.den : Int) + (b.den : Int) + 1).toNat a.num (a.den : Int) b.num (b.den : Int) h0 da hb0 (by omega) hltI (by omega)
  obtain ⟨O1, O2⟩ := O.lim h0 da hb0 (by omega) hltI l1.1 l1.2 l2.1 l2.2
  obtain ⟨P1, P2⟩ := O.parts
  unfold simP simQ
  exact ⟨by rw [P1]; exact O1, by rw [P2]; exact O2⟩
end Go.Proofs.YtifeacfljfmnpaaGreat
end

section
set_option maxRecDepth 100000
namespace Go.Proofs.YtifeacfljfmnpaaGreat
open Go.RowKit
theorem sg_le (n : Int) : (cmpZ n 0 ≤ 0) ↔ n ≤ 0 := by rcases z2q n 0 with ⟨h, e⟩ | ⟨h, e⟩ | ⟨h, e⟩ <;> rw [e] <;> omega
theorem args2B {E : Env} {w : World} {v1 v2 : Value} {a b : Rat} (h1 : IsRat w v1 a) (h2 : IsRat w v2 b) (l1 : LimQ 700 a) (l2 : LimQ 700 b) (e0 : E.i 0 = a.num) (e1 : E.i 1 = (a.den : Int)) (e2 : E.i 2 = b.num) (e3 : E.i 3 = (b.den : Int)) :
    ∀ (i : Nat) (x : AV), [argB 0, argB 1][i]? = some x → ∃ β v, [v1, v2][i]? = some v ∧ x.holds E β w v := by
  intro i x hx
  match i, hx with
  | 0, hx => injection hx with hx; subst hx; exact ⟨fun _ => 0, v1, rfl, argB_holds h1 l1 e0 e1⟩
  | 1, hx => injection hx with hx; subst hx; exact ⟨fun _ => 0, v2, rfl, argB_holds h2 l2 e2 e3⟩
theorem open_sim {E : Env} {β : Nat → Nat} {w' : World} {v : Value} {p : IT2} {l m : Nat} {z : Int} {q : Rat} (hp : RepQ E p q) (hx : (AV.tup [(true, [.int p.1 l, .int p.2 m]), (false, [.n .i64 (.lit z)])]).holds E β w' v) : ∃ x, v = .tuple #[x, .int .i64 z] ∧ IsRat w' x q := by
  obtain ⟨vs, rfl, u1, r1, rfl, k1, u2, r2, rfl, k2, hn⟩ := hx
  simp only [tupAll] at hn
  subst hn
  have k2' := z9q.1 k2
  subst k2'
  have k := (one_pair.1 k1).1
  rw [hp.1, hp.2] at k
  exact ⟨u1, rfl, k⟩
theorem prog_sim_pos (w : World) (v1 v2 : Value) (a b : Rat) (h1 : IsRat w v1 a) (h2 : IsRat w v2 b) (l1 : LimQ 700 a) (l2 : LimQ 700 b) (h0 : 0 ≤ a.num) (hlt : a < b) :
    Calls Tryz.prog 78 #[v1, v2] w (RetSim a b w) := by
  refine (z5q (C := cfgOf ((152, kSpX false (qv 0) (qv 1)) :: (124, kVlC) :: tabT)) (E := qE [a, b, simP a b]) (G := [cmpG false, saG true]) (args := [argB 0, argB 1]) (T := .leaf [(true, [.int (qv 2).1 710, .int (qv 2).2 710]), (false, [.n .i64 (.lit 0)])])
    mixed (cfg_ok (.cons (kSpX_ok (tup := false) (c := a) (d := b) rep_v rep_v ⟨(simP_lim l1 l2 h0 hlt).1.mono (by omega), (simP_lim l1 l2 h0 hlt).2.mono (by omega)⟩ (fun w v u hv hu => (simPos_calls w v u _ _ hv hu l1 l2 h0 hlt).mono (fun e w' ⟨x, h1, h2, h3⟩ => ⟨x, h1, h2, h3⟩)) ⟨_, Tryz.func152, by decide +kernel, by kernel_rfl⟩) (.cons (kVlC_ok (qE_ok _)) (tabT_ok (qE_ok _))))) ?_ Tryz.func78 (by decide +kernel) (by kernel_rfl) (by decide +kernel) rfl w [v1, v2] rfl (args2B h1 h2 l1 l2 rfl rfl rfl rfl)).mono ?_
  · intro p hp
    simp only [List.mem_cons, List.not_mem_nil, or_false] at hp
    rcases hp with rfl | rfl
    · exact cmpG_ok.trans (decide_eq_false (fun h => h hlt))
    · exact decide_eq_true ((sg_nonneg a.num).2 h0)
  · rintro e w' ⟨β, u, rfl, hh, ex⟩
    have rs : RepQ (qE [a, b, simP a b]) (qv 2) (simP a b) := rep_v (i := 2)
    obtain ⟨x, rfl, hI⟩ := open_sim rs hh
    refine ⟨x, rfl, ?_, ex⟩
    unfold simV
    rw [if_pos h0]
    exact hI
theorem prog_sim_neg (w : World) (v1 v2 : Value) (a b : Rat) (h1 : IsRat w v1 a) (h2 : IsRat w v2 b) (l1 : LimQ 700 a) (l2 : LimQ 700 b) (h0 : ¬ 0 ≤ a.num) (hb : b.num ≤ 0) (hlt : a < b) (hn0 : 0 ≤ (-b).num) (hnl : -b < -a) :
    Calls Tryz.prog 78 #[v1, v2] w (RetSim a b w) := by
  refine (z5q (C := cfgOf ((152, kSpX false (qneg (qv 1)) (qneg (qv 0))) :: (124, kVlC) :: tabT)) (E := qE [a, b, simP (-b) (-a)]) (G := [cmpG false, saG false, sbL true]) (args := [argB 0, argB 1]) (T := .leaf [(true, [.int (qneg (qv 2)).1 710, .int (qneg (qv 2)).2 710]), (false, [.n .i64 (.lit 0)])])
    mixed (cfg_ok (.cons (kSpX_ok (tup := false) (c := -b) (d := -a) (rep_neg rep_v) (rep_neg rep_v) ⟨(simP_lim (limQ_neg l2) (limQ_neg l1) hn0 hnl).1.mono (by omega), (simP_lim (limQ_neg l2) (limQ_neg l1) hn0 hnl).2.mono (by omega)⟩ (fun w v u hv hu => (simPos_calls w v u _ _ hv hu (limQ_neg l2) (limQ_neg l1) hn0 hnl).mono (fun e w' ⟨x, h1, h2, h3⟩ => ⟨x, h1, h2, h3⟩)) ⟨_, Tryz.func152, by decide +kernel, by kernel_rfl⟩) (.cons (kVlC_ok (qE_ok _)) (tabT_ok (qE_ok _))))) ?_ Tryz.func78 (by decide +kernel) (by kernel_rfl) (by decide +kernel) rfl w [v1, v2] rfl (args2B h1 h2 l1 l2 rfl rfl rfl rfl)).mono ?_
  · intro p hp
    simp only [List.mem_cons, List.not_mem_nil, or_false] at hp
    rcases hp with rfl | rfl | rfl
    · exact cmpG_ok.trans (decide_eq_false (fun h => h hlt))
    · exact decide_eq_false (fun h => h0 ((sg_nonneg a.num).1 h))
    · exact decide_eq_true ((sg_le b.num).2 hb)
  · rintro e w' ⟨β, u, rfl, hh, ex⟩
    have rs : RepQ (qE [a, b, simP (-b) (-a)]) (qv 2) (simP (-b) (-a)) := rep_v (i := 2)
    obtain ⟨x, rfl, hI⟩ := open_sim (rep_neg rs) hh
    refine ⟨x, rfl, ?_, ex⟩
    unfold simV
    rw [if_neg h0, if_pos hb]
    exact hI
theorem prog_sim_zero (w : World) (v1 v2 : Value) (a b : Rat) (h1 : IsRat w v1 a) (h2 : IsRat w v2 b) (l1 : LimQ 700 a) (l2 : LimQ 700 b) (h0 : ¬ 0 ≤ a.num) (hb : ¬ b.num ≤ 0) (hlt : a < b) :
    Calls Tryz.prog 78 #[v1, v2] w (RetSim a b w) := by
  refine (z5q (C := cfgOf ((124, kVlC) :: tabT)) (E := qE [a, b, 0]) (G := [cmpG false, saG false, sbL false]) (args := [argB 0, argB 1]) (T := .leaf [(true, [.int ((IT.lit 0, IT.lit 1)).1 3, .int ((IT.lit 0, IT.lit 1)).2 3]), (false, [.n .i64 (.lit 0)])])
    mixed (cfg_ok (.cons (kVlC_ok (qE_ok _)) (tabT_ok (qE_ok _)))) ?_ Tryz.func78 (by decide +kernel) (by kernel_rfl) (by decide +kernel) rfl w [v1, v2] rfl (args2B h1 h2 l1 l2 rfl rfl rfl rfl)).mono ?_
  · intro p hp
    simp only [List.mem_cons, List.not_mem_nil, or_false] at hp
    rcases hp with rfl | rfl | rfl
    · exact cmpG_ok.trans (decide_eq_false (fun h => h hlt))
    · exact decide_eq_false (fun h => h0 ((sg_nonneg a.num).1 h))
    · exact decide_eq_false (fun h => by have := (sg_le b.num).1 h; omega)
  · rintro e w' ⟨β, u, rfl, hh, ex⟩
    have rs : RepQ (qE [a, b, 0]) (qv 2) (0) := rep_v (i := 2)
    have rz : RepQ (qE [a, b, 0]) (.lit 0, .lit 1) (0 : Rat) := ⟨rfl, rfl⟩
    obtain ⟨x, rfl, hI⟩ := open_sim rz hh
    refine ⟨x, rfl, ?_, ex⟩
    unfold simV
    rw [if_neg h0, if_neg hb]
    exact hI
end Go.Proofs.YtifeacfljfmnpaaGreat
end

section
set_option maxRecDepth 100000
namespace Go.Proofs.YtifeacfljfmnpaaGreat
open Go.RowKit
def tq : List Rat → List Chunk → Bool
  | [], [] => true
  | q :: qs, .int x _ :: .int y _ :: cs => x.cl == some q.num && (y.cl == some (q.den : Int) && tq qs cs)
  | _, _ => false
theorem tq_holds {E : Env} {w : World} : ∀ {qs : List Rat} {cs : List Chunk} {vs : List Value}, tq qs cs = true → chunks E w cs vs → RatsQ w vs qs
  | [], cs, vs, h, hc => by
    unfold tq at h
    split at h
    · exact hc
    · contradiction
    · cases h
  | q :: qs, cs, vs, h, hc => by
    unfold tq at h
    split at h
    · contradiction
    · rename_i q' qs' x l y m cs' e
      cases e
      simp only [Bool.and_eq_true, beq_iff_eq] at h
      obtain ⟨h1, h2, h3⟩ := h
      obtain ⟨x', r, rfl, k1, k2⟩ := (two_chunks (A := (x, y)) (a := q) ⟨IT.cl_spec h1, IT.cl_spec h2⟩).1 hc
      exact ⟨x', r, rfl, k1.1, tq_holds h3 k2⟩
    · cases h
def cqs : List (List Rat) → List AV → Bool
  | [], [] => true
  | l :: ls, .val true cs :: xs => tq l cs && cqs ls xs
  | _, _ => false
def ArgsQ (w : World) : List Value → List (List Rat) → Prop
  | [], [] => True
  | v :: vs, l :: ls => IsQs w v l ∧ ArgsQ w vs ls
  | _, _ => False
theorem cqs_holds {E : Env} {β : Nat → Nat} {w : World} : ∀ {ls : List (List Rat)} {args : List AV} {vs : List Value}, cqs ls args = true → (∀ (i : Nat) (x : AV), args[i]? = some x → ∃ v, vs[i]? = some v ∧ x.holds E β w v) → vs.length = args.length → ArgsQ w vs ls
  | [], args, vs, h, hv, hl => by
    unfold cqs at h
    split at h
    · match vs, hl with
      | [], _ => exact trivial
    · contradiction
    · cases h
  | l :: ls, args, vs, h, hv, hl => by
    unfold cqs at h
    split at h
    · contradiction
    · rename_i l' ls' cs xs e
      cases e
      rw [Bool.and_eq_true] at h
      obtain ⟨v, h1, h2⟩ := hv 0 _ rfl
      match vs, hl, h1 with
      | u :: us, hl, h1 =>
        injection h1 with h1
        subst h1
        obtain ⟨ys, rfl, hy⟩ := h2
        exact ⟨⟨ys, rfl, tq_holds h.1 hy⟩, cqs_holds h.2 (fun i x hx => hv (i + 1) x hx) (by simpa using hl)⟩
    · cases h
theorem knownL {E : Env} {f : Nat} {ls : List (List Rat)} {r : AV} (np : ∀ x off, r ≠ .ptr x off) (h : ∀ (w : World) (vs : List Value), ArgsQ w vs ls → Calls Tryz.prog f vs.toArray w fun e w' => ∃ x, e = .returned x ∧ (∀ β, r.holds E β w' x) ∧ Ext w w') : KnownR E f (cqs ls) r :=
  ⟨fun _ hc _ w vs hv hl => h w vs (cqs_holds hc hv hl), np⟩
theorem qs_rat {w : World} {v : Value} {q : Rat} (h : IsQs w v [q]) : IsRat w v q := by
  obtain ⟨vs, rfl, x, r, rfl, h1, rfl⟩ := h
  rw [List.append_nil]
  exact h1
theorem qs_root {w : World} {v : Value} {a b c : Rat} (h : IsQs w v [a, b, c]) : z16q w v a b c := by
  obtain ⟨vs, rfl, h⟩ := h
  exact rats3 h
theorem argsQ1 {w : World} {vs : List Value} {l : List Rat} (h : ArgsQ w vs [l]) : ∃ v, vs = [v] ∧ IsQs w v l := by
  match vs, h with
  | [v], h => exact ⟨v, rfl, h.1⟩
theorem argsQ2 {w : World} {vs : List Value} {l m : List Rat} (h : ArgsQ w vs [l, m]) : ∃ v u, vs = [v, u] ∧ IsQs w v l ∧ IsQs w u m := by
  match vs, h with
  | [v, u], h => exact ⟨v, u, rfl, h.1, h.2.1⟩
def foldC : Chunk → Chunk
  | .int t l => .int t.fold l
  | .n k t => .n k t.fold
  | c => c
def foldAV : AV → AV
  | .val b cs => .val b (cs.map foldC)
  | .tup l => .tup (l.map fun p => (p.1, p.2.map foldC))
  | x => x
theorem foldC_holds {E : Env} {w : World} {c : Chunk} {vs : List Value} (h : c.holds E w vs) : (foldC c).holds E w vs := by
  cases c with
  | int t l =>
    obtain ⟨x, y, rfl, h1, h2⟩ := h
    exact ⟨x, y, rfl, by rw [IT.fold_den]; exact h1, by rw [IT.fold_den]; exact h2⟩
  | n k t =>
    show vs = [.int k (t.fold.den E)]
    rw [IT.fold_den]
    exact h
  | _ => exact h
theorem foldCs_holds {E : Env} {w : World} : ∀ {cs : List Chunk} {vs : List Value}, chunks E w cs vs → chunks E w (cs.map foldC) vs
  | [], _, h => h
  | _ :: _, _, ⟨l, r, e, h1, h2⟩ => ⟨l, r, e, foldC_holds h1, foldCs_holds h2⟩
theorem foldO_holds {E : Env} {w : World} {b : Bool} {cs : List Chunk} {v : Value} (h : one E w (b, cs) v) : one E w (b, cs.map foldC) v := by
  cases b with
  | true =>
    obtain ⟨vs, rfl, h1⟩ := h
    exact ⟨vs, rfl, foldCs_holds h1⟩
  | false => exact ⟨foldCs_holds h.1, h.2⟩
theorem foldT_holds {E : Env} {w : World} : ∀ {l : List (Bool × List Chunk)} {vs : List Value}, tupAll E w l vs → tupAll E w (l.map fun p => (p.1, p.2.map foldC)) vs
  | [], _, h => h
  | _ :: _, _, ⟨v, r, e, h1, h2⟩ => ⟨v, r, e, foldO_holds h1, foldT_holds h2⟩
theorem foldAV_holds {E : Env} {β : Nat → Nat} {w : World} {x : AV} {v : Value} (h : x.holds E β w v) : (foldAV x).holds E β w v := by
  cases x with
  | val b cs => exact foldO_holds h
  | tup l =>
    obtain ⟨vs, rfl, h1⟩ := h
    exact ⟨vs, rfl, foldT_holds h1⟩
  | ptr x off => exact h
  | bad => exact h
def kFold (k : Con) : Con := fun args G => (k args G).map foldAV
theorem kFold_ok {P : Program} {E : Env} {f : Nat} {k : Con} (h : ConOK P E f k) : ConOK P E f (kFold k) := by
  refine ⟨?_, ?_, h.body⟩
  · intro args G r hr hG β w vs hv hl
    obtain ⟨y, hy, rfl⟩ := Option.map_eq_some_iff.1 hr
    refine (h.calls args G y hy hG β w vs hv hl).mono ?_
    rintro e w' ⟨v, rfl, hh, ex⟩
    exact ⟨v, rfl, foldAV_holds hh, ex⟩
  · intro args G r hr x off e
    obtain ⟨y, hy, rfl⟩ := Option.map_eq_some_iff.1 hr
    have := h.nptr args G y hy x off
    cases y with
    | ptr a b => exact this e
    | _ => cases e
def limB (n : Nat) (q : Rat) : Bool := decide ((limbs q.num.natAbs).length ≤ n) && decide ((limbs (q.den : Int).natAbs).length ≤ n)
theorem limB_ok {n : Nat} {q : Rat} (h : limB n q = true) : LimQ n q := by
  unfold limB at h
  rw [Bool.and_eq_true, decide_eq_true_iff, decide_eq_true_iff] at h
  exact h
def limB3 (n : Nat) (a b c : Rat) : Bool := limB n a && (limB n b && limB n c)
theorem limB3_ok {n : Nat} {a b c : Rat} (h : limB3 n a b c = true) : LimR n a b c := by
  unfold limB3 at h
  rw [Bool.and_eq_true, Bool.and_eq_true] at h
  exact ⟨limB_ok h.1, limB_ok h.2.1, limB_ok h.2.2⟩
theorem rd_of {b c : Rat} (h : Rdb b c = true) : Rd b c := Rdb_iff.1 h
theorem cmp_known {E : Env} {a b c a' b' c' : Rat} {z : Int} (h1 : Rdb b c = true) (h2 : Rdb b' c' = true) (l : LimR 9 a b c) (l' : LimR 9 a' b' c') (hz : cmR a b c a' b' c' = z) : KnownR E 75 (cqs [[a, b, c], [a', b', c']]) (rNq z) := by
  refine knownL (fun x off e => by cases e) fun w vs hv => ?_
  obtain ⟨v, u, rfl, k1, k2⟩ := argsQ2 hv
  refine (radCmp_calls w v u a b c a' b' c' (rd_of h1) (rd_of h2) (qs_root k1) (qs_root k2) l l').mono ?_
  rintro e w' ⟨rfl, ex⟩
  exact ⟨_, rfl, fun β => z9q.2 (by rw [hz]; rfl), ex⟩
def lq (q : Rat) : IT2 := (.lit q.num, .lit (q.den : Int))
theorem equal_known {E : Env} {a b c a' b' c' : Rat} {z : Bool} (h1 : Rdb b c = true) (h2 : Rdb b' c' = true) (l : LimR 9 a b c) (l' : LimR 9 a' b' c') (hz : (cmR a b c a' b' c' == 0) = z) : KnownR E 71 (cqs [[a, b, c], [a', b', c']]) (rBl z) := by
  refine knownL (fun x off e => by cases e) fun w vs hv => ?_
  obtain ⟨v, u, rfl, k1, k2⟩ := argsQ2 hv
  refine (radEqual_calls w v u a b c a' b' c' (rd_of h1) (rd_of h2) (qs_root k1) (qs_root k2) l l').mono ?_
  rintro e w' ⟨rfl, ex⟩
  exact ⟨_, rfl, fun β => z11q.2 (by rw [hz]; rfl), ex⟩
end Go.Proofs.YtifeacfljfmnpaaGreat
end

section
set_option maxRecDepth 100000
namespace Go.Proofs.YtifeacfljfmnpaaGreat
open Go.RowKit
def fBq (b : Bool) : Tree := .leaf [(false, [.b (.lit b)])]
def tFew : Nat → Nat → Tree
  | _, 0 => fBq true
  | i, n + 1 => .ite (.lt (.lit 2) (.rlen (2 * i))) (fBq false) (.ite (.lt (.lit 2) (.rlen (2 * i + 1))) (fBq false) (.ite (.var i) (tFew (i + 1) n) (fBq false)))
def okw (E : Env) (i : Nat) : Prop := (E.r (2 * i)).2.length ≤ 2 ∧ (E.r (2 * i + 1)).2.length ≤ 2 ∧ E.b i = true
theorem tFew_pick {E : Env} : ∀ (n i : Nat), ∃ b, (tFew i n).pick E = [(false, [.b (.lit b)])] ∧ (b = true ↔ ∀ j, j < n → okw E (i + j))
  | 0, i => ⟨true, rfl, by simp⟩
  | n + 1, i => by
    obtain ⟨b, h1, h2⟩ := tFew_pick (E := E) n (i + 1)
    have c1 : (BT.lt (.lit 2) (.rlen (2 * i))).den E = decide ((E.r (2 * i)).2.length > 2) := by
      show decide ((2 : Int) < ((E.r (2 * i)).2.length : Int)) = _
      rw [decide_eq_decide]; omega
    have c2 : (BT.lt (.lit 2) (.rlen (2 * i + 1))).den E = decide ((E.r (2 * i + 1)).2.length > 2) := by
      show decide ((2 : Int) < ((E.r (2 * i + 1)).2.length : Int)) = _
      rw [decide_eq_decide]; omega
    have c3 : (BT.var i).den E = E.b i := rfl
    have bad : ¬ okw E i → ∃ b, (fBq false).pick E = [(false, [.b (.lit b)])] ∧ (b = true ↔ ∀ j, j < n + 1 → okw E (i + j)) := fun h => ⟨false, rfl, by
      constructor
      · intro h; cases h
      · intro g; exact absurd (g 0 (by omega)) h⟩
    simp only [tFew, Tree.pick, c1, c2, c3, decide_eq_true_eq]
    split
    · exact bad (fun h => by unfold okw at h; omega)
    · split
      · exact bad (fun h => by unfold okw at h; omega)
      · split
        · rename_i g1 g2 g3
          refine ⟨b, h1, ?_⟩
          rw [h2]
          constructor
          · intro h j hj
            match j with
            | 0 =>
              show okw E i
              exact ⟨by omega, by omega, g3⟩
            | j + 1 => have := h j (by omega); rwa [show i + 1 + j = i + (j + 1) by omega] at this
          · intro h j hj
            have := h (j + 1) (by omega)
            rwa [show i + (j + 1) = i + 1 + j by omega] at this
        · rename_i g3
          exact bad (fun h => g3 h.2.2)
def rawW (l : List RI) (i : Nat) : RI := l.getD i (false, [])
def rawL (i n : Nat) : List Chunk := (List.range n).map fun k => .raw (i + k)
theorem ints_raws2 {E E' : Env} {w : World} {i' l : Nat} : ∀ (n i : Nat) (vs : List Value), chunks E w ((List.range n).map fun k => .int (.var (i + k)) l) vs → (∀ k, k < n → E'.r (i' + k) = (decide (E.i (i + k) < 0), limbs (E.i (i + k)).natAbs)) → chunks E' w (rawL i' n) vs := by
  intro n
  induction n generalizing i' with
  | zero => intro i vs h _; exact h
  | succ n ih =>
    intro i vs h e
    unfold rawL
    rw [List.range_succ_eq_map, List.map_cons, List.map_map] at h ⊢
    obtain ⟨l', r, rfl, h1, h2⟩ := h
    refine ⟨l', r, rfl, int_chunk h1 (e 0 (by omega)), ?_⟩
    have key := ih (i' := i' + 1) (i + 1) r (by
      have : (List.range n).map ((fun k => Chunk.int (.var (i + k)) l) ∘ Nat.succ) = (List.range n).map fun k => Chunk.int (.var (i + 1 + k)) l := List.map_congr_left fun k _ => by simp only [Function.comp]; rw [show i + (k + 1) = i + 1 + k by omega]
      rw [← this]; exact h2) (fun k hk => by
        have := e (k + 1) (by omega)
        rwa [show i + (k + 1) = i + 1 + k by omega, show i' + (k + 1) = i' + 1 + k by omega] at this)
    have : (List.range n).map ((fun k => Chunk.raw (i' + k)) ∘ Nat.succ) = (List.range n).map fun k => Chunk.raw (i' + 1 + k) := List.map_congr_left fun k _ => by simp only [Function.comp]; rw [show i' + (k + 1) = i' + 1 + k by omega]
    rw [this]; exact key
theorem raws_raws2 {E E' : Env} {w : World} : ∀ (n i i' : Nat) (vs : List Value), chunks E w (rawL i n) vs → (∀ k, k < n → E'.r (i' + k) = E.r (i + k)) → chunks E' w (rawL i' n) vs := by
  intro n
  induction n with
  | zero => intro i i' vs h _; exact h
  | succ n ih =>
    intro i i' vs h e
    unfold rawL at h ⊢
    rw [List.range_succ_eq_map, List.map_cons, List.map_map] at h ⊢
    obtain ⟨l', r, rfl, ⟨x, y, rfl, h1⟩, h2⟩ := h
    refine ⟨_, r, rfl, ⟨x, y, rfl, ?_⟩, ?_⟩
    · have := e 0 (by omega)
      rw [this]; exact h1
    · have key := ih (i + 1) (i' + 1) r (by
        have : (List.range n).map ((fun k => Chunk.raw (i + k)) ∘ Nat.succ) = rawL (i + 1) n := List.map_congr_left fun k _ => by simp only [Function.comp]; rw [show i + (k + 1) = i + 1 + k by omega]
        rw [← this]; exact h2) (fun k hk => by
          have := e (k + 1) (by omega)
          rwa [show i + (k + 1) = i + 1 + k by omega, show i' + (k + 1) = i' + 1 + k by omega] at this)
      have : (List.range n).map ((fun k => Chunk.raw (i' + k)) ∘ Nat.succ) = rawL (i' + 1) n := List.map_congr_left fun k _ => by simp only [Function.comp]; rw [show i' + (k + 1) = i' + 1 + k by omega]
      rw [this]; exact key
theorem smN_rawQ {n : Nat} {w : World} {v : Value} {q : Rat} (h : IsRat w v q) (l : LimQ n q) : smN n (decide (q.num < 0), limbs q.num.natAbs) (decide ((q.den : Int) < 0), limbs (q.den : Int).natAbs) = true := by
  unfold smN
  have l1 : (limbs q.num.natAbs).length ≤ n := l.1
  have l2 : (limbs (q.den : Int).natAbs).length ≤ n := l.2
  rw [(rat_raw h).2, decide_eq_true l1, decide_eq_true l2]
  rfl
end Go.Proofs.YtifeacfljfmnpaaGreat
end

section
set_option maxRecDepth 100000
namespace Go.Proofs.YtifeacfljfmnpaaGreat
open Go.RowKit
theorem rq_rawQ (q : Rat) : rq (decide (q.num < 0), limbs q.num.natAbs) (decide ((q.den : Int) < 0), limbs (q.den : Int).natAbs) = q := by
  have e3 : sgn (decide (q.num < 0)) (val (limbs q.num.natAbs)) = q.num := by rw [z1q]; exact sgn_self q.num
  have e4 : sgn (decide ((q.den : Int) < 0)) (val (limbs (q.den : Int).natAbs)) = (q.den : Int) := by rw [z1q]; exact sgn_self (q.den : Int)
  show Rat.divInt _ _ = _
  rw [e3, e4]
  exact Rat.num_divInt_den q
theorem lawQ_calls {C : Cfg} {E : Env} (hC : CfgOK Tryz.prog E C) (hw : ∀ w, C.wok w) {G : Asm} (hG : G.holds E) {f : FuncId} {fn : Func} (hf : Tryz.prog.funcs[f]? = some fn) (h4 : fn.results.toList.length ≤ 4) {args : List AV} (hT : okTr (funE C fn G args) = true) (hn : args.length ≤ fn.ntmps) (hp : args.all noPtr = true) (w : World) (vs : List Value) (hl : vs.length = args.length)
    (hv : ∀ (i : Nat) (x : AV), args[i]? = some x → ∃ v, vs[i]? = some v ∧ ∀ β, x.holds E β w v) : Calls Tryz.prog f vs.toArray w (IsT w) := by
  obtain ⟨T, hT, hall⟩ := okTr_spec hT
  refine (z5q mixed hC hG hf h4 hT hn hp w vs hl (fun i x hx => ?_) (fun w' _ => hw w')).mono ?_
  · obtain ⟨v, h1, h2⟩ := hv i x hx
    exact ⟨fun _ => 0, v, h1, h2 _⟩
  · rintro e w' ⟨β, v, rfl, hh, ex⟩
    rw [allT_out hall hh]
    exact ⟨rfl, ex⟩
end Go.Proofs.YtifeacfljfmnpaaGreat
end

section
set_option maxRecDepth 100000
namespace Go.Proofs.YtifeacfljfmnpaaGreat
open Go.RowKit
def cts : List (List IT2) → List AV → Bool
  | [], [] => true
  | l :: ls, .val true cs :: xs => t6 l cs && cts ls xs
  | _, _ => false
def RepsL (E : Env) : List (List IT2) → List (List Rat) → Prop
  | [], [] => True
  | t :: ts, q :: qs => Reps E t q ∧ RepsL E ts qs
  | _, _ => False
theorem cts_holds {E : Env} {β : Nat → Nat} {w : World} : ∀ {ts : List (List IT2)} {ls : List (List Rat)} {args : List AV} {vs : List Value}, RepsL E ts ls → cts ts args = true → (∀ (i : Nat) (x : AV), args[i]? = some x → ∃ v, vs[i]? = some v ∧ x.holds E β w v) → vs.length = args.length → ArgsQ w vs ls
  | [], [], args, vs, _, h, hv, hl => by
    unfold cts at h
    split at h
    · match vs, hl with
      | [], _ => exact trivial
    · contradiction
    · cases h
  | [], _ :: _, _, _, hr, _, _, _ => hr.elim
  | _ :: _, [], _, _, hr, _, _, _ => hr.elim
  | t :: ts, l :: ls, args, vs, hr, h, hv, hl => by
    unfold cts at h
    split at h
    · contradiction
    · rename_i l' ls' cs xs e
      cases e
      rw [Bool.and_eq_true] at h
      obtain ⟨v, h1, h2⟩ := hv 0 _ rfl
      match vs, hl, h1 with
      | u :: us, hl, h1 =>
        injection h1 with h1
        subst h1
        obtain ⟨ys, rfl, hy⟩ := h2
        exact ⟨⟨ys, rfl, t6_holds hr.1 h.1 hy⟩, cts_holds hr.2 h.2 (fun i x hx => hv (i + 1) x hx) (by simpa using hl)⟩
    · cases h
theorem knownT {E : Env} {f : Nat} {ts : List (List IT2)} {ls : List (List Rat)} {r : AV} (hr : RepsL E ts ls) (np : ∀ x off, r ≠ .ptr x off) (h : ∀ (w : World) (vs : List Value), ArgsQ w vs ls → Calls Tryz.prog f vs.toArray w fun e w' => ∃ x, e = .returned x ∧ (∀ β, r.holds E β w' x) ∧ Ext w w') : KnownR E f (cts ts) r :=
  ⟨fun _ hc _ w vs hv hl => h w vs (cts_holds hr hc hv hl), np⟩
def RawN (w : World) (v : Value) (n : Nat) (l : List RI) : Prop := ∃ vs : List Value, v = .agg vs.toArray ∧ chunks (bE okQ l) w (rawL 0 (2 * n)) vs
theorem rawL_two (i n : Nat) : rawL i (2 * (n + 1)) = .raw i :: .raw (i + 1) :: rawL (i + 2) (2 * n) := by
  unfold rawL
  rw [show 2 * (n + 1) = 2 * n + 1 + 1 by omega, List.range_succ_eq_map, List.map_cons, List.range_succ_eq_map, List.map_cons, List.map_map, List.map_cons, List.map_map]
  congr 2
  refine List.map_congr_left fun k _ => ?_
  show Chunk.raw (i + (k + 1 + 1)) = Chunk.raw _
  rw [show i + (k + 1 + 1) = i + 2 + k by omega]
theorem qs_reps (qs : List Rat) : ∀ j q, qs[j]? = some q → RepQ (qE qs) (qI (0 + 2 * j)) q := by
  intro j q h
  have e : qs.getD j 0 = q := by rw [List.getD_eq_getElem?_getD, h]; rfl
  refine ⟨?_, ?_⟩
  · show (if (0 + 2 * j) % 2 = 0 then (qs.getD ((0 + 2 * j) / 2) 0).num else _) = _
    rw [if_pos (by omega), show (0 + 2 * j) / 2 = j by omega, e]
  · show (if (0 + 2 * j + 1) % 2 = 0 then _ else ((qs.getD ((0 + 2 * j + 1) / 2) 0).den : Int)) = _
    rw [if_neg (by omega), show (0 + 2 * j + 1) / 2 = j by omega, e]
theorem rawArg {w : World} {v : Value} {n : Nat} {l : List RI} (h : RawN w v n l) : ∀ β, (AV.val true (rawL 0 (2 * n))).holds (bE okQ l) β w v := fun _ => h
end Go.Proofs.YtifeacfljfmnpaaGreat
end

section
set_option maxRecDepth 100000
namespace Go.Proofs.YtifeacfljfmnpaaGreat
open Go.ChangeShapes Go.WideShapes Go.ChangeAt Go.RowKit Go.Joins
def RawsV (w : World) : List Value → List (RI × RI) → Prop
  | vs, [] => vs = []
  | vs, p :: l => ∃ x r, vs = x ++ r ∧ RawQ w (.agg x.toArray) p.1.1 p.1.2 p.2.1 p.2.2 ∧ RawsV w r l
theorem rawsV_chunks {E : Env} {w : World} : ∀ (ps : List (RI × RI)) (i : Nat) (vs : List Value), RawsV w vs ps → (∀ j p, ps[j]? = some p → E.r (i + 2 * j) = p.1 ∧ E.r (i + 2 * j + 1) = p.2) → chunks E w (rawL i (2 * ps.length)) vs
  | [], _, vs, h, _ => h
  | p :: ps, i, vs, ⟨x, r, e, h1, h2⟩, he => by
    subst e
    rw [List.length_cons, rawL_two]
    obtain ⟨e1, e2⟩ := he 0 p rfl
    rw [Nat.mul_zero, Nat.add_zero] at e1 e2
    refine two_raws.2 ⟨x, r, rfl, by rw [e1, e2]; exact h1, rawsV_chunks ps (i + 2) r h2 fun j q hq => ?_⟩
    have := he (j + 1) q hq
    rwa [show i + 2 * (j + 1) = i + 2 + 2 * j by omega] at this
def flatP : List (RI × RI) → List RI
  | [] => []
  | p :: l => p.1 :: p.2 :: flatP l
theorem flatP_at : ∀ (ps : List (RI × RI)) (j : Nat) (p : RI × RI), ps[j]? = some p → (flatP ps).getD (2 * j) (false, []) = p.1 ∧ (flatP ps).getD (2 * j + 1) (false, []) = p.2
  | [], _, _, h => by cases h
  | q :: ps, 0, p, h => by injection h with h; subst h; exact ⟨rfl, rfl⟩
  | q :: ps, j + 1, p, h => by
    have := flatP_at ps j p h
    rw [show 2 * (j + 1) = 2 * j + 1 + 1 by omega]
    exact this
theorem rawN_of {w : World} {vs : List Value} {ps : List (RI × RI)} (h : RawsV w vs ps) : RawN w (.agg vs.toArray) ps.length (flatP ps) :=
  ⟨vs, rfl, rawsV_chunks ps 0 vs h fun j p hp => by
    rw [Nat.zero_add]
    exact flatP_at ps j p hp⟩
end Go.Proofs.YtifeacfljfmnpaaGreat
end

section
set_option maxRecDepth 100000
namespace Go.Proofs.YtifeacfljfmnpaaGreat
open Go.RowKit
end Go.Proofs.YtifeacfljfmnpaaGreat
end

section
set_option maxRecDepth 100000
namespace Go.Proofs.YtifeacfljfmnpaaGreat
open Go.RowKit
end Go.Proofs.YtifeacfljfmnpaaGreat
end

section
set_option maxRecDepth 100000
namespace Go.Proofs.YtifeacfljfmnpaaGreat
open Go.RowKit
theorem raws_ratsN {E : Env} {w : World} {m : Nat} : ∀ (n i : Nat) (vs : List Value), chunks E w (rawL i (2 * n)) vs → (∀ j, j < n → smN m (E.r (i + 2 * j)) (E.r (i + 2 * j + 1)) = true) → ∃ qs : List Rat, qs = (List.range n).map (fun j => rq (E.r (i + 2 * j)) (E.r (i + 2 * j + 1))) ∧ RatsQ w vs qs ∧ LimQs m qs := by
  intro n
  induction n with
  | zero => intro i vs h _; exact ⟨[], rfl, h, fun q hq => by cases hq⟩
  | succ n ih =>
    intro i vs h hs
    rw [rawL_two] at h
    obtain ⟨x, r, rfl, h1, h2⟩ := two_raws.1 h
    obtain ⟨k1, k2⟩ := smN_rat h1 (hs 0 (by omega))
    obtain ⟨qs, e, h3, h4⟩ := ih (i + 2) r h2 (fun j hj => by
      have := hs (j + 1) (by omega)
      rwa [show i + 2 * (j + 1) = i + 2 + 2 * j by omega] at this)
    refine ⟨rq (E.r i) (E.r (i + 1)) :: qs, ?_, ⟨x, r, rfl, k1, h3⟩, fun q hq => ?_⟩
    · rw [List.range_succ_eq_map, List.map_cons, List.map_map, e]
      refine congrArg (_ :: ·) (List.map_congr_left fun j _ => ?_)
      show rq _ _ = rq (E.r (i + 2 * (j + 1))) (E.r (i + 2 * (j + 1) + 1))
      rw [show i + 2 * (j + 1) = i + 2 + 2 * j by omega]
    · rcases List.mem_cons.1 hq with rfl | hq
      · exact k2
      · exact h4 q hq
theorem rsmall3_calls (w : World) (v : Value) (p q : RI) (h : RawQ w v p.1 p.2 q.1 q.2) :
    Calls Tryz.prog 62 #[v, .int .i64 3] w fun e w' => e = .returned (.bool (smN 3 p q)) ∧ Ext w w' := by
  refine (z5q (C := cfgOf [(18, kRVN 3)]) (E := bE okQ [p, q]) (args := [argRaw 0 1, .val false [.n .i64 (.lit 3)]])
    (T := .ite (.le (.rlen 0) (.lit 3)) (.ite (.le (.rlen 1) (.lit 3)) (.leaf [(false, [.b (.var 0)])]) (.leaf [(false, [.b (.lit false)])])) (.leaf [(false, [.b (.lit false)])]))
    mixed (cfg_ok (.cons (kRVN_ok (bE_ok _) (fun w v s1 s2 xs1 xs2 h l1 l2 => rvalid_rat_calls w v s1 s2 xs1 xs2 h l1 l2) ⟨_, Tryz.func18, by decide +kernel, by kernel_rfl⟩) .nil)) z8q Tryz.func62 (by decide +kernel) (by kernel_rfl) (by decide +kernel) rfl w [v, .int .i64 3] rfl ?_).mono ?_
  · intro i x hx
    match i, hx with
    | 0, hx => injection hx with hx; subst hx; exact ⟨fun _ => 0, v, rfl, argRaw_holds h rfl rfl⟩
    | 1, hx => injection hx with hx; subst hx; exact ⟨fun _ => 0, _, rfl, z9q.2 rfl⟩
  · rintro e w' ⟨β, u, rfl, hh, ex⟩
    have t1 : (BT.le (.rlen 0) (.lit 3)).den (bE okQ [p, q]) = decide (p.2.length ≤ 3) := by
      show decide ((p.2.length : Int) ≤ 3) = _
      rw [decide_eq_decide]; omega
    have t2 : (BT.le (.rlen 1) (.lit 3)).den (bE okQ [p, q]) = decide (q.2.length ≤ 3) := by
      show decide ((q.2.length : Int) ≤ 3) = _
      rw [decide_eq_decide]; omega
    simp only [Tree.pick, t1, t2, decide_eq_true_iff] at hh
    unfold smN
    split at hh
    · rename_i c1
      split at hh
      · rename_i c2
        have := z11q.1 hh
        subst this
        rw [decide_eq_true c1, decide_eq_true c2]
        exact ⟨rfl, ex⟩
      · rename_i c2
        have := z11q.1 hh
        subst this
        rw [decide_eq_false c2, Bool.and_false]
        exact ⟨rfl, ex⟩
    · rename_i c1
      have := z11q.1 hh
      subst this
      rw [decide_eq_false c1]
      exact ⟨rfl, ex⟩
def ptb (b d c : Rat) : Bool := if b = 0 ∧ d = 0 then decide (c = 0) else if 0 < c then !(sqB c.num && sqB (c.den : Int)) else false
def RdP (b d c : Rat) : Prop := ptb b d c = true
theorem RdP.cases {b d c : Rat} (h : RdP b d c) : (b = 0 ∧ d = 0 ∧ c = 0) ∨ (¬ (b = 0 ∧ d = 0) ∧ Rd 1 c) := by
  unfold RdP ptb at h
  split at h
  · rename_i k
    exact .inl ⟨k.1, k.2, of_decide_eq_true h⟩
  · rename_i k
    refine .inr ⟨k, Rdb_iff.1 ?_⟩
    rw [Rdb_cases, if_neg (by decide)]
    split at h
    · rename_i k2; rw [if_pos k2]; exact h
    · cases h
theorem RdP.mk {b d c : Rat} (h : (b = 0 ∧ d = 0 ∧ c = 0) ∨ (¬ (b = 0 ∧ d = 0) ∧ Rd 1 c)) : RdP b d c := by
  unfold RdP ptb
  rcases h with ⟨h1, h2, h3⟩ | ⟨h1, R⟩
  · rw [if_pos ⟨h1, h2⟩]; exact decide_eq_true h3
  · rw [if_neg h1]
    have := Rdb_iff.2 R
    rw [Rdb_cases, if_neg (by decide)] at this
    exact this
theorem Rd.one {b c : Rat} (h : b ≠ 0) (R : Rd 1 c) : Rd b c := by
  rcases R with ⟨h1, _⟩ | ⟨_, h2⟩
  · exact absurd h1 (by decide)
  · exact .inr ⟨h, h2⟩
theorem RdP.fst {b d c : Rat} (h : RdP b d c) : Rd b (rC b c) := by
  by_cases hb : b = 0
  · subst hb; rw [rC_zero]; exact .inl ⟨rfl, rfl⟩
  · rw [rC_ne hb]
    rcases h.cases with ⟨h1, _⟩ | ⟨_, R⟩
    · exact absurd h1 hb
    · exact R.one hb
theorem RdP.swap {b d c : Rat} (h : RdP b d c) : RdP d b c := .mk (by
  rcases h.cases with ⟨h1, h2, h3⟩ | ⟨h1, R⟩
  · exact .inl ⟨h2, h1, h3⟩
  · exact .inr ⟨fun k => h1 ⟨k.2, k.1⟩, R⟩)
theorem RdP.snd {b d c : Rat} (h : RdP b d c) : Rd d (rC d c) := h.swap.fst
def sqC (C : IT2) (b : Bool) : BT × Bool := (.and (sqT C.1) (sqT C.2), b)
theorem sqC_den {E : Env} {C : IT2} {c : Rat} (h : RepQ E C c) {b : Bool} : (sqC C b).1.den E = (sqB c.num && sqB (c.den : Int)) := by
  show ((sqT C.1).den E && (sqT C.2).den E) = _
  rw [sqT_den, sqT_den, h.1, h.2]
noncomputable def ptL1 : List (Nat × Func) := (111, Tryz.f111) :: (172, Tryz.f172) :: (121, Tryz.f121) :: (225, Tryz.f225) :: []
noncomputable def ptL2 : List (Nat × Func) := (123, Tryz.f123) :: (113, Tryz.f113) :: (120, Tryz.f120) :: (132, Tryz.f132) :: (178, Tryz.f178) :: (109, Tryz.f109) :: (43, Tryz.f43) :: (115, Tryz.f115) :: []
noncomputable def ptL3 : List (Nat × Func) := (116, Tryz.f116) :: (117, Tryz.f117) :: (118, Tryz.f118) :: (138, Tryz.f138) :: (42, Tryz.f42) :: (44, Tryz.f44) :: (45, Tryz.f45) :: (34, Tryz.f34) :: (35, Tryz.f35) :: (46, Tryz.f46) :: (47, Tryz.f47) :: []
noncomputable def ptL4 : List (Nat × Func) := (38, Tryz.f38) :: (39, Tryz.f39) :: (65, Tryz.f65) :: (66, Tryz.f66) :: []
theorem ptL1_ok : InlOK Tryz.prog ptL1 := .cons Tryz.func111 (by decide +kernel) (by kernel_rfl) <| .cons Tryz.func172 (by decide +kernel) (by kernel_rfl) <| .cons Tryz.func121 (by decide +kernel) (by kernel_rfl) <| .cons Tryz.func225 (by decide +kernel) (by kernel_rfl) <| .nil
theorem ptL2_ok : InlOK Tryz.prog ptL2 := .cons Tryz.func123 (by decide +kernel) (by kernel_rfl) <| .cons Tryz.func113 (by decide +kernel) (by kernel_rfl) <| .cons Tryz.func120 (by decide +kernel) (by kernel_rfl) <| .cons Tryz.func132 (by decide +kernel) (by kernel_rfl) <| .cons Tryz.func178 (by decide +kernel) (by kernel_rfl) <| .cons Tryz.func109 (by decide +kernel) (by kernel_rfl) <| .cons Tryz.func43 (by decide +kernel) (by kernel_rfl) <| .cons Tryz.func115 (by decide +kernel) (by kernel_rfl) <| .nil
theorem ptL3_ok : InlOK Tryz.prog ptL3 := .cons Tryz.func116 (by decide +kernel) (by kernel_rfl) <| .cons Tryz.func117 (by decide +kernel) (by kernel_rfl) <| .cons Tryz.func118 (by decide +kernel) (by kernel_rfl) <| .cons Tryz.func138 (by decide +kernel) (by kernel_rfl) <| .cons Tryz.func42 (by decide +kernel) (by kernel_rfl) <| .cons Tryz.func44 (by decide +kernel) (by kernel_rfl) <| .cons Tryz.func45 (by decide +kernel) (by kernel_rfl) <| .cons Tryz.func34 (by decide +kernel) (by kernel_rfl) <| .cons Tryz.func35 (by decide +kernel) (by kernel_rfl) <| .cons Tryz.func46 (by decide +kernel) (by kernel_rfl) <| .cons Tryz.func47 (by decide +kernel) (by kernel_rfl) <| .nil
theorem ptL4_ok : InlOK Tryz.prog ptL4 := .cons Tryz.func38 (by decide +kernel) (by kernel_rfl) <| .cons Tryz.func39 (by decide +kernel) (by kernel_rfl) <| .cons Tryz.func65 (by decide +kernel) (by kernel_rfl) <| .cons Tryz.func66 (by decide +kernel) (by kernel_rfl) <| .nil
noncomputable def cPt1 (C : Cfg) : Cfg := cfgI C C ptL1
noncomputable def cPt2 (C : Cfg) : Cfg := cfgI (cPt1 C) (cPt1 C) ptL2
noncomputable def cPt3 (C : Cfg) : Cfg := cfgI (cPt2 C) (cPt2 C) ptL3
noncomputable def cPt (C : Cfg) : Cfg := cfgI (cPt3 C) (cPt3 C) ptL4
theorem cPt_ok {E : Env} {C : Cfg} (h : CfgOK Tryz.prog E C) (hw : ∀ w, C.wok w) : CfgOK Tryz.prog E (cPt C) := by
  have h1 : CfgOK Tryz.prog E (cPt1 C) := cfgI_ok mixed h h hw ptL1_ok
  have h2 : CfgOK Tryz.prog E (cPt2 C) := cfgI_ok mixed h1 h1 hw ptL2_ok
  have h3 : CfgOK Tryz.prog E (cPt3 C) := cfgI_ok mixed h2 h2 hw ptL3_ok
  exact cfgI_ok mixed h3 h3 hw ptL4_ok
end Go.Proofs.YtifeacfljfmnpaaGreat
end

section
set_option maxRecDepth 100000
namespace Go.Proofs.YtifeacfljfmnpaaGreat
open Go.RowKit
def zArr5 : List (TypeId × List Chunk) := [(133, zInt2 ++ (zInt2 ++ (zInt2 ++ (zInt2 ++ zInt2))))]
theorem zArr5_ok : ZeroOK Tryz.prog zArr5 := ZeroOK.cons (fun _ w => ⟨_, Tryz.zeroValue133 w, [_, _], _, rfl, z7q, [_, _], _, rfl, z7q, [_, _], _, rfl, z7q, [_, _], _, rfl, z7q, [_, _], _, rfl, z7q, [_, _], _, rfl, z7q, [_, _], _, rfl, z7q, [_, _], _, rfl, z7q, [_, _], _, rfl, z7q, [_, _], [], rfl, z7q, rfl⟩) ZeroOK.nil
def arrQ5 : List (TypeId × Nat × TypeId) := [(133, 5, 26)]
theorem arrQ5_ok : ArrOK Tryz.prog arrQ5 := .cons Tryz.underlying133 .nil
def c5 (C : Cfg) : Cfg := cfgZr (cfgAr C arrQ5) zArr5
theorem c5_ok {E : Env} {C : Cfg} (h : CfgOK Tryz.prog E C) : CfgOK Tryz.prog E (c5 C) := cfgZr_ok (cfgAr_ok h arrQ5_ok) zArr5_ok
noncomputable def tabVd : List (Nat × Con) := tbV ++ (tabInt ++ tabT)
theorem tabVd_ok {E : Env} (hE : QEnv E) : TabOK Tryz.prog E tabVd := TabOK.app (tbV_ok hE) (TabOK.app tabInt_ok (tabT_ok hE))
noncomputable def cVd : Cfg := cPt (c5 (cfgOf tabVd))
theorem cVd_ok {E : Env} (hE : QEnv E) : CfgOK Tryz.prog E cVd := cPt_ok (c5_ok (cfg_ok (tabVd_ok hE))) (fun _ => trivial)
def vdG (z1 z2 z4 s q : Bool) : Asm := [(zt (qv 1), z1), (zt (qv 3), z2), (zt (qv 4), z4), (.lt (.lit 0) (sgt (qv 4)), s), sqC (qv 4) q]
def vdR (z1 z2 z4 s q : Bool) : Bool := if z1 && z2 then z4 else if s then !q else false
noncomputable def vdF (f : Bool) : Func := if f then Tryz.f49 else Tryz.f50
noncomputable def vdN (f : Bool) : Nat := if f then 49 else 50
theorem vdF_body (f : Bool) : Tryz.prog.funcs[vdN f]? = some (vdF f) ∧ (vdF f).results.toList.length ≤ 4 ∧ 1 ≤ (vdF f).ntmps ∧ (vdF f).name ≠ "runtime.NumGoroutine" ∧ (vdF f).body.isNone = false := by
  cases f
  · exact ⟨Tryz.func50, by decide +kernel, by decide +kernel, by decide +kernel, by kernel_rfl⟩
  · exact ⟨Tryz.func49, by decide +kernel, by decide +kernel, by decide +kernel, by kernel_rfl⟩
theorem vd_walk : (bools.all fun f => bools.all fun z1 => bools.all fun z2 => bools.all fun z4 => bools.all fun s => bools.all fun q => isBlo (vdR z1 z2 z4 s q) (funE cVd (vdF f) (vdG z1 z2 z4 s q) [.val true (intC 3 0 5)])) = true := by kernel_rfl
theorem validQ_calls (f : Bool) (w : World) (v : Value) (a b a' d c : Rat) (h : IsQs w v [a, b, a', d, c]) (l : LimQs 3 [a, b, a', d, c]) : Calls Tryz.prog (vdN f) #[v] w (RetBl (ptb b d c) w) := by
  obtain ⟨h1, h2, h3, _, _⟩ := vdF_body f
  obtain ⟨E, hE⟩ : ∃ E, E = qE [a, b, a', d, c] := ⟨_, rfl⟩
  have hQ : QEnv E := by rw [hE]; exact qE_ok _
  have rb : RepQ E (qv 1) b := by rw [hE]; exact rep_v (i := 1)
  have rd : RepQ E (qv 3) d := by rw [hE]; exact rep_v (i := 3)
  have rc : RepQ E (qv 4) c := by rw [hE]; exact rep_v (i := 4)
  have hG : Asm.holds E (vdG (decide (b = 0)) (decide (d = 0)) (decide (c = 0)) (decide (0 < c)) (sqB c.num && sqB (c.den : Int))) :=
    asm_and (zt_den rb) <| asm_and (zt_den rd) <| asm_and (zt_den rc) <| asm_and (gtz_den rc) <| asm_and (sqC_den rc (b := sqB c.num && sqB (c.den : Int))) asm_nil
  have hW := List.all_eq_true.1 (List.all_eq_true.1 (List.all_eq_true.1 (List.all_eq_true.1 (List.all_eq_true.1 (List.all_eq_true.1 vd_walk f (z15q f)) (decide (b = 0)) (z15q _)) (decide (d = 0)) (z15q _)) (decide (c = 0)) (z15q _)) (decide (0 < c)) (z15q _)) (sqB c.num && sqB (c.den : Int)) (z15q _)
  have e : vdR (decide (b = 0)) (decide (d = 0)) (decide (c = 0)) (decide (0 < c)) (sqB c.num && sqB (c.den : Int)) = ptb b d c := by
    unfold vdR ptb
    by_cases k1 : b = 0 <;> by_cases k2 : d = 0 <;> simp [k1, k2]
  rw [e] at hW
  unfold isBlo at hW
  split at hW
  · rename_i T hT
    refine (z5q mixed (cVd_ok hQ) hG h1 h2 hT h3 rfl w [v] rfl ?_).mono ?_
    · intro i x hx
      match i, hx with
      | 0, hx =>
        injection hx with hx
        subst hx
        obtain ⟨vs, rfl, hv⟩ := h
        refine ⟨fun _ => 0, _, rfl, vs, rfl, (qs_chunks [a, b, a', d, c] 0 vs fun j q hj => ?_).2 ⟨hv, l⟩⟩
        rw [hE]; exact qs_reps _ j q hj
    · rintro e w' ⟨β, y, rfl, hh, ex⟩
      rw [isBl_pick hW] at hh
      rw [show y = _ from z11q.1 hh]
      exact ⟨rfl, ex⟩
  · cases hW
def cR2 (i : Nat) : List AV → Bool
  | [.val true [.raw a, .raw b]] => a == i && b == i + 1
  | _ => false
theorem valid2_known {E : Env} {f : Nat} {i : Nat} {z : Bool} (hc : ∀ (w : World) (v : Value) (s1 s2 : Bool) (xs1 xs2 : List Nat), RawQ w v s1 xs1 s2 xs2 → xs1.length ≤ 100000 → xs2.length ≤ 100000 → Calls Tryz.prog f #[v] w fun e w' => e = .returned (.bool (okQ s1 xs1 s2 xs2)) ∧ Ext w w')
    (l1 : (E.r i).2.length ≤ 100000) (l2 : (E.r (i + 1)).2.length ≤ 100000) (hz : okQ (E.r i).1 (E.r i).2 (E.r (i + 1)).1 (E.r (i + 1)).2 = z) : KnownR E f (cR2 i) (rBl z) := by
  refine ⟨?_, fun x off e => by cases e⟩
  intro args ha β w vs hv hl
  unfold cR2 at ha
  split at ha
  · rw [Bool.and_eq_true, beq_iff_eq, beq_iff_eq] at ha
    obtain ⟨rfl, rfl⟩ := ha
    obtain ⟨v, rfl, h1⟩ := args1 hv hl
    refine (hc w v _ _ _ _ (one_raw2 h1) l1 l2).mono ?_
    rintro e w' ⟨rfl, ex⟩
    exact ⟨_, rfl, fun β => z11q.2 (by rw [hz]; rfl), ex⟩
  · cases ha
noncomputable def tabVr (x0 x1 x2 x3 x4 : Bool) : List (Nat × Con) :=
  (124, kKq (cR2 0) (rBl x0) <| kKq (cR2 2) (rBl x1) <| kKq (cR2 4) (rBl x2) <| kKq (cR2 6) (rBl x3) <| kKq (cR2 8) (rBl x4) kNoQ) ::
  (18, kKq (cR2 0) (rBl x0) <| kKq (cR2 2) (rBl x1) <| kKq (cR2 4) (rBl x2) <| kKq (cR2 6) (rBl x3) <| kKq (cR2 8) (rBl x4) kNoQ) :: []
theorem vr_walk : (bools.all fun f => bools.all fun x0 => bools.all fun x1 => bools.all fun x2 => bools.all fun x3 => bools.all fun x4 => (x0 && (x1 && (x2 && (x3 && x4)))) || isBlo false (funE (c5 (cfgOf (tabVr x0 x1 x2 x3 x4))) (vdF f) [] [.val true (rawL 0 10)])) = true := by kernel_rfl
def okA (l : List RI) : Bool := (List.range 5).all fun j => okQ (rawW l (2 * j)).1 (rawW l (2 * j)).2 (rawW l (2 * j + 1)).1 (rawW l (2 * j + 1)).2
def rqW (l : List RI) (j : Nat) : Rat := rq (rawW l (2 * j)) (rawW l (2 * j + 1))
theorem okA_parts {l : List RI} : okA l = (okQ (rawW l 0).1 (rawW l 0).2 (rawW l 1).1 (rawW l 1).2 && (okQ (rawW l 2).1 (rawW l 2).2 (rawW l 3).1 (rawW l 3).2 && (okQ (rawW l 4).1 (rawW l 4).2 (rawW l 5).1 (rawW l 5).2 && (okQ (rawW l 6).1 (rawW l 6).2 (rawW l 7).1 (rawW l 7).2 && okQ (rawW l 8).1 (rawW l 8).2 (rawW l 9).1 (rawW l 9).2)))) := by
  show (_ && (_ && (_ && (_ && (_ && true))))) = _
  rw [Bool.and_true]
theorem RawN.qs {w : World} {v : Value} {n m : Nat} {l : List RI} (h : RawN w v n l) (hs : ∀ j, j < n → smN m (rawW l (2 * j)) (rawW l (2 * j + 1)) = true) : IsQs w v ((List.range n).map (rqW l)) ∧ LimQs m ((List.range n).map (rqW l)) := by
  obtain ⟨vs, rfl, hc⟩ := h
  obtain ⟨qs, e, h1, h2⟩ := raws_ratsN n 0 vs hc (fun j hj => by rw [Nat.zero_add]; exact hs j hj)
  have e' : qs = (List.range n).map (rqW l) := e.trans (List.map_congr_left fun j _ => by
    show rq ((bE okQ l).r (0 + 2 * j)) ((bE okQ l).r (0 + 2 * j + 1)) = _
    rw [Nat.zero_add]; rfl)
  rw [← e']
  exact ⟨⟨vs, rfl, h1⟩, h2⟩
theorem validW_calls (f : Bool) (w : World) (v : Value) (l : List RI) (h : RawN w v 5 l) (hb : ∀ j, j < 10 → (rawW l j).2.length ≤ 3) : Calls Tryz.prog (vdN f) #[v] w (RetBl (okA l && ptb (rqW l 1) (rqW l 3) (rqW l 4)) w) := by
  cases ha : okA l with
  | true =>
    obtain ⟨h1, h2⟩ := h.qs (m := 3) (fun j hj => by
      have := List.all_eq_true.1 ha j (List.mem_range.2 hj)
      unfold smN
      rw [decide_eq_true (hb (2 * j) (by omega)), decide_eq_true (hb (2 * j + 1) (by omega)), this]; rfl)
    rw [Bool.true_and]
    exact validQ_calls f w v (rqW l 0) (rqW l 1) (rqW l 2) (rqW l 3) (rqW l 4) h1 h2
  | false =>
    obtain ⟨g1, g2, g3, _, _⟩ := vdF_body f
    have hW := List.all_eq_true.1 (List.all_eq_true.1 (List.all_eq_true.1 (List.all_eq_true.1 (List.all_eq_true.1 (List.all_eq_true.1 vr_walk f (z15q f)) (okQ (rawW l 0).1 (rawW l 0).2 (rawW l 1).1 (rawW l 1).2) (z15q _)) (okQ (rawW l 2).1 (rawW l 2).2 (rawW l 3).1 (rawW l 3).2) (z15q _)) (okQ (rawW l 4).1 (rawW l 4).2 (rawW l 5).1 (rawW l 5).2) (z15q _)) (okQ (rawW l 6).1 (rawW l 6).2 (rawW l 7).1 (rawW l 7).2) (z15q _)) (okQ (rawW l 8).1 (rawW l 8).2 (rawW l 9).1 (rawW l 9).2) (z15q _)
    rw [← okA_parts, ha, Bool.false_or] at hW
    have kn : ∀ {F : Nat}, (∀ (w : World) (v : Value) (s1 s2 : Bool) (xs1 xs2 : List Nat), RawQ w v s1 xs1 s2 xs2 → xs1.length ≤ 100000 → xs2.length ≤ 100000 → Calls Tryz.prog F #[v] w fun e w' => e = .returned (.bool (okQ s1 xs1 s2 xs2)) ∧ Ext w w') → ∀ i, i + 1 < 10 → KnownR (bE okQ l) F (cR2 i) (rBl (okQ (rawW l i).1 (rawW l i).2 (rawW l (i + 1)).1 (rawW l (i + 1)).2)) := by
      intro F hF i hi
      have b1 := hb i (by omega)
      have b2 := hb (i + 1) (by omega)
      exact valid2_known hF (show (rawW l i).2.length ≤ 100000 by omega) (show (rawW l (i + 1)).2.length ≤ 100000 by omega) rfl
    have hT : TabOK Tryz.prog (bE okQ l) (tabVr (okQ (rawW l 0).1 (rawW l 0).2 (rawW l 1).1 (rawW l 1).2) (okQ (rawW l 2).1 (rawW l 2).2 (rawW l 3).1 (rawW l 3).2) (okQ (rawW l 4).1 (rawW l 4).2 (rawW l 5).1 (rawW l 5).2) (okQ (rawW l 6).1 (rawW l 6).2 (rawW l 7).1 (rawW l 7).2) (okQ (rawW l 8).1 (rawW l 8).2 (rawW l 9).1 (rawW l 9).2)) := by
      have p := kn (F := 124) (fun w v s1 s2 xs1 xs2 h l1 l2 => valid_rat_calls w v s1 s2 xs1 xs2 h l1 l2)
      have r := kn (F := 18) (fun w v s1 s2 xs1 xs2 h l1 l2 => rvalid_rat_calls w v s1 s2 xs1 xs2 h l1 l2)
      exact .cons (z17q (p 0 (by omega)) <| z17q (p 2 (by omega)) <| z17q (p 4 (by omega)) <| z17q (p 6 (by omega)) <| z17q (p 8 (by omega)) (z18q ⟨_, Tryz.func124, by decide +kernel, by kernel_rfl⟩)) <|
        .cons (z17q (r 0 (by omega)) <| z17q (r 2 (by omega)) <| z17q (r 4 (by omega)) <| z17q (r 6 (by omega)) <| z17q (r 8 (by omega)) (z18q ⟨_, Tryz.func18, by decide +kernel, by kernel_rfl⟩)) .nil
    unfold isBlo at hW
    split at hW
    · rename_i T hTe
      refine (z5q mixed (c5_ok (cfg_ok hT)) z8q g1 g2 hTe g3 rfl w [v] rfl ?_).mono ?_
      · intro i x hx
        match i, hx with
        | 0, hx => injection hx with hx; subst hx; exact ⟨fun _ => 0, v, rfl, rawArg h _⟩
      · rintro e w' ⟨β, y, rfl, hh, ex⟩
        rw [isBl_pick hW] at hh
        rw [show y = _ from z11q.1 hh]
        exact ⟨rfl, ex⟩
    · cases hW
def smA (l : List RI) : Bool := (List.range 5).all fun j => smN 3 (rawW l (2 * j)) (rawW l (2 * j + 1))
def pSm (l : List RI) : Bool := smA l && ptb (rqW l 1) (rqW l 3) (rqW l 4)
theorem smA_parts {l : List RI} : smA l = (smN 3 (rawW l 0) (rawW l 1) && (smN 3 (rawW l 2) (rawW l 3) && (smN 3 (rawW l 4) (rawW l 5) && (smN 3 (rawW l 6) (rawW l 7) && smN 3 (rawW l 8) (rawW l 9))))) := by
  show (_ && (_ && (_ && (_ && (_ && true))))) = _
  rw [Bool.and_true]
theorem smN_parts {n : Nat} {p q : RI} (h : smN n p q = true) : p.2.length ≤ n ∧ q.2.length ≤ n ∧ okQ p.1 p.2 q.1 q.2 = true := by
  unfold smN at h
  simp only [Bool.and_eq_true, decide_eq_true_iff] at h
  exact ⟨h.1.1, h.1.2, h.2⟩
theorem smA_bound {l : List RI} (h : smA l = true) : (∀ j, j < 10 → (rawW l j).2.length ≤ 3) ∧ okA l = true := by
  have k := List.all_eq_true.1 h
  constructor
  · intro j hj
    obtain ⟨h1, h2, _⟩ := smN_parts (k (j / 2) (List.mem_range.2 (by omega)))
    rcases Nat.mod_two_eq_zero_or_one j with e | e
    · rwa [show 2 * (j / 2) = j by omega] at h1
    · rwa [show 2 * (j / 2) + 1 = j by omega] at h2
  · exact List.all_eq_true.2 fun j hj => (smN_parts (k j hj)).2.2
def cR2n (i : Nat) : List AV → Bool
  | [.val true [.raw a, .raw b], .val false [.n .i64 (.lit z)]] => (a == i && b == i + 1) && z == 3
  | _ => false
theorem small2_known {E : Env} {i : Nat} {z : Bool} (hz : smN 3 (E.r i) (E.r (i + 1)) = z) : KnownR E 62 (cR2n i) (rBl z) := by
  refine ⟨?_, fun x off e => by cases e⟩
  intro args ha β w vs hv hl
  unfold cR2n at ha
  split at ha
  · simp only [Bool.and_eq_true, beq_iff_eq] at ha
    obtain ⟨⟨rfl, rfl⟩, rfl⟩ := ha
    obtain ⟨v, u, rfl, h1, h2⟩ := args2 hv hl
    have h2' := z9q.1 h2
    subst h2'
    refine (rsmall3_calls w v _ _ (one_raw2 h1)).mono ?_
    rintro e w' ⟨rfl, ex⟩
    exact ⟨_, rfl, fun β => z11q.2 (by rw [hz]; rfl), ex⟩
  · cases ha
def cRn (i n : Nat) : List AV → Bool
  | [.val true cs] => isRaw i cs && cs.length == n
  | _ => false
theorem cRn_spec {i n : Nat} {args : List AV} (h : cRn i n args = true) : args = [.val true (rawL i n)] := by
  unfold cRn at h
  split at h
  · rw [Bool.and_eq_true, beq_iff_eq] at h
    have := isRaw_spec h.1
    rw [h.2] at this
    rw [this]; rfl
  · cases h
noncomputable def tabSm7 (x0 x1 x2 x3 x4 y : Bool) : List (Nat × Con) :=
  (62, kKq (cR2n 0) (rBl x0) <| kKq (cR2n 2) (rBl x1) <| kKq (cR2n 4) (rBl x2) <| kKq (cR2n 6) (rBl x3) <| kKq (cR2n 8) (rBl x4) kNoQ) ::
  (50, if x0 && (x1 && (x2 && (x3 && x4))) then kKq (cRn 0 10) (rBl y) kNoQ else kNoQ) :: []
theorem sm7_walk : (bools.all fun x0 => bools.all fun x1 => bools.all fun x2 => bools.all fun x3 => bools.all fun x4 => bools.all fun y => isBlo ((x0 && (x1 && (x2 && (x3 && x4)))) && y) (funE (cfgOf (tabSm7 x0 x1 x2 x3 x4 y)) Tryz.f119 [] [.val true (rawL 0 10), .val false [.n .i64 (.lit 3)]])) = true := by kernel_rfl
theorem small7_calls (w : World) (v : Value) (l : List RI) (h : RawN w v 5 l) : Calls Tryz.prog 119 #[v, .int .i64 3] w (RetBl (pSm l) w) := by
  have hW := List.all_eq_true.1 (List.all_eq_true.1 (List.all_eq_true.1 (List.all_eq_true.1 (List.all_eq_true.1 (List.all_eq_true.1 sm7_walk (smN 3 (rawW l 0) (rawW l 1)) (z15q _)) (smN 3 (rawW l 2) (rawW l 3)) (z15q _)) (smN 3 (rawW l 4) (rawW l 5)) (z15q _)) (smN 3 (rawW l 6) (rawW l 7)) (z15q _)) (smN 3 (rawW l 8) (rawW l 9)) (z15q _)) (ptb (rqW l 1) (rqW l 3) (rqW l 4)) (z15q _)
  rw [← smA_parts] at hW
  have kn : ∀ i, KnownR (bE okQ l) 62 (cR2n i) (rBl (smN 3 (rawW l i) (rawW l (i + 1)))) := fun i => small2_known rfl
  have hT : TabOK Tryz.prog (bE okQ l) (tabSm7 (smN 3 (rawW l 0) (rawW l 1)) (smN 3 (rawW l 2) (rawW l 3)) (smN 3 (rawW l 4) (rawW l 5)) (smN 3 (rawW l 6) (rawW l 7)) (smN 3 (rawW l 8) (rawW l 9)) (ptb (rqW l 1) (rqW l 3) (rqW l 4))) := by
    have nb : ConOK Tryz.prog (bE okQ l) 50 kNoQ := z18q ⟨_, Tryz.func50, by decide +kernel, by kernel_rfl⟩
    refine .cons (z17q (kn 0) <| z17q (kn 2) <| z17q (kn 4) <| z17q (kn 6) <| z17q (kn 8) (z18q ⟨_, Tryz.func62, by decide +kernel, by kernel_rfl⟩)) <| .cons ?_ .nil
    rw [← smA_parts]
    split
    · rename_i hs
      obtain ⟨b1, b2⟩ := smA_bound hs
      refine z17q ⟨fun args ha β w vs hv hl => ?_, fun x off e => by cases e⟩ nb
      have := cRn_spec ha
      subst this
      obtain ⟨v, rfl, k1⟩ := args1 hv hl
      refine (validW_calls false w v l k1 b1).mono ?_
      rintro e w' ⟨rfl, ex⟩
      exact ⟨_, rfl, fun β => z11q.2 (by rw [b2, Bool.true_and]; rfl), ex⟩
    · exact nb
  unfold isBlo at hW
  split at hW
  · rename_i T hTe
    refine (z5q mixed (cfg_ok hT) z8q Tryz.func119 (by decide +kernel) hTe (by decide +kernel) rfl w [v, .int .i64 3] rfl ?_).mono ?_
    · intro i x hx
      match i, hx with
      | 0, hx => injection hx with hx; subst hx; exact ⟨fun _ => 0, v, rfl, rawArg h _⟩
      | 1, hx => injection hx with hx; subst hx; exact ⟨fun _ => 0, _, rfl, z9q.2 rfl⟩
    · rintro e w' ⟨β, y, rfl, hh, ex⟩
      rw [isBl_pick hW] at hh
      rw [show y = _ from z11q.1 hh]
      exact ⟨rfl, ex⟩
  · cases hW
def cRn3 (i n : Nat) : List AV → Bool
  | [.val true cs, .val false [.n .i64 (.lit z)]] => (isRaw i cs && cs.length == n) && z == 3
  | _ => false
noncomputable def rowW (n : Nat) (x y : Bool) : Option Tree := funR (cfgOf [(119, kKq (cRn3 0 10) (rBl x) (kKq (cRn3 10 10) (rBl y) kNoQ))]) Tryz.f41 [] (rawL 0 (10 * n)) (big + n)
theorem row_walk : (bools.all fun x => bools.all fun y => isBlo x (rowW 1 x y) && isBlo (x && y) (rowW 2 x y)) = true := by kernel_rfl
theorem smRow_calls {n : Nat} (hn : n = 1 ∨ n = 2) {l : List RI} (w : World) (b : Nat) (h : VarAt (bE okQ l) w b (rawL 0 (10 * n))) : Calls Tryz.prog 41 #[pv b (big + n)] w (RetBl (pSm (l.take 10) && (n == 1 || pSm (l.drop 10))) w) := by
  have hW := List.all_eq_true.1 (List.all_eq_true.1 row_walk (pSm (l.take 10)) (z15q _)) (pSm (l.drop 10)) (z15q _)
  rw [Bool.and_eq_true] at hW
  have kn : ∀ (i : Nat) (m : List RI), (∀ k, k < 10 → rawW m k = rawW l (i + k)) → KnownR (bE okQ l) 119 (cRn3 i 10) (rBl (pSm m)) := by
    intro i m hm
    refine ⟨fun args ha β w vs hv hl => ?_, fun x off e => by cases e⟩
    unfold cRn3 at ha
    split at ha
    · rename_i cs z
      simp only [Bool.and_eq_true, beq_iff_eq] at ha
      obtain ⟨⟨h1, h2⟩, rfl⟩ := ha
      have h1 := isRaw_spec h1
      rw [h2] at h1
      subst h1
      obtain ⟨v, u, rfl, k1, k2⟩ := args2 hv hl
      have k2' := z9q.1 k2
      subst k2'
      obtain ⟨vs, rfl, hc⟩ := k1
      refine (small7_calls w _ m ⟨vs, rfl, raws_raws2 (E := bE okQ l) 10 i 0 vs hc (fun k hk => by
        rw [Nat.zero_add]
        exact hm k hk)⟩).mono ?_
      rintro e w' ⟨rfl, ex⟩
      exact ⟨_, rfl, fun β => z11q.2 rfl, ex⟩
    · cases ha
  have k0 := kn 0 (l.take 10) (fun k hk => by
    unfold rawW
    rw [Nat.zero_add, List.getD_eq_getElem?_getD, List.getD_eq_getElem?_getD, List.getElem?_take_of_lt hk])
  have k1 := kn 10 (l.drop 10) (fun k hk => by
    unfold rawW
    rw [List.getD_eq_getElem?_getD, List.getD_eq_getElem?_getD, List.getElem?_drop])
  have hT : TabOK Tryz.prog (bE okQ l) [(119, kKq (cRn3 0 10) (rBl (pSm (l.take 10))) (kKq (cRn3 10 10) (rBl (pSm (l.drop 10))) kNoQ))] := .cons (z17q k0 (z17q k1 (z18q ⟨_, Tryz.func119, by decide +kernel, by kernel_rfl⟩))) .nil
  have fin : ∀ c, isBlo c (rowW n (pSm (l.take 10)) (pSm (l.drop 10))) = true → sizes (rawL 0 (10 * n)) ≠ 0 → n ≤ 2 → Calls Tryz.prog 41 #[pv b (big + n)] w (RetBl c w) := by
    intro c hc h0 hn2
    unfold isBlo at hc
    split at hc
    · rename_i T hTe
      refine (row_sound mixed (cfg_ok hT) z8q Tryz.func41 (by decide +kernel) hTe (by decide +kernel) w b h h0).mono ?_
      rintro e w' ⟨β, y, rfl, hh, ex⟩
      rw [isBl_pick hc] at hh
      rw [show y = _ from z11q.1 hh]
      exact ⟨rfl, ex⟩
    · cases hc
  rcases hn with rfl | rfl
  · rw [show (pSm (l.take 10) && ((1 : Nat) == 1 || pSm (l.drop 10))) = pSm (l.take 10) by simp]
    exact fin _ hW.1 (by decide) (by omega)
  · rw [show (pSm (l.take 10) && ((2 : Nat) == 1 || pSm (l.drop 10))) = (pSm (l.take 10) && pSm (l.drop 10)) by simp]
    exact fin _ hW.2 (by decide) (by omega)
theorem small7_body : ∃ fn, Tryz.prog.funcs[41]? = some fn ∧ fn.name ≠ "runtime.NumGoroutine" ∧ fn.body.isNone = false := ⟨_, Tryz.func41, by decide +kernel, by kernel_rfl⟩
def riOf (z : Int) : RI := (decide (z < 0), limbs z.natAbs)
def rawsQs : List Rat → List RI
  | [] => []
  | q :: qs => riOf q.num :: riOf (q.den : Int) :: rawsQs qs
theorem rats_raws {E : Env} {w : World} : ∀ (qs : List Rat) (i : Nat) (vs : List Value), RatsQ w vs qs → (∀ k, k < 2 * qs.length → E.r (i + k) = rawW (rawsQs qs) k) → chunks E w (rawL i (2 * qs.length)) vs
  | [], i, vs, h, _ => h
  | q :: qs, i, vs, ⟨x, r, e, h1, h2⟩, hr => by
    subst e
    rw [List.length_cons, rawL_two]
    have e0 : E.r i = riOf q.num := hr 0 (by rw [List.length_cons]; omega)
    have e1 : E.r (i + 1) = riOf (q.den : Int) := hr 1 (by rw [List.length_cons]; omega)
    refine two_raws.2 ⟨x, r, rfl, by rw [e0, e1]; exact (rat_raw h1).1, rats_raws qs (i + 2) r h2 fun k hk => ?_⟩
    have := hr (k + 2) (by rw [List.length_cons]; omega)
    rw [show i + 2 + k = i + (k + 2) by omega, this]
    rfl
theorem rawsQs_at : ∀ (qs : List Rat) (j : Nat) (q : Rat), qs[j]? = some q → rawW (rawsQs qs) (2 * j) = riOf q.num ∧ rawW (rawsQs qs) (2 * j + 1) = riOf (q.den : Int)
  | q :: qs, 0, p, h => by injection h with h; subst h; exact ⟨rfl, rfl⟩
  | q :: qs, j + 1, p, h => by
    have := rawsQs_at qs j p h
    rw [show 2 * (j + 1) = 2 * j + 2 by omega, show 2 * j + 2 + 1 = 2 * j + 1 + 2 by omega]
    exact this
theorem rats_israt {w : World} : ∀ {qs : List Rat} {vs : List Value} {j : Nat} {q : Rat}, RatsQ w vs qs → qs[j]? = some q → ∃ v, IsRat w v q
  | p :: qs, _, 0, q, ⟨x, r, _, h1, h2⟩, hq => by injection hq with hq; subst hq; exact ⟨_, h1⟩
  | p :: qs, _, j + 1, q, ⟨x, r, _, h1, h2⟩, hq => rats_israt h2 hq
theorem rqW_raws {qs : List Rat} {j : Nat} {q : Rat} (h : qs[j]? = some q) : rqW (rawsQs qs) j = q := by
  obtain ⟨e1, e2⟩ := rawsQs_at qs j q h
  unfold rqW
  rw [e1, e2]
  exact rq_rawQ q
theorem pSm_qs {w : World} {vs : List Value} {a b a' d c : Rat} {l : List Rat} (h : RatsQ w vs (a :: b :: a' :: d :: c :: l)) (hl : LimQs 3 (a :: b :: a' :: d :: c :: l)) (R : RdP b d c) : pSm (rawsQs (a :: b :: a' :: d :: c :: l)) = true := by
  unfold pSm
  rw [rqW_raws (q := b) rfl, rqW_raws (q := d) rfl, rqW_raws (q := c) rfl, Bool.and_eq_true]
  refine ⟨List.all_eq_true.2 fun j hj => ?_, R⟩
  have hj := List.mem_range.1 hj
  have hq : ∃ q, (a :: b :: a' :: d :: c :: l)[j]? = some q := ⟨_, List.getElem?_eq_getElem (by simp only [List.length_cons]; omega)⟩
  obtain ⟨q, hq⟩ := hq
  obtain ⟨e1, e2⟩ := rawsQs_at _ j q hq
  rw [e1, e2]
  obtain ⟨v, hv⟩ := rats_israt h hq
  exact smN_rawQ hv (hl q (List.mem_of_getElem? hq))
end Go.Proofs.YtifeacfljfmnpaaGreat
end

section
set_option maxRecDepth 100000
namespace Go.Proofs.YtifeacfljfmnpaaGreat
open Go.RowKit
structure PtQ where
  ax : Rat
  bx : Rat
  ay : Rat
  by' : Rat
  c : Rat
def PtQ.l (p : PtQ) : List Rat := [p.ax, p.bx, p.ay, p.by', p.c]
def PtQ.ok (p : PtQ) : Prop := RdP p.bx p.by' p.c
def tsX (z : Bool) (i : Nat) : List IT2 := if z then [qI i, q0, q0] else [qI i, qI (i + 2), qI (i + 8)]
def tsY (z : Bool) (i : Nat) : List IT2 := if z then [qI (i + 4), q0, q0] else [qI (i + 4), qI (i + 6), qI (i + 8)]
theorem reps_co {E : Env} {A B C : IT2} {a b c : Rat} (ha : RepQ E A a) (hb : RepQ E B b) (hc : RepQ E C c) : Reps E (if decide (b = 0) then [A, q0, q0] else [A, B, C]) [a, b, rC b c] := by
  by_cases h : b = 0
  · rw [decide_eq_true h, if_pos rfl, h, rC_zero]; exact ⟨ha, rep_0, rep_0, trivial⟩
  · rw [decide_eq_false h, if_neg (by decide), rC_ne h]; exact ⟨ha, hb, hc, trivial⟩
structure RepP (E : Env) (i : Nat) (p : PtQ) : Prop where
  r1 : RepQ E (qI i) p.ax
  r2 : RepQ E (qI (i + 2)) p.bx
  r3 : RepQ E (qI (i + 4)) p.ay
  r4 : RepQ E (qI (i + 6)) p.by'
  r5 : RepQ E (qI (i + 8)) p.c
def tsP (i : Nat) : List IT2 := [qI i, qI (i + 2), qI (i + 4), qI (i + 6), qI (i + 8)]
theorem RepP.reps {E : Env} {i : Nat} {p : PtQ} (h : RepP E i p) : Reps E (tsP i) p.l := ⟨h.r1, h.r2, h.r3, h.r4, h.r5, trivial⟩
theorem LimQs.parts {n : Nat} {p : PtQ} (h : LimQs n p.l) : LimQ n p.ax ∧ LimQ n p.bx ∧ LimQ n p.ay ∧ LimQ n p.by' ∧ LimQ n p.c := ⟨h _ (by simp [PtQ.l]), h _ (by simp [PtQ.l]), h _ (by simp [PtQ.l]), h _ (by simp [PtQ.l]), h _ (by simp [PtQ.l])⟩
theorem pt_chunks {E : Env} {i n : Nat} {w : World} {v : Value} {p : PtQ} (h : RepP E i p) (hv : IsQs w v p.l) (l : LimQs n p.l) : ∀ β, (AV.val true (intC n i 5)).holds E β w v := fun _ => by
  obtain ⟨vs, rfl, hv⟩ := hv
  refine ⟨vs, rfl, (qs_chunks p.l i vs fun j q hj => ?_).2 ⟨hv, l⟩⟩
  match j, hj with
  | 0, hj => injection hj with hj; subst hj; exact h.r1
  | 1, hj => injection hj with hj; subst hj; exact h.r2
  | 2, hj => injection hj with hj; subst hj; exact h.r3
  | 3, hj => injection hj with hj; subst hj; exact h.r4
  | 4, hj => injection hj with hj; subst hj; exact h.r5
theorem qE_point (p : PtQ) (l : List Rat) : RepP (qE (p.l ++ l)) 0 p := ⟨⟨rfl, rfl⟩, ⟨rfl, rfl⟩, ⟨rfl, rfl⟩, ⟨rfl, rfl⟩, ⟨rfl, rfl⟩⟩
end Go.Proofs.YtifeacfljfmnpaaGreat
end

section
set_option maxRecDepth 100000
namespace Go.Proofs.YtifeacfljfmnpaaGreat
open Go.RowKit
end Go.Proofs.YtifeacfljfmnpaaGreat
end

section
set_option maxRecDepth 100000
namespace Go.Proofs.YtifeacfljfmnpaaGreat
open Go.RowKit
end Go.Proofs.YtifeacfljfmnpaaGreat
end

section
set_option maxRecDepth 100000
namespace Go.Proofs.YtifeacfljfmnpaaGreat
open Go.RowKit
def n7 (i : Nat) : IT := .a1 20 (.var i)
def g7 : Asm := [(.le (.lit (-9223372036854775808)) (n7 18), true), (.le (n7 18) (.lit 9223372036854775807), true)]
end Go.Proofs.YtifeacfljfmnpaaGreat
end

section
set_option maxRecDepth 100000
namespace Go.Proofs.YtifeacfljfmnpaaGreat
open Go.RowKit
noncomputable def tabAw7 : List (Nat × Con) :=
  (75, kKq (cqs [[0, 1, 8], [3, 0, 0]]) (rNq (-1)) kNoQ) ::
  (71, kKq (cqs [[0, 1, 8], [0, 2, 2]]) (rBl true) (kKq (cqs [[0, 0, 0], [0, 0, 0]]) (rBl true) kNoQ)) ::
  (73, kSqQ) :: (37, kRSm) :: []
theorem tabAw7_ok {E : Env} : TabOK Tryz.prog E tabAw7 :=
  .cons (z17q (cmp_known (by decide +kernel) (by decide +kernel) (limB3_ok (by decide +kernel)) (limB3_ok (by decide +kernel)) (by decide +kernel)) (z18q ⟨_, Tryz.func75, by decide +kernel, by kernel_rfl⟩)) <|
  .cons (z17q (equal_known (by decide +kernel) (by decide +kernel) (limB3_ok (by decide +kernel)) (limB3_ok (by decide +kernel)) (by decide +kernel)) (z17q (equal_known (by decide +kernel) (by decide +kernel) (limB3_ok (by decide +kernel)) (limB3_ok (by decide +kernel)) (by decide +kernel)) (z18q ⟨_, Tryz.func71, by decide +kernel, by kernel_rfl⟩))) <|
  .cons (kSqQ_ok (fun w v n d h l m => rsqrtQ_calls w v n d h l m) ⟨_, Tryz.func73, by decide +kernel, by kernel_rfl⟩) <| .cons kRSm_ok .nil
noncomputable def awL0 : List (Nat × Func) := [(127, Tryz.f127)]
noncomputable def awL1 : List (Nat × Func) := [(169, Tryz.f169)]
noncomputable def awL2 : List (Nat × Func) := [(130, Tryz.f130)]
noncomputable def awL3 : List (Nat × Func) := [(58, Tryz.f58), (53, Tryz.f53), (51, Tryz.f51)]
theorem awL0_ok : InlOK Tryz.prog awL0 := .cons Tryz.func127 (by decide +kernel) (by kernel_rfl) .nil
theorem awL1_ok : InlOK Tryz.prog awL1 := .cons Tryz.func169 (by decide +kernel) (by kernel_rfl) .nil
theorem awL2_ok : InlOK Tryz.prog awL2 := .cons Tryz.func130 (by decide +kernel) (by kernel_rfl) .nil
theorem awL3_ok : InlOK Tryz.prog awL3 := .cons Tryz.func58 (by decide +kernel) (by kernel_rfl) <| .cons Tryz.func53 (by decide +kernel) (by kernel_rfl) <| .cons Tryz.func51 (by decide +kernel) (by kernel_rfl) .nil
noncomputable def cRoot7 : Cfg := cfgI (cfgI (cR tabAw7) (cR tabAw7) awL0) (cfgI (cR tabAw7) (cR tabAw7) awL0) awL1
theorem cRoot7_ok {E : Env} (hE : QEnv E) : CfgOK Tryz.prog E cRoot7 := by
  have h0 : CfgOK Tryz.prog E (cR tabAw7) := cR_ok hE tabAw7_ok
  have h1 := cfgI_ok mixed h0 h0 (fun _ => trivial) awL0_ok
  exact cfgI_ok mixed h1 h1 (fun _ => trivial) awL1_ok
noncomputable def tabAw8 : List (Nat × Con) := (108, kFold (kInl cRoot7 Tryz.f108)) :: tabAw7
theorem tabAw8_ok {E : Env} (hE : QEnv E) : TabOK Tryz.prog E tabAw8 := .cons (kFold_ok (kInl_ok mixed (cRoot7_ok hE) (fun _ => trivial) Tryz.func108 (by decide +kernel) (by kernel_rfl))) tabAw7_ok
noncomputable def cAw7 : Cfg := cfgI (cfgI (cPt (cR tabAw8)) (cPt (cR tabAw8)) awL2) (cfgI (cPt (cR tabAw8)) (cPt (cR tabAw8)) awL2) awL3
theorem cAw7_ok {E : Env} (hE : QEnv E) : CfgOK Tryz.prog E cAw7 := by
  have h0 : CfgOK Tryz.prog E (cPt (cR tabAw8)) := cPt_ok (cR_ok hE (tabAw8_ok hE)) (fun _ => trivial)
  have h1 := cfgI_ok mixed h0 h0 (fun _ => trivial) awL2_ok
  exact cfgI_ok mixed h1 h1 (fun _ => trivial) awL3_ok
def allC7 : Tree → Bool
  | .leaf [(false, [.b t])] => t.ev [] == some true
  | .leaf _ => false
  | .ite _ x y => allC7 x && allC7 y
theorem allC7_out {E : Env} {β : Nat → Nat} {w : World} {v : Value} : ∀ {T : Tree}, allC7 T = true → (toAV (T.pick E)).holds E β w v → v = .bool true := by
  intro T
  induction T with
  | leaf l =>
    intro h hh
    unfold allC7 at h
    split at h
    · rename_i t e
      injection e with e
      subst e
      rw [z11q.1 hh, BT.ev_spec (E := E) z8q (beq_iff_eq.1 h)]
    · cases h
    · rename_i e
      cases e
  | ite b x y ihx ihy =>
    intro h hh
    simp only [allC7, Bool.and_eq_true] at h
    simp only [Tree.pick] at hh
    split at hh
    · exact ihx h.1 hh
    · exact ihy h.2 hh
def okC7 : Option Tree → Bool
  | some T => allC7 T
  | none => false
theorem okC7_spec {o : Option Tree} (h : okC7 o = true) : ∃ T, o = some T ∧ allC7 T = true := by
  cases o with
  | none => cases h
  | some T => exact ⟨T, rfl, h⟩
theorem aw7_walk : okC7 (funE cAw7 Tryz.f32 [] []) = true := by kernel_rfl
theorem awake7_calls (w : World) : Calls Tryz.prog 32 #[] w (IsT w) := by
  obtain ⟨T, hT, hall⟩ := okC7_spec aw7_walk
  refine (z5q (E := qE []) mixed (cAw7_ok (qE_ok _)) z8q Tryz.func32 (by decide +kernel) hT (by decide +kernel) rfl w [] rfl (fun i x hx => by simp at hx)).mono ?_
  rintro e w' ⟨β, u, rfl, hh, ex⟩
  rw [allC7_out hall hh]
  exact ⟨rfl, ex⟩
def kAw7 : Con
  | [], _ => some (.val false [.b (.lit true)])
  | _, _ => none
theorem kAw7_ok {E : Env} : ConOK Tryz.prog E 32 kAw7 := by
  refine ⟨?_, ?_, ⟨_, Tryz.func32, by decide +kernel, by kernel_rfl⟩⟩
  · intro args G r h hG β w vs hv hlen
    unfold kAw7 at h
    split at h
    · injection h with h
      subst h
      obtain rfl : vs = [] := by simpa using hlen
      refine (awake7_calls w).mono ?_
      rintro e w' ⟨rfl, ex⟩
      exact ⟨_, rfl, z11q.2 rfl, ex⟩
    · cases h
  · intro args G r h x off
    unfold kAw7 at h
    split at h
    · injection h with h; subst h; intro e; cases e
    · cases h
theorem raw_at {E : Env} {w : World} {v : Value} {n i : Nat} {m : List RI} (h : RawN w v n m) (e : ∀ k, k < 2 * n → E.r (i + k) = rawW m k) : ∀ β, (AV.val true (rawL i (2 * n))).holds E β w v := fun _ => by
  obtain ⟨vs, rfl, hc⟩ := h
  exact ⟨vs, rfl, raws_raws2 (E := bE okQ m) (2 * n) 0 i vs hc (fun k hk => by rw [Nat.zero_add]; exact e k hk)⟩
theorem RawN.pt {w : World} {v : Value} {l : List RI} (h : RawN w v 5 l) (hs : pSm l = true) : ∃ p : PtQ, p.ok ∧ IsQs w v p.l ∧ LimQs 3 p.l := by
  unfold pSm at hs
  rw [Bool.and_eq_true] at hs
  have := h.qs (m := 3) (fun j hj => List.all_eq_true.1 hs.1 j (List.mem_range.2 hj))
  exact ⟨⟨rqW l 0, rqW l 1, rqW l 2, rqW l 3, rqW l 4⟩, hs.2, this⟩
end Go.Proofs.YtifeacfljfmnpaaGreat
end

section
set_option maxRecDepth 100000
namespace Go.Proofs.YtifeacfljfmnpaaGreat
open Go.RowKit
end Go.Proofs.YtifeacfljfmnpaaGreat
end

section
set_option maxRecDepth 100000
namespace Go.Proofs.YtifeacfljfmnpaaGreat
open Go.ChangeShapes Go.WideShapes Go.ChangeAt Go.RowKit Go.Joins
theorem arrw20 {cs : Array Value} (h : cs.size = 20) : ∃ a0 a1 a2 a3 b0 b1 b2 b3 c0 c1 c2 c3 d0 d1 d2 d3 e0 e1 e2 e3, cs = #[a0, a1, a2, a3, b0, b1, b2, b3, c0, c1, c2, c3, d0, d1, d2, d3, e0, e1, e2, e3] := by
  obtain ⟨l⟩ := cs
  have h' : l.length = 20 := h
  match l, h' with
  | [a0, a1, a2, a3, b0, b1, b2, b3, c0, c1, c2, c3, d0, d1, d2, d3, e0, e1, e2, e3], _ => exact ⟨a0, a1, a2, a3, b0, b1, b2, b3, c0, c1, c2, c3, d0, d1, d2, d3, e0, e1, e2, e3, rfl⟩
theorem open_pt {H : Type} {enc : TypeId × Value → H} {W : World} {b0 base : Nat} {spare : Nat → Bool} {held : Bool} {r : Reach} {v : Value} {d : DataW H} {p : List MemPlace}
    (hv : Value.okWide Tryz.prog W r b0 53 v) (h : DataW.Trod enc Tryz.prog W base spare held 53 v d p) : ∃ l, RawN W v 5 l := by
  obtain ⟨cs, rfl, hsz⟩ := okWide_struct Tryz.underlying53 hv
  have cn : Tryz.prog.cellsOf 53 = 20 := by kernel_rfl
  have k4 : Tryz.prog.cellsOf 26 = 4 := by kernel_rfl
  obtain ⟨a0, a1, a2, a3, b0, b1, b2, b3, c0, c1, c2, c3, d0, d1, d2, d3, e0, e1, e2, e3, rfl⟩ := arrw20 (hsz.trans cn)
  obtain ⟨fuel, hf⟩ := h
  obtain ⟨xs, n, _, _, _, hlen, hfl⟩ := DataW.trod_struct Tryz.underlying53 hf
  match xs, hlen with
  | [y0, y1, y2, y3, y4], _ =>
    have h0 := hfl 0 _ rfl
    have h1 := hfl 1 _ rfl
    have h2 := hfl 2 _ rfl
    have h3 := hfl 3 _ rfl
    have h4 := hfl 4 _ rfl
    obtain ⟨p0, q0, w0⟩ := open_rat4 (c0 := a0) (c1 := a1) (c2 := a2) (c3 := a3) (y := y0) (by simpa [Value.cells, k4] using h0)
    obtain ⟨p1, q1, w1⟩ := open_rat4 (c0 := b0) (c1 := b1) (c2 := b2) (c3 := b3) (y := y1) (by simpa [Value.cells, k4] using h1)
    obtain ⟨p2, q2, w2⟩ := open_rat4 (c0 := c0) (c1 := c1) (c2 := c2) (c3 := c3) (y := y2) (by simpa [Value.cells, k4] using h2)
    obtain ⟨p3, q3, w3⟩ := open_rat4 (c0 := d0) (c1 := d1) (c2 := d2) (c3 := d3) (y := y3) (by simpa [Value.cells, k4] using h3)
    obtain ⟨p4, q4, w4⟩ := open_rat4 (c0 := e0) (c1 := e1) (c2 := e2) (c3 := e3) (y := y4) (by simpa [Value.cells, k4] using h4)
    exact ⟨_, rawN_of (vs := [a0, a1, a2, a3, b0, b1, b2, b3, c0, c1, c2, c3, d0, d1, d2, d3, e0, e1, e2, e3]) (ps := [(p0, q0), (p1, q1), (p2, q2), (p3, q3), (p4, q4)]) ⟨[a0, a1, a2, a3], _, rfl, w0, [b0, b1, b2, b3], _, rfl, w1, [c0, c1, c2, c3], _, rfl, w2, [d0, d1, d2, d3], _, rfl, w3, [e0, e1, e2, e3], _, rfl, w4, rfl⟩⟩
end Go.Proofs.YtifeacfljfmnpaaGreat
end

section
set_option maxRecDepth 100000
namespace Go.Proofs.YtifeacfljfmnpaaGreat
open Go.RowKit
structure Simplest (a b x : Rat) : Prop where
  lo : a < x
  hi : x < b
  den : ∀ n d : Int, 0 < d → a.num * d < n * (a.den : Int) → n * (b.den : Int) < b.num * d → (x.den : Int) ≤ d ∧ x.num.natAbs ≤ n.natAbs
theorem simP_spec {a b : Rat} (h0 : 0 ≤ a.num) (hlt : a < b) : 0 < (simP a b).num ∧ Simplest a b (simP a b) := by
  have da : 0 < (a.den : Int) := by have := a.den_pos; omega
  have db : 0 < (b.den : Int) := by have := b.den_pos; omega
  have hltI := (Rat.lt_iff a b).1 hlt
  have hb0 : 0 < b.num := by
    have e1 : 0 ≤ a.num * (b.den : Int) := Int.mul_nonneg h0 (by omega)
    exact pos_of_mul (show 0 < b.num * (a.den : Int) by omega) da
  have O := simS_ok ((a.den : Int) + (b.den : Int) + 1).toNat a.num (a.den : Int) b.num (b.den : Int) h0 da hb0 (by omega) hltI (by omega)
  obtain ⟨P1, P2⟩ := O.parts
  have e1 : (simP a b).num = (simS ((a.den : Int) + (b.den : Int) + 1).toNat a.num (a.den : Int) b.num (b.den : Int)).1 := P1
  have e2 : ((simP a b).den : Int) = (simS ((a.den : Int) + (b.den : Int) + 1).toNat a.num (a.den : Int) b.num (b.den : Int)).2 := P2
  refine ⟨by rw [e1]; exact O.p1, ?_, ?_, ?_⟩
  · rw [Rat.lt_iff, e1, e2]; exact O.lo
  · rw [Rat.lt_iff, e1, e2]; exact O.hi
  · intro n d hd h1 h2
    obtain ⟨k1, k2⟩ := O.least n d hd h1 h2
    have p1 := O.p1
    rw [e1, e2]
    exact ⟨k2, by omega⟩
theorem Simplest.neg {a b x : Rat} (h : Simplest (-b) (-a) x) : Simplest a b (-x) := by
  obtain ⟨h1, h2, h3⟩ := h
  refine ⟨by grind, by grind, ?_⟩
  intro n d hd k1 k2
  have := h3 (-n) d hd (by rw [Rat.neg_num, Rat.neg_den]; grind) (by rw [Rat.neg_num, Rat.neg_den]; grind)
  rw [Rat.neg_num, Rat.neg_den]
  omega
theorem simV_spec {a b : Rat} (hlt : a < b) : Simplest a b (simV a b) := by
  have da : 0 < (a.den : Int) := by have := a.den_pos; omega
  have db : 0 < (b.den : Int) := by have := b.den_pos; omega
  unfold simV
  by_cases h0 : 0 ≤ a.num
  · rw [if_pos h0]; exact (simP_spec h0 hlt).2
  · rw [if_neg h0]
    by_cases hb : b.num ≤ 0
    · rw [if_pos hb]
      exact (simP_spec (a := -b) (b := -a) (by rw [Rat.neg_num]; omega) (by grind)).2.neg
    · rw [if_neg hb]
      refine ⟨?_, ?_, ?_⟩
      · rw [Rat.lt_iff]
        show a.num * 1 < 0 * _
        rw [Int.zero_mul]; omega
      · rw [Rat.lt_iff]
        show 0 * _ < b.num * 1
        rw [Int.zero_mul]; omega
      · intro n d hd _ _
        exact ⟨by show (1 : Int) ≤ d; omega, Nat.zero_le _⟩
end Go.Proofs.YtifeacfljfmnpaaGreat
end
