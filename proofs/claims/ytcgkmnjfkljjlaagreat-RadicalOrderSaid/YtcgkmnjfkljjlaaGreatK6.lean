/-
  Texts of this seat, joined.
-/
import Derived.Test.YtcgkmnjfkljjlaaGreatK5
section
set_option maxRecDepth 100000
namespace Go.Proofs.YtcgkmnjfkljjlaaGreat
open Go.RowKit
theorem den_cast (q : Rat) : (((q.den : Int)) : Rat) = (q.den : Rat) := rfl
theorem den_posQ (q : Rat) : (0 : Rat) < (q.den : Rat) := by
  have : ((0 : Nat) : Rat) < (q.den : Rat) := Rat.natCast_lt_natCast.2 q.den_pos
  exact this
theorem enT_den {E : Env} {i : Nat} {q : Rat} {L : Nat} (hq : RepQ E (qI i) q) (hL : exL.den E = (L : Int)) (hd : q.den ∣ L) : ((enT i).den E : Rat) = q * (L : Rat) := by
  have h1 : (enT i).den E = q.num * ((L / q.den : Nat) : Int) := by
    show E.i i * dq (exL.den E) (E.i (i + 1)) = _
    rw [show E.i i = q.num from hq.1, show E.i (i + 1) = (q.den : Int) from hq.2, hL, dq_pos (by have := q.den_pos; omega), ← Int.natCast_ediv]
  obtain ⟨k, hk⟩ := hd
  have h2 : L / q.den = k := by rw [hk, Nat.mul_div_cancel_left _ q.den_pos]
  rw [h1, h2, Rat.intCast_mul, ← mul_den' q]
  have e1 : (((k : Nat) : Int) : Rat) = (k : Rat) := rfl
  have e2 : (L : Rat) = (q.den : Rat) * (k : Rat) := by rw [hk, Rat.natCast_mul]
  rw [e1, e2]
  grind
theorem ex_pick {A B C D M N : Rat} (hM : 0 ≤ M) : ∃ t, exTree.pick (qE [A, B, C, D, M, N]) = [(false, [.n .i64 t])] ∧ t.den (qE [A, B, C, D, M, N]) = sg4 A B C D M N := by
  obtain ⟨E, hE⟩ : ∃ E, E = qE [A, B, C, D, M, N] := ⟨_, rfl⟩
  rw [← hE]
  have rA : RepQ E (qI 0) A := by rw [hE]; exact ⟨rfl, rfl⟩
  have rB : RepQ E (qI 2) B := by rw [hE]; exact ⟨rfl, rfl⟩
  have rC : RepQ E (qI 4) C := by rw [hE]; exact ⟨rfl, rfl⟩
  have rD : RepQ E (qI 6) D := by rw [hE]; exact ⟨rfl, rfl⟩
  have rM : RepQ E (qI 8) M := by rw [hE]; exact ⟨rfl, rfl⟩
  have rN : RepQ E (qI 10) N := by rw [hE]; exact ⟨rfl, rfl⟩
  have d1 : exL1.den E = (Nat.lcm A.den B.den : Int) := lcmT_den rA.2 rB.2 A.den_pos
  have d2 : exL2.den E = (Nat.lcm C.den D.den : Int) := lcmT_den rC.2 rD.2 C.den_pos
  have pos1 : 0 < Nat.lcm A.den B.den := Nat.lcm_pos A.den_pos B.den_pos
  have pos2 : 0 < Nat.lcm C.den D.den := Nat.lcm_pos C.den_pos D.den_pos
  obtain ⟨L, hLd⟩ : ∃ L, L = Nat.lcm (Nat.lcm A.den B.den) (Nat.lcm C.den D.den) := ⟨_, rfl⟩
  have dL : exL.den E = (L : Int) := by rw [hLd]; exact lcmT_den d1 d2 pos1
  have posL : 0 < L := by rw [hLd]; exact Nat.lcm_pos pos1 pos2
  have hLr : (0 : Rat) < (L : Rat) := by
    have : ((0 : Nat) : Rat) < (L : Rat) := Rat.natCast_lt_natCast.2 posL
    exact this
  have vA : A.den ∣ L := by rw [hLd]; exact Nat.dvd_trans (Nat.dvd_lcm_left _ _) (Nat.dvd_lcm_left _ _)
  have vB : B.den ∣ L := by rw [hLd]; exact Nat.dvd_trans (Nat.dvd_lcm_right _ _) (Nat.dvd_lcm_left _ _)
  have vC : C.den ∣ L := by rw [hLd]; exact Nat.dvd_trans (Nat.dvd_lcm_left _ _) (Nat.dvd_lcm_right _ _)
  have vD : D.den ∣ L := by rw [hLd]; exact Nat.dvd_trans (Nat.dvd_lcm_right _ _) (Nat.dvd_lcm_right _ _)
  have ea := enT_den rA dL vA
  have eb := enT_den rB dL vB
  have ec := enT_den rC dL vC
  have ed := enT_den rD dL vD
  have key := sg4_scaled (A := A) (B := B) (C := C) (D := D) (M := M) (N := N) (L := (L : Rat)) (mD := (M.den : Rat)) (nD := (N.den : Rat)) (mN := (M.num : Rat)) (nN := (N.num : Rat)) hLr (den_posQ M) (den_posQ N) ea eb ec ed (mul_den' M).symm (mul_den' N).symm
  have s1 : exS1.den E = sg2 ((enT 0).den E : Rat) ((enT 2).den E : Rat) M := psT_den rfl rfl rM hM
  have s2 : (psT (enT 4) (enT 6) (.var 8) (.var 9)).den E = sg2 ((enT 4).den E : Rat) ((enT 6).den E : Rat) M := psT_den rfl rfl rM hM
  have sN : (IT.a2 3 (.var 10) (.lit 0)).den E = sgQ' N := by rw [sgQ'_num, ← rN.1]; rfl
  have m9 : E.i 9 = (M.den : Int) := rM.2
  have m8 : E.i 8 = M.num := rM.1
  have n11 : E.i 11 = (N.den : Int) := rN.2
  have n10 : E.i 10 = N.num := rN.1
  have pl : ∀ a b : IT, ((plT a b).den E : Rat) = (a.den E : Rat) * (a.den E : Rat) * (M.den : Rat) + (b.den E : Rat) * (b.den E : Rat) * (M.num : Rat) := fun a b => by
    show ((a.den E * a.den E * E.i 9 + b.den E * b.den E * E.i 8 : Int) : Rat) = _
    rw [m9, m8, Rat.intCast_add, Rat.intCast_mul, Rat.intCast_mul, Rat.intCast_mul, Rat.intCast_mul, den_cast]
  have fa : ∀ a b : IT, ((faT a b).den E : Rat) = (a.den E : Rat) * (b.den E : Rat) * (M.den : Rat) := fun a b => by
    show ((a.den E * b.den E * E.i 9 : Int) : Rat) = _
    rw [m9, Rat.intCast_mul, Rat.intCast_mul, den_cast]
  have d3a : (ex3a.den E : Rat) = (plT (enT 0) (enT 2)).den E * (N.den : Rat) - (plT (enT 4) (enT 6)).den E * (N.num : Rat) := by
    show (((plT (enT 0) (enT 2)).den E * E.i 11 - (plT (enT 4) (enT 6)).den E * E.i 10 : Int) : Rat) = _
    rw [n11, n10, Rat.intCast_sub, Rat.intCast_mul, Rat.intCast_mul, den_cast]
  have dF : (exF.den E : Rat) = (faT (enT 0) (enT 2)).den E * (N.den : Rat) - (faT (enT 4) (enT 6)).den E * (N.num : Rat) := by
    show (((faT (enT 0) (enT 2)).den E * E.i 11 - (faT (enT 4) (enT 6)).den E * E.i 10 : Int) : Rat) = _
    rw [n11, n10, Rat.intCast_sub, Rat.intCast_mul, Rat.intCast_mul, den_cast]
  have dFF : (((IT.a2 0 exF exF).den E : Int) : Rat) = (exF.den E : Rat) + (exF.den E : Rat) := by
    show ((exF.den E + exF.den E : Int) : Rat) = _
    rw [Rat.intCast_add]
  have s3 : exS3.den E = sg2 (ex3a.den E : Rat) ((IT.a2 0 exF exF).den E : Rat) M := psT_den rfl rfl rM hM
  rw [d3a, dFF, dF, pl, pl, fa, fa] at s3
  have rs := sg2_range ((enT 0).den E : Rat) ((enT 2).den E : Rat) M
  have rt := mul_range (sg2_range ((enT 4).den E : Rat) ((enT 6).den E : Rat) M) (sgQ'_range N)
  have dO : exO.den E = sg2 ((enT 4).den E : Rat) ((enT 6).den E : Rat) M * sgQ' N := by
    show (psT (enT 4) (enT 6) (.var 8) (.var 9)).den E * (IT.a2 3 (.var 10) (.lit 0)).den E = _
    rw [s2, sN]
  have hc : (BT.le (.lit 0) (.a1 20 (.a2 2 exS1 exO))).den E = decide (0 ≤ IntKind.i64.wrap (exS1.den E * exO.den E)) := rfl
  have dS : exSum.den E = (if (-1 : Int) < (if IntKind.i64.wrap (exS1.den E + exO.den E) < 1 then IntKind.i64.wrap (exS1.den E + exO.den E) else 1) then (if IntKind.i64.wrap (exS1.den E + exO.den E) < 1 then IntKind.i64.wrap (exS1.den E + exO.den E) else 1) else -1) := rfl
  have dP : (IT.a2 2 exS1 exS3).den E = exS1.den E * exS3.den E := rfl
  rw [key]
  rw [s1, dO] at hc dS
  rw [s1, s3] at dP
  unfold sumSg
  generalize sg2 ((enT 0).den E : Rat) ((enT 2).den E : Rat) M = s at *
  generalize sg2 ((enT 4).den E : Rat) ((enT 6).den E : Rat) M * sgQ' N = t at *
  have hw1 : IntKind.i64.wrap (s * t) = s * t := wrap_tiny (by rcases rs with rfl | rfl | rfl <;> rcases rt with rfl | rfl | rfl <;> omega)
  have hw2 : IntKind.i64.wrap (s + t) = s + t := wrap_tiny (by omega)
  rw [hw1] at hc
  rw [hw2] at dS
  by_cases h : 0 ≤ s * t
  · refine ⟨exSum, ?_, ?_⟩
    · unfold exTree
      simp only [Tree.pick]
      rw [if_pos (by rw [hc, decide_eq_true h])]
    · rw [dS]
      rcases rs with rfl | rfl | rfl <;> rcases rt with rfl | rfl | rfl <;> first | rfl | exact absurd h (by decide)
  · refine ⟨.a2 2 exS1 exS3, ?_, ?_⟩
    · unfold exTree
      simp only [Tree.pick]
      rw [if_neg (by rw [hc, decide_eq_false h]; decide)]
    · rw [dP]
      rcases rs with rfl | rfl | rfl <;> rcases rt with rfl | rfl | rfl <;> first | rfl | exact absurd (by decide) h
def RetN (z : Int) (w : World) (e : Ending) (w' : World) : Prop := e = .returned (.int .i64 z) ∧ Ext w w'
theorem exactSign_calls (w : World) (v : Value) (A B C D M N : Rat) (h : IsQs w v [A, B, C, D, M, N]) (l : LimQs 40 [A, B, C, D, M, N]) (hM : 0 ≤ M) : Calls Tryz.prog 65 #[v] w (RetN (sg4 A B C D M N) w) := by
  obtain ⟨vs, rfl, hvs⟩ := h
  have hch : chunks (qE [A, B, C, D, M, N]) w (intC 40 0 6) vs := (qs_chunks [A, B, C, D, M, N] 0 vs (fun j q hj => by
    match j, hj with
    | 0, hj => injection hj with hj; subst hj; exact ⟨rfl, rfl⟩
    | 1, hj => injection hj with hj; subst hj; exact ⟨rfl, rfl⟩
    | 2, hj => injection hj with hj; subst hj; exact ⟨rfl, rfl⟩
    | 3, hj => injection hj with hj; subst hj; exact ⟨rfl, rfl⟩
    | 4, hj => injection hj with hj; subst hj; exact ⟨rfl, rfl⟩
    | 5, hj => injection hj with hj; subst hj; exact ⟨rfl, rfl⟩)).2 ⟨hvs, l⟩
  have hG : exG.holds (qE [A, B, C, D, M, N]) := by
    have p : ∀ q : Rat, 0 < (q.den : Int) := fun q => by have := q.den_pos; omega
    refine lt_t (p A) <| lt_t (p B) <| lt_t (p C) <| lt_t (p D) <| lt_t ?_ <| lt_t ?_ <| lt_f ?_ no_asm
    · rw [show exL1.den (qE [A, B, C, D, M, N]) = (Nat.lcm A.den B.den : Int) from lcmT_den rfl rfl A.den_pos]
      have := Nat.lcm_pos A.den_pos B.den_pos
      show (0 : Int) < _
      omega
    · rw [show exL2.den (qE [A, B, C, D, M, N]) = (Nat.lcm C.den D.den : Int) from lcmT_den rfl rfl C.den_pos]
      have := Nat.lcm_pos C.den_pos D.den_pos
      show (0 : Int) < _
      omega
    · show ¬ cmpZ M.num 0 < 0
      have := Rat.num_nonneg.2 hM
      intro k
      rcases cmpZ_cases M.num 0 with ⟨c, e⟩ | ⟨c, e⟩ | ⟨c, e⟩ <;> omega
  refine (fun_sound mixed (cEx_ok (qE_ok _)) hG Tryz.func65 (by decide +kernel) ex_walk (by decide +kernel) rfl w [.agg vs.toArray] rfl (fun i x hx => ?_)).mono ?_
  · match i, hx with
    | 0, hx => injection hx with hx; subst hx; exact ⟨fun _ => 0, _, rfl, vs, rfl, hch⟩
  · rintro e w' ⟨β, u, rfl, hh, ex⟩
    obtain ⟨t, ht, hd⟩ := ex_pick (A := A) (B := B) (C := C) (D := D) (M := M) (N := N) hM
    rw [ht] at hh
    have hu : u = .int .i64 (sg4 A B C D M N) := by rw [← hd]; exact one_num.1 hh
    rw [hu]
    exact ⟨rfl, ex⟩
end Go.Proofs.YtcgkmnjfkljjlaaGreat
end

section
set_option maxRecDepth 100000
namespace Go.Proofs.YtcgkmnjfkljjlaaGreat
open Go.RowKit
noncomputable def tabFq : List (Nat × Con) := [(122, kFR), (124, kI2 muLo muHi), (170, kI2 adLo adHi), (123, kSqV), (143, kNegI), (120, kIn fun x => .a2 3 x (.lit 0))]
theorem tabFq_ok {E : Env} (hE : QEnv E) : TabOK Tryz.prog E tabFq :=
  .cons (kFR_ok hE pFromRat_calls ⟨_, Tryz.func122, by decide +kernel, by kernel_rfl⟩) <| .cons (kI2_ok muLo_den muHi_den pMul_calls ⟨_, Tryz.func124, by decide +kernel, by kernel_rfl⟩) <|
  .cons (kI2_ok (L := fun a _ c _ => a + c) (H := fun _ b _ d => b + d) (fun _ _ _ _ => rfl) (fun _ _ _ _ => rfl) pAdd_calls ⟨_, Tryz.func170, by decide +kernel, by kernel_rfl⟩) <|
  .cons (kSqV_ok pSqrt_calls ⟨_, Tryz.func123, by decide +kernel, by kernel_rfl⟩) <|
  .cons (kNegI_ok (neg_gen Tryz.func143 (by decide +kernel) (by decide +kernel) neg_walkP) ⟨_, Tryz.func143, by decide +kernel, by kernel_rfl⟩) <|
  .cons (kIn_ok (cmpZ · 0) (fun _ => rfl) (fun w v1 z1 h1 => sign_calls w v1 z1 h1) ⟨_, Tryz.func120, by decide +kernel, by kernel_rfl⟩) .nil
def needFq : List (Nat × (List AV → Asm → Option BT)) := [(122, nFR), (124, nI2 muLo muHi), (170, nI2 adLo adHi), (123, nSqV)]
noncomputable def cFq0 : Cfg := cfgN (cfgOf tabFq) needFq
theorem cFq0_ok {E : Env} (hE : QEnv E) : CfgOK Tryz.prog E cFq0 := cfgN_ok (cfg_ok (tabFq_ok hE))
noncomputable def cFq : Cfg := cfgI cFq0 cFq0 [(169, Tryz.f169)]
theorem cFq_ok {E : Env} (hE : QEnv E) : CfgOK Tryz.prog E cFq := cfgI_ok mixed (cFq0_ok hE) (cFq0_ok hE) (fun _ => trivial) (.cons Tryz.func169 (by decide +kernel) (by kernel_rfl) .nil)
def isIvQ (x y : IT) : Option Tree → Bool
  | some T => isIv x y T
  | none => false
def isNoQ : Option Tree → Bool
  | some T => isNo T
  | none => false
theorem ivQ_calls {C : Cfg} {E : Env} (hC : CfgOK Tryz.prog E C) (hw : ∀ w, C.wok w) {G : Asm} (hG : G.holds E) {f : FuncId} {fn : Func} (hf : Tryz.prog.funcs[f]? = some fn) (h4 : fn.results.toList.length ≤ 4) {args : List AV} {x y : IT} {a b : Int} (hT : isIvQ x y (funE C fn G args) = true) (hx : x.den E = a) (hy : y.den E = b) (hn : args.length ≤ fn.ntmps) (hp : args.all noPtr = true) (w : World) (vs : List Value) (hl : vs.length = args.length)
    (hv : ∀ (i : Nat) (x : AV), args[i]? = some x → ∃ v, vs[i]? = some v ∧ ∀ β, x.holds E β w v) : Calls Tryz.prog f vs.toArray w (RetIv (some (a, b)) w) := by
  unfold isIvQ at hT
  split at hT
  · rename_i T hT'
    refine (fun_sound mixed hC hG hf h4 hT' hn hp w vs hl (fun i x hx => ?_) (fun w' _ => hw w')).mono ?_
    · obtain ⟨v, h1, h2⟩ := hv i x hx
      exact ⟨fun _ => 0, v, h1, h2 _⟩
    · rintro e w' ⟨β, v, rfl, hh, ex⟩
      rw [isIv_pick hT] at hh
      rw [ivL_out hh, hx, hy]
      exact ⟨rfl, ex⟩
  · cases hT
theorem noQ_calls {C : Cfg} {E : Env} (hC : CfgOK Tryz.prog E C) (hw : ∀ w, C.wok w) {G : Asm} (hG : G.holds E) {f : FuncId} {fn : Func} (hf : Tryz.prog.funcs[f]? = some fn) (h4 : fn.results.toList.length ≤ 4) {args : List AV} (hT : isNoQ (funE C fn G args) = true) (hn : args.length ≤ fn.ntmps) (hp : args.all noPtr = true) (w : World) (vs : List Value) (hl : vs.length = args.length)
    (hv : ∀ (i : Nat) (x : AV), args[i]? = some x → ∃ v, vs[i]? = some v ∧ ∀ β, x.holds E β w v) : Calls Tryz.prog f vs.toArray w (RetIv none w) := by
  unfold isNoQ at hT
  split at hT
  · rename_i T hT'
    refine (fun_sound mixed hC hG hf h4 hT' hn hp w vs hl (fun i x hx => ?_) (fun w' _ => hw w')).mono ?_
    · obtain ⟨v, h1, h2⟩ := hv i x hx
      exact ⟨fun _ => 0, v, h1, h2 _⟩
    · rintro e w' ⟨β, v, rfl, hh, ex⟩
      rw [isNo_pick hT] at hh
      rw [noL_out hh]
      exact ⟨rfl, ex⟩
  · cases hT
def aRq : AV := .val true (rt (qI 0) (qI 2) (qI 4) 40)
def gZq (z : Bool) : Asm := [(.eq (sgQT (qI 2)) (.lit 0), z)]
noncomputable def pRq (G : Asm) : Option Tree := funE cFq Tryz.f121 G [aRq]
theorem rq_yes : (bools.all fun z => isIvQ (rtL z (qI 0) (qI 2) (qI 4)) (rtH z (qI 0) (qI 2) (qI 4)) (pRq (gZq z ++ tsRt z (qI 0) (qI 2) (qI 4)))) = true := by kernel_rfl
theorem rq_no : (bools.all fun z => (List.range 8).all fun i => decide ((tsRt z (qI 0) (qI 2) (qI 4)).length ≤ i) || isNoQ (pRq (gZq z ++ flipAt (tsRt z (qI 0) (qI 2) (qI 4)) i))) = true := by kernel_rfl
structure RootQ (a b c : Rat) (o : Option (Int × Int)) : Prop where
  prog : ∀ (w : World) (v : Value), IsRoot w v a b c → LimR 40 a b c → Calls Tryz.prog 121 #[v] w (RetIv o w)
  holds : ∀ L H, o = some (L, H) → Prp L H ∧ ∀ m, 0 ≤ c → IsRt c m → IvIn L H fun k => a + b * m k
theorem root_q (a b c : Rat) : ∃ o, RootQ a b c o := by
  obtain ⟨E, hE⟩ : ∃ E, E = qE [a, b, c] := ⟨_, rfl⟩
  have hQ : QEnv E := by rw [hE]; exact qE_ok _
  have ra : RepQ E (qI 0) a := by rw [hE]; exact ⟨rfl, rfl⟩
  have rb : RepQ E (qI 2) b := by rw [hE]; exact ⟨rfl, rfl⟩
  have rc : RepQ E (qI 4) c := by rw [hE]; exact ⟨rfl, rfl⟩
  have hv : ∀ (w : World) (v : Value), IsRoot w v a b c → LimR 40 a b c → ∀ (i : Nat) (x : AV), [aRq][i]? = some x → ∃ u, [v][i]? = some u ∧ ∀ β, x.holds E β w u := fun w v h l => one_arg rfl rfl fun β => (one_rt ra rb rc).2 ⟨h, l⟩
  obtain ⟨z, hz⟩ : ∃ z : Bool, z = decide (sgQ' b = 0) := ⟨_, rfl⟩
  have gz : (gZq z).holds E := by
    refine asm_c ?_ no_asm
    show ((sgQT (qI 2)).den E == 0) = z
    rw [show (sgQT (qI 2)).den E = sgQ' b by rw [sgQ'_num, ← rb.1]; rfl, hz, Bool.eq_iff_iff, beq_iff_eq, decide_eq_true_iff]
  have zb : z = true → b = 0 := fun h => by
    rw [h] at hz
    have := of_decide_eq_true hz.symm
    rw [sgQ'_num] at this
    refine Rat.num_eq_zero.1 ?_
    rcases cmpZ_cases b.num 0 with ⟨_, e⟩ | ⟨_, e⟩ | ⟨_, e⟩ <;> omega
  have dl := rtL_den z ra rb rc
  have dh := rtH_den z ra rb rc
  rcases first_bad (E := E) (tsRt z (qI 0) (qI 2) (qI 4)) with hall | ⟨i, hi, hbad⟩
  · have hw := List.all_eq_true.1 rq_yes z (bools_mem z)
    refine ⟨some (rtLv z a b c, rtHv z a b c), ?_, ?_⟩
    · intro w v h l
      exact ivQ_calls (cFq_ok hQ) (fun _ => trivial) (asm_app gz hall) Tryz.func121 (by decide +kernel) hw dl dh (by decide +kernel) rfl w _ rfl (hv w v h l)
    · intro L H e
      injection e with e
      injection e with e1 e2
      subst e1 e2
      refine ⟨?_, fun m hc hm => rt_in z zb hc hm⟩
      have : (exT (rtL z (qI 0) (qI 2) (qI 4)) (rtH z (qI 0) (qI 2) (qI 4))).den E = true := by
        cases z
        · exact hall (exT (rtL false (qI 0) (qI 2) (qI 4)) (rtH false (qI 0) (qI 2) (qI 4)), true) (by simp [tsRt])
        · exact hall (exT (qL (qI 0)) (qH (qI 0)), true) (by simp [tsRt])
      rw [exT_den, dl, dh] at this
      exact prpB_iff.1 this
  · have hi8 : i < 8 := by
      cases z
      · exact hi
      · have : i < 1 := hi
        omega
    have hw := List.all_eq_true.1 (List.all_eq_true.1 rq_no z (bools_mem z)) i (List.mem_range.2 hi8)
    rw [decide_eq_false (by omega), Bool.false_or] at hw
    refine ⟨none, ?_, ?_⟩
    · intro w v h l
      exact noQ_calls (cFq_ok hQ) (fun _ => trivial) (asm_app gz hbad) Tryz.func121 (by decide +kernel) hw (by decide +kernel) rfl w _ rfl (hv w v h l)
    · intro L H e
      cases e
end Go.Proofs.YtcgkmnjfkljjlaaGreat
end

section
set_option maxRecDepth 100000
namespace Go.Proofs.YtcgkmnjfkljjlaaGreat
open Go.RowKit
def kKq (chk : List AV → Bool) (r : AV) (k : Con) : Con := fun args G => if chk args then some r else k args G
structure KnownQ (E : Env) (f : Nat) (chk : List AV → Bool) (r : AV) : Prop where
  calls : ∀ args, chk args = true → ∀ (β : Nat → Nat) (w : World) (vs : List Value), (∀ (i : Nat) (x : AV), args[i]? = some x → ∃ v, vs[i]? = some v ∧ x.holds E β w v) → vs.length = args.length → Calls Tryz.prog f vs.toArray w fun e w' => ∃ v, e = .returned v ∧ (∀ β w', r.holds E β w' v) ∧ Ext w w'
  np : ∀ x off, r ≠ .ptr x off
theorem kKq_ok {E : Env} {f : Nat} {chk : List AV → Bool} {r : AV} {k : Con} (h : KnownQ E f chk r) (hk : ConOK Tryz.prog E f k) : ConOK Tryz.prog E f (kKq chk r k) := by
  refine ⟨?_, ?_, hk.body⟩
  · intro args G s hs hG β w vs hv hl
    unfold kKq at hs
    split at hs
    · rename_i hc
      injection hs with hs
      subst hs
      refine (h.calls args hc β w vs hv hl).mono ?_
      rintro e w' ⟨v, rfl, h1, h2⟩
      exact ⟨v, rfl, h1 _ _, h2⟩
    · exact hk.calls args G s hs hG β w vs hv hl
  · intro args G s hs x off
    unfold kKq at hs
    split at hs
    · injection hs with hs
      subst hs
      exact h.np x off
    · exact hk.nptr args G s hs x off
def kNoQ : Con := fun _ _ => none
theorem kNoQ_ok {E : Env} {f : Nat} (hb : ∃ fn, Tryz.prog.funcs[f]? = some fn ∧ fn.name ≠ "runtime.NumGoroutine" ∧ fn.body.isNone = false) : ConOK Tryz.prog E f kNoQ := by
  refine ⟨?_, ?_, hb⟩
  · intro args G r h
    cases h
  · intro args G r h
    cases h
def resQ (o : Option (IT × IT)) : AV := match o with | some p => tIv p.1 p.2 | none => tNo
theorem resQ_np (o : Option (IT × IT)) : ∀ x off, resQ o ≠ .ptr x off := by
  intro x off e
  cases o <;> cases e
theorem resQ_holds {E : Env} {β : Nat → Nat} {w : World} {o : Option (IT × IT)} {u : Option (Int × Int)} (h : u = o.map fun p => (p.1.den E, p.2.den E)) : (resQ o).holds E β w (ivV u) := by
  subst h
  cases o with
  | none => exact tNo_holds
  | some p => exact tIv_holds rfl rfl
def isQw (i : Nat) : List Chunk → Bool
  | [.int (.var j) l, .int (.var k) m] => j == i && (k == i + 1 && (decide (l ≤ 40) && decide (m ≤ 40)))
  | _ => false
def isRw (a b c : Nat) : AV → Bool
  | .val true [x, y, z, t, u, s] => isQw a [x, y] && (isQw b [z, t] && isQw c [u, s])
  | _ => false
theorem isQw_spec {i : Nat} {cs : List Chunk} (h : isQw i cs = true) : ∃ l m, cs = [.int (.var i) l, .int (.var (i + 1)) m] ∧ l ≤ 40 ∧ m ≤ 40 := by
  unfold isQw at h
  split at h
  · simp only [Bool.and_eq_true, beq_iff_eq, decide_eq_true_iff] at h
    obtain ⟨rfl, rfl, h1, h2⟩ := h
    exact ⟨_, _, rfl, h1, h2⟩
  · cases h
theorem isRw_holds {E : Env} {w : World} {β : Nat → Nat} {i j k : Nat} {x : AV} {v : Value} {a b c : Rat} (ha : RepQ E (qI i) a) (hb : RepQ E (qI j) b) (hc : RepQ E (qI k) c) (h : isRw i j k x = true) (hv : x.holds E β w v) : IsRoot w v a b c ∧ LimR 40 a b c := by
  unfold isRw at h
  split at h
  · rename_i p q r s t u
    simp only [Bool.and_eq_true] at h
    obtain ⟨l1, m1, e1, b1, b2⟩ := isQw_spec h.1
    obtain ⟨l2, m2, e2, b3, b4⟩ := isQw_spec h.2.1
    obtain ⟨l3, m3, e3, b5, b6⟩ := isQw_spec h.2.2
    simp only [List.cons.injEq, and_true] at e1 e2 e3
    obtain ⟨rfl, rfl⟩ := e1
    obtain ⟨rfl, rfl⟩ := e2
    obtain ⟨rfl, rfl⟩ := e3
    obtain ⟨k1, ⟨k2, k3⟩, ⟨k4, k5⟩, k6, k7⟩ := (one_root (A := qI i) (B := qI j) (C := qI k) ha hb hc).1 hv
    exact ⟨k1, ⟨k2.mono b1, k3.mono b2⟩, ⟨k4.mono b3, k5.mono b4⟩, k6.mono b5, k7.mono b6⟩
  · cases h
def chkRw (a b c : Nat) : List AV → Bool
  | [x] => isRw a b c x
  | _ => false
theorem knownq_root {E : Env} {f : Nat} {i j k : Nat} {a b c : Rat} {u : Option (Int × Int)} {o : Option (IT × IT)} (ha : RepQ E (qI i) a) (hb : RepQ E (qI j) b) (hc : RepQ E (qI k) c) (h : ∀ (w : World) (v : Value), IsRoot w v a b c → LimR 40 a b c → Calls Tryz.prog f #[v] w (RetIv u w)) (ho : u = o.map fun p => (p.1.den E, p.2.den E)) : KnownQ E f (chkRw i j k) (resQ o) := by
  refine ⟨?_, resQ_np o⟩
  intro args hc' β w vs hv hl
  unfold chkRw at hc'
  split at hc'
  · obtain ⟨v, rfl, h1⟩ := args1 hv hl
    obtain ⟨k1, k2⟩ := isRw_holds ha hb hc hc' h1
    refine (h w v k1 k2).mono ?_
    rintro e w' ⟨rfl, ex⟩
    exact ⟨_, rfl, fun β w' => resQ_holds ho, ex⟩
  · cases hc'
def oL (b : Bool) : Option (IT × IT) := if b then some (.var 12, .var 14) else none
def oF (b : Bool) : Option (IT × IT) := if b then some (.var 16, .var 18) else none
noncomputable def tabFs (b d : Bool) : List (Nat × Con) := (121, kKq (chkRw 0 2 8) (resQ (oL b)) (kKq (chkRw 4 6 8) (resQ (oF d)) kNoQ)) :: tabFq
noncomputable def cFs0 (b d : Bool) : Cfg := cfgN (cfgOf (tabFs b d)) needFq
noncomputable def cFs1 (b d : Bool) : Cfg := cfgI (cFs0 b d) (cFs0 b d) [(180, Tryz.f180)]
noncomputable def cFs (b d : Bool) : Cfg := cfgI (cFs1 b d) (cFs1 b d) [(125, Tryz.f125)]
def fsN : IT := sqLoT (qL (qI 10))
def fsM : IT := sqHiT (qH (qI 10))
def fsRL : IT := muLo (.var 16) (.var 18) fsN fsM
def fsRH : IT := muHi (.var 16) (.var 18) fsN fsM
def fsSL : IT := .a2 0 (.var 12) fsRL
def fsSH : IT := .a2 0 (.var 14) fsRH
def tsFs : Asm := [(exT (qL (qI 10)) (qH (qI 10)), true), (.lt (qH (qI 10)) (.lit 0), false), (exT fsN fsM, true), (exT fsRL fsRH, true), (exT fsSL fsSH, true)]
def isIB (z : Int) (b : Bool) : Tree → Bool
  | .leaf [(false, [.n .i64 (.lit x)]), (false, [.b (.lit c)])] => x == z && c == b
  | .leaf _ => false
  | .ite _ t e => isIB z b t && isIB z b e
def isIBo (z : Int) (b : Bool) : Option Tree → Bool
  | some T => isIB z b T
  | none => false
theorem isIB_pick {E : Env} {z : Int} {b : Bool} : ∀ {T : Tree}, isIB z b T = true → T.pick E = [(false, [.n .i64 (.lit z)]), (false, [.b (.lit b)])] := by
  intro T
  induction T with
  | leaf l =>
    intro h
    unfold isIB at h
    split at h
    · rename_i x c e
      cases e
      simp only [Bool.and_eq_true, beq_iff_eq] at h
      rw [h.1, h.2]
      rfl
    · cases h
    · rename_i e
      cases e
  | ite c t e iht ihe =>
    intro h
    simp only [isIB, Bool.and_eq_true] at h
    simp only [Tree.pick]
    split
    · exact iht h.1
    · exact ihe h.2
def gTy (x y : IT) : Asm := [(.le x y, true), (.le lM x, true), (.le y lP, true)]
theorem gTy_ok {E : Env} {x y : IT} {a b : Int} (hx : x.den E = a) (hy : y.den E = b) (h : Prp a b) : (gTy x y).holds E := by
  subst hx hy
  obtain ⟨h1, h2, h3⟩ := h
  exact le_t h1 <| le_t h2 <| le_t h3 no_asm
noncomputable def fsW (b d : Bool) (z : Int) (c : Bool) (G : Asm) : Bool := isIBo z c (funE (cFs b d) Tryz.f64 G [aQd])
def gLF : Asm := gTy (.var 12) (.var 14) ++ gTy (.var 16) (.var 18)
theorem fs_none : (fsW false false 0 false [] && (fsW false true 0 false [] && fsW true false 0 false [])) = true := by kernel_rfl
theorem fs_no : ((List.range 5).all fun i => fsW true true 0 false (gLF ++ flipAt tsFs i)) = true := by kernel_rfl
theorem fs_all : ((List.range 4).all fun n => fsW true true (sgnN n) (decide (n < 3)) (gLF ++ (tsFs ++ sgnG fsSL fsSH n))) = true := by kernel_rfl
end Go.Proofs.YtcgkmnjfkljjlaaGreat
end

section
set_option maxRecDepth 100000
namespace Go.Proofs.YtcgkmnjfkljjlaaGreat
open Go.RowKit
def RetIB (z : Int) (b : Bool) (w : World) (e : Ending) (w' : World) : Prop := e = .returned (.tuple #[.int .i64 z, .bool b]) ∧ Ext w w'
theorem IB_out {E : Env} {β : Nat → Nat} {w : World} {z : Int} {b : Bool} {v : Value} (h : (toAV [(false, [.n .i64 (.lit z)]), (false, [.b (.lit b)])]).holds E β w v) : v = .tuple #[.int .i64 z, .bool b] := by
  obtain ⟨vs, rfl, v1, r, rfl, h1, v2, r', rfl, h2, h3⟩ := h
  simp only [tupAll] at h3
  subst h3
  rw [one_num.1 h1, one_bool.1 h2]
  rfl
theorem opt_ifq (u : Option (Int × Int)) : ∃ (s : Bool) (L H : Int), u = if s then some (L, H) else none := by
  cases u with
  | none => exact ⟨false, 0, 0, rfl⟩
  | some p => exact ⟨true, p.1, p.2, rfl⟩
theorem oL_map {E : Env} {s : Bool} {L H : Int} (h1 : E.i 12 = L) (h2 : E.i 14 = H) : (if s then some (L, H) else none) = (oL s).map fun p => (p.1.den E, p.2.den E) := by
  cases s
  · rfl
  · show some (L, H) = some (E.i 12, E.i 14)
    rw [h1, h2]
theorem oF_map {E : Env} {s : Bool} {L H : Int} (h1 : E.i 16 = L) (h2 : E.i 18 = H) : (if s then some (L, H) else none) = (oF s).map fun p => (p.1.den E, p.2.den E) := by
  cases s
  · rfl
  · show some (L, H) = some (E.i 16, E.i 18)
    rw [h1, h2]
theorem qs6 {E : Env} {A B C D M N : Rat} (rA : RepQ E (qI 0) A) (rB : RepQ E (qI 2) B) (rC : RepQ E (qI 4) C) (rD : RepQ E (qI 6) D) (rM : RepQ E (qI 8) M) (rN : RepQ E (qI 10) N) : ∀ j q, [A, B, C, D, M, N][j]? = some q → RepQ E (qI (0 + 2 * j)) q := fun j q hj => by
  match j, hj with
  | 0, hj => injection hj with hj; subst hj; exact rA
  | 1, hj => injection hj with hj; subst hj; exact rB
  | 2, hj => injection hj with hj; subst hj; exact rC
  | 3, hj => injection hj with hj; subst hj; exact rD
  | 4, hj => injection hj with hj; subst hj; exact rM
  | 5, hj => injection hj with hj; subst hj; exact rN
structure FastQ (A B C D M N : Rat) (z : Int) (b : Bool) : Prop where
  calls : ∀ (w : World) (v : Value), IsQs w v [A, B, C, D, M, N] → LimQs 40 [A, B, C, D, M, N] → Calls Tryz.prog 64 #[v] w (RetIB z b w)
  right : b = true → 0 ≤ M → 0 ≤ N → z = sg4 A B C D M N
  zero : b = false → z = 0
theorem fast_q (A B C D M N : Rat) : ∃ z b, FastQ A B C D M N z b := by
  obtain ⟨u1, hu1⟩ := root_q A B M
  obtain ⟨u2, hu2⟩ := root_q C D M
  obtain ⟨s1, L1, H1, e1⟩ := opt_ifq u1
  obtain ⟨s2, L2, H2, e2⟩ := opt_ifq u2
  obtain ⟨E, hE⟩ : ∃ E, E = qE [A, B, C, D, M, N, (L1 : Rat), (H1 : Rat), (L2 : Rat), (H2 : Rat)] := ⟨_, rfl⟩
  have hQ : QEnv E := by rw [hE]; exact qE_ok _
  have rA : RepQ E (qI 0) A := by rw [hE]; exact ⟨rfl, rfl⟩
  have rB : RepQ E (qI 2) B := by rw [hE]; exact ⟨rfl, rfl⟩
  have rC : RepQ E (qI 4) C := by rw [hE]; exact ⟨rfl, rfl⟩
  have rD : RepQ E (qI 6) D := by rw [hE]; exact ⟨rfl, rfl⟩
  have rM : RepQ E (qI 8) M := by rw [hE]; exact ⟨rfl, rfl⟩
  have rN : RepQ E (qI 10) N := by rw [hE]; exact ⟨rfl, rfl⟩
  have e12 : E.i 12 = L1 := by rw [hE]; exact qE_int (i := 6) rfl
  have e14 : E.i 14 = H1 := by rw [hE]; exact qE_int (i := 7) rfl
  have e16 : E.i 16 = L2 := by rw [hE]; exact qE_int (i := 8) rfl
  have e18 : E.i 18 = H2 := by rw [hE]; exact qE_int (i := 9) rfl
  have o1 := e1.trans (oL_map (E := E) (s := s1) e12 e14)
  have o2 := e2.trans (oF_map (E := E) (s := s2) e16 e18)
  have hC : CfgOK Tryz.prog E (cFs s1 s2) := by
    have hT : TabOK Tryz.prog E (tabFs s1 s2) := .cons (kKq_ok (knownq_root rA rB rM hu1.prog o1) (kKq_ok (knownq_root rC rD rM hu2.prog o2) (kNoQ_ok ⟨_, Tryz.func121, by decide +kernel, by kernel_rfl⟩))) (tabFq_ok hQ)
    have h0 : CfgOK Tryz.prog E (cFs0 s1 s2) := cfgN_ok (cfg_ok hT)
    have h1 : CfgOK Tryz.prog E (cFs1 s1 s2) := cfgI_ok mixed h0 h0 (fun _ => trivial) (.cons Tryz.func180 (by decide +kernel) (by kernel_rfl) .nil)
    exact cfgI_ok mixed h1 h1 (fun _ => trivial) (.cons Tryz.func125 (by decide +kernel) (by kernel_rfl) .nil)
  have fin : ∀ (G : Asm) (z : Int) (b : Bool), G.holds E → fsW s1 s2 z b G = true → ∀ (w : World) (v : Value), IsQs w v [A, B, C, D, M, N] → LimQs 40 [A, B, C, D, M, N] → Calls Tryz.prog 64 #[v] w (RetIB z b w) := by
    intro G z b hG hT w v hv hl
    obtain ⟨vs, rfl, hvs⟩ := hv
    unfold fsW isIBo at hT
    split at hT
    · rename_i T hT'
      refine (fun_sound mixed hC hG Tryz.func64 (by decide +kernel) hT' (by decide +kernel) rfl w [.agg vs.toArray] rfl (fun i x hx => ?_)).mono ?_
      · match i, hx with
        | 0, hx => injection hx with hx; subst hx; exact ⟨fun _ => 0, _, rfl, vs, rfl, (qs_chunks [A, B, C, D, M, N] 0 vs (qs6 rA rB rC rD rM rN)).2 ⟨hvs, hl⟩⟩
      · rintro e w' ⟨β, u, rfl, hh, ex⟩
        rw [isIB_pick hT] at hh
        rw [IB_out hh]
        exact ⟨rfl, ex⟩
    · cases hT
  have hno := fs_none
  rw [Bool.and_eq_true, Bool.and_eq_true] at hno
  cases s1 with
  | false =>
    cases s2 with
    | false => exact ⟨0, false, fin _ _ _ no_asm hno.1, (fun h => by cases h), fun _ => rfl⟩
    | true => exact ⟨0, false, fin _ _ _ no_asm hno.2.1, (fun h => by cases h), fun _ => rfl⟩
  | true =>
    cases s2 with
    | false => exact ⟨0, false, fin _ _ _ no_asm hno.2.2, (fun h => by cases h), fun _ => rfl⟩
    | true =>
      obtain ⟨q1, in1⟩ := hu1.holds L1 H1 e1
      obtain ⟨q2, in2⟩ := hu2.holds L2 H2 e2
      have gxy : gLF.holds E := asm_app (gTy_ok e12 e14 q1) (gTy_ok e16 e18 q2)
      rcases first_bad (E := E) tsFs with hall | ⟨i, hi, hbad⟩
      · have dN : fsN.den E = sqLo (flR N) := by
          show isq ((if (qL (qI 10)).den E > 0 then (qL (qI 10)).den E else 0) * 65536) = _
          rw [qL_den rN]; rfl
        have dM : fsM.den E = sqHi (clR N) := by
          show isq ((qH (qI 10)).den E * 65536) + cmpZ ((qH (qI 10)).den E * 65536) (isq ((qH (qI 10)).den E * 65536) * isq ((qH (qI 10)).den E * 65536)) = _
          rw [qH_den rN]; rfl
        have dl : fsSL.den E = L1 + mulLo L2 H2 (sqLo (flR N)) (sqHi (clR N)) := by
          show E.i 12 + fsRL.den E = _
          unfold fsRL
          rw [muLo_den, e12, dN, dM]
          show L1 + mulLo (E.i 16) (E.i 18) _ _ = _
          rw [e16, e18]
        have dh : fsSH.den E = H1 + mulHi L2 H2 (sqLo (flR N)) (sqHi (clR N)) := by
          show E.i 14 + fsRH.den E = _
          unfold fsRH
          rw [muHi_den, e14, dN, dM]
          show H1 + mulHi (E.i 16) (E.i 18) _ _ = _
          rw [e16, e18]
        obtain ⟨n, hn, hg, hk⟩ := sgnG_ok dl dh
        refine ⟨sgnN n, decide (n < 3), fin _ _ _ (asm_app gxy <| asm_app hall hg) (List.all_eq_true.1 fs_all n (List.mem_range.2 hn)), fun h hM hN => ?_, fun h => ?_⟩
        rotate_left
        · have h4 := of_decide_eq_false h
          match n, hn, h4 with
          | 3, _, _ => rfl
          | 0, _, h4 => exact absurd (by omega) h4
          | 1, _, h4 => exact absurd (by omega) h4
          | 2, _, h4 => exact absurd (by omega) h4
        have h3 := of_decide_eq_true h
        obtain ⟨m, hm⟩ := exists_rt hM
        obtain ⟨k, hk2⟩ := exists_rt hN
        have hsq : IvIn (sqLo (flR N)) (sqHi (clR N)) k := by
          obtain ⟨a1, a2⟩ := sqLo_spec (flR N)
          obtain ⟨a3, a4⟩ := sqHi_spec (clR_nonneg hN)
          exact IvIn.sqrt hN hk2 (IvIn.const N) a1 a2 a3 a4
        have hin := (in1 m hM hm).add ((in2 m hM hm).mul hsq)
        exact (ivSg_spec (hk h3) hin).unique (sqv4 hM hN hm hk2)
      · exact ⟨0, false, fin _ _ _ (asm_app gxy hbad) (List.all_eq_true.1 fs_no i (List.mem_range.2 hi)), (fun h => by cases h), fun _ => rfl⟩
def qsg (A B C D M N : Rat) : Int := if M.num < 0 ∨ N.num < 0 then 0 else sg4 A B C D M N
def isQ6 : AV → Bool
  | .val true [x0, x1, x2, x3, x4, x5, x6, x7, x8, x9, x10, x11] => isQw 0 [x0, x1] && (isQw 2 [x2, x3] && (isQw 4 [x4, x5] && (isQw 6 [x6, x7] && (isQw 8 [x8, x9] && isQw 10 [x10, x11]))))
  | _ => false
def chkQ6 : List AV → Bool
  | [x] => isQ6 x
  | _ => false
theorem isQ6_holds {E : Env} {w : World} {β : Nat → Nat} {x : AV} {v : Value} {A B C D M N : Rat} (hr : ∀ j q, [A, B, C, D, M, N][j]? = some q → RepQ E (qI (0 + 2 * j)) q) (h : isQ6 x = true) (hv : x.holds E β w v) : IsQs w v [A, B, C, D, M, N] ∧ LimQs 40 [A, B, C, D, M, N] := by
  unfold isQ6 at h
  split at h
  · simp only [Bool.and_eq_true] at h
    obtain ⟨l0, m0, f0, a0, b0⟩ := isQw_spec h.1
    obtain ⟨l1, m1, f1, a1, b1⟩ := isQw_spec h.2.1
    obtain ⟨l2, m2, f2, a2, b2⟩ := isQw_spec h.2.2.1
    obtain ⟨l3, m3, f3, a3, b3⟩ := isQw_spec h.2.2.2.1
    obtain ⟨l4, m4, f4, a4, b4⟩ := isQw_spec h.2.2.2.2.1
    obtain ⟨l5, m5, f5, a5, b5⟩ := isQw_spec h.2.2.2.2.2
    simp only [List.cons.injEq, and_true] at f0 f1 f2 f3 f4 f5
    obtain ⟨rfl, rfl⟩ := f0
    obtain ⟨rfl, rfl⟩ := f1
    obtain ⟨rfl, rfl⟩ := f2
    obtain ⟨rfl, rfl⟩ := f3
    obtain ⟨rfl, rfl⟩ := f4
    obtain ⟨rfl, rfl⟩ := f5
    obtain ⟨vs, rfl, hc⟩ := hv
    have hc' : chunks E w (intC 40 0 6) vs := by
      obtain ⟨p0, r0, rfl, c0, p1, r1, rfl, c1, p2, r2, rfl, c2, p3, r3, rfl, c3, p4, r4, rfl, c4, p5, r5, rfl, c5, p6, r6, rfl, c6, p7, r7, rfl, c7, p8, r8, rfl, c8, p9, r9, rfl, c9, p10, r10, rfl, c10, p11, r11, rfl, c11, c12⟩ := hc
      exact ⟨p0, _, rfl, int_to c0 rfl a0, p1, _, rfl, int_to c1 rfl b0, p2, _, rfl, int_to c2 rfl a1, p3, _, rfl, int_to c3 rfl b1, p4, _, rfl, int_to c4 rfl a2, p5, _, rfl, int_to c5 rfl b2, p6, _, rfl, int_to c6 rfl a3, p7, _, rfl, int_to c7 rfl b3, p8, _, rfl, int_to c8 rfl a4, p9, _, rfl, int_to c9 rfl b4, p10, _, rfl, int_to c10 rfl a5, p11, _, rfl, int_to c11 rfl b5, c12⟩
    obtain ⟨k1, k2⟩ := (qs_chunks [A, B, C, D, M, N] 0 vs hr).1 hc'
    exact ⟨⟨vs, rfl, k1⟩, k2⟩
  · cases h
def rIB (z : Int) (b : Bool) : AV := .tup [(false, [.n .i64 (.lit z)]), (false, [.b (.lit b)])]
def rNq (z : Int) : AV := .val false [.n .i64 (.lit z)]
noncomputable def tabSn (z : Int) (b : Bool) (y : Int) : List (Nat × Con) := (64, kKq chkQ6 (rIB z b) kNoQ) :: (65, kKq chkQ6 (rNq y) kNoQ) :: (63, kSg) :: []
def isNl (z : Int) : Tree → Bool
  | .leaf [(false, [.n .i64 (.lit x)])] => x == z
  | .leaf _ => false
  | .ite _ t e => isNl z t && isNl z e
def isNlo (z : Int) : Option Tree → Bool
  | some T => isNl z T
  | none => false
theorem isNl_pick {E : Env} {z : Int} : ∀ {T : Tree}, isNl z T = true → T.pick E = [(false, [.n .i64 (.lit z)])] := by
  intro T
  induction T with
  | leaf l =>
    intro h
    unfold isNl at h
    split at h
    · rename_i x e
      cases e
      simp only [beq_iff_eq] at h
      rw [h]
      rfl
    · cases h
    · rename_i e
      cases e
  | ite c t e iht ihe =>
    intro h
    simp only [isNl, Bool.and_eq_true] at h
    simp only [Tree.pick]
    split
    · exact iht h.1
    · exact ihe h.2
noncomputable def snW (z : Int) (b : Bool) (y x : Int) (G : Asm) : Bool := isNlo x (funE (cfgOf (tabSn z b y)) Tryz.f19 G [aQd])
def sgs : List Int := [1, 0, -1]
theorem sn_neg1 : (sgs.all fun z => bools.all fun b => sgs.all fun y => snW z b y 0 [(.lt (sgI 8) (.lit 0), true)]) = true := by kernel_rfl
theorem sn_neg2 : (sgs.all fun z => bools.all fun b => sgs.all fun y => snW z b y 0 [(.lt (sgI 8) (.lit 0), false), (.lt (sgI 10) (.lit 0), true)]) = true := by kernel_rfl
theorem sn_all : (sgs.all fun z => bools.all fun b => sgs.all fun y => snW z b y (if b then z else y) [(.lt (sgI 8) (.lit 0), false), (.lt (sgI 10) (.lit 0), false)]) = true := by kernel_rfl
theorem sgs_mem {z : Int} (h : z = 1 ∨ z = 0 ∨ z = -1) : z ∈ sgs := by rcases h with rfl | rfl | rfl <;> decide
theorem knownq_ib {E : Env} {A B C D M N : Rat} {z : Int} {b : Bool} (hr : ∀ j q, [A, B, C, D, M, N][j]? = some q → RepQ E (qI (0 + 2 * j)) q) (h : FastQ A B C D M N z b) : KnownQ E 64 chkQ6 (rIB z b) := by
  refine ⟨?_, fun x off e => by cases e⟩
  intro args hc' β w vs hv hl
  unfold chkQ6 at hc'
  split at hc'
  · obtain ⟨v, rfl, h1⟩ := args1 hv hl
    obtain ⟨k1, k2⟩ := isQ6_holds hr hc' h1
    refine (h.calls w v k1 k2).mono ?_
    rintro e w' ⟨rfl, ex⟩
    exact ⟨_, rfl, fun β w' => ⟨[_, _], rfl, _, _, rfl, one_num.2 rfl, _, _, rfl, one_bool.2 rfl, rfl⟩, ex⟩
  · cases hc'
theorem knownq_n {E : Env} {f : Nat} {A B C D M N : Rat} {z : Int} (hr : ∀ j q, [A, B, C, D, M, N][j]? = some q → RepQ E (qI (0 + 2 * j)) q) (h : ∀ (w : World) (v : Value), IsQs w v [A, B, C, D, M, N] → LimQs 40 [A, B, C, D, M, N] → Calls Tryz.prog f #[v] w (RetN z w)) : KnownQ E f chkQ6 (rNq z) := by
  refine ⟨?_, fun x off e => by cases e⟩
  intro args hc' β w vs hv hl
  unfold chkQ6 at hc'
  split at hc'
  · obtain ⟨v, rfl, h1⟩ := args1 hv hl
    obtain ⟨k1, k2⟩ := isQ6_holds hr hc' h1
    refine (h w v k1 k2).mono ?_
    rintro e w' ⟨rfl, ex⟩
    exact ⟨_, rfl, fun β w' => one_num.2 rfl, ex⟩
  · cases hc'
theorem sign_neg {G : Asm} {x : Int} (vs : List Value) (w : World) (E : Env) (hv : ∀ (i : Nat) (x : AV), [aQd][i]? = some x → ∃ u, [Value.agg vs.toArray][i]? = some u ∧ ∀ β, x.holds E β w u) (hG : G.holds E) (hT : snW 1 true 1 x G = true) (hN : isNlo x (funE (cfgOf [(63, kSg)]) Tryz.f19 G [aQd]) = true) : Calls Tryz.prog 19 #[.agg vs.toArray] w (RetN x w) := by
  clear hT
  unfold isNlo at hN
  split at hN
  · rename_i T hTe
    refine (fun_sound mixed (cfg_ok (.cons kSg_ok .nil)) hG Tryz.func19 (by decide +kernel) hTe (by decide +kernel) rfl w [.agg vs.toArray] rfl (fun i u hu => ?_)).mono ?_
    · obtain ⟨c, hc1, hc2⟩ := hv i u hu
      exact ⟨fun _ => 0, c, hc1, hc2 _⟩
    · rintro e w' ⟨β, u, rfl, hh, ex⟩
      rw [isNl_pick hN] at hh
      rw [show u = _ from one_num.1 hh]
      exact ⟨rfl, ex⟩
  · cases hN
theorem FastQ.range {A B C D M N : Rat} {z : Int} {b : Bool} (h : FastQ A B C D M N z b) (hb : b = true) (hM : 0 ≤ M) (hN : 0 ≤ N) : z = 1 ∨ z = 0 ∨ z = -1 := by
  rw [h.right hb hM hN]; exact sg4_range _ _ _ _ _ _
theorem radSign_calls (w : World) (v : Value) (A B C D M N : Rat) (h : IsQs w v [A, B, C, D, M, N]) (l : LimQs 40 [A, B, C, D, M, N]) : Calls Tryz.prog 19 #[v] w (RetN (qsg A B C D M N) w) := by
  obtain ⟨E, hE⟩ : ∃ E, E = qE [A, B, C, D, M, N] := ⟨_, rfl⟩
  have rA : RepQ E (qI 0) A := by rw [hE]; exact ⟨rfl, rfl⟩
  have rB : RepQ E (qI 2) B := by rw [hE]; exact ⟨rfl, rfl⟩
  have rC : RepQ E (qI 4) C := by rw [hE]; exact ⟨rfl, rfl⟩
  have rD : RepQ E (qI 6) D := by rw [hE]; exact ⟨rfl, rfl⟩
  have rM : RepQ E (qI 8) M := by rw [hE]; exact ⟨rfl, rfl⟩
  have rN' : RepQ E (qI 10) N := by rw [hE]; exact ⟨rfl, rfl⟩
  have hr := qs6 rA rB rC rD rM rN'
  obtain ⟨vs, rfl, hvs⟩ := h
  have hv : ∀ (i : Nat) (x : AV), [aQd][i]? = some x → ∃ u, [Value.agg vs.toArray][i]? = some u ∧ ∀ β, x.holds E β w u := one_arg rfl rfl fun β => ⟨vs, rfl, (qs_chunks [A, B, C, D, M, N] 0 vs hr).2 ⟨hvs, l⟩⟩
  have d8 : (sgI 8).den E = cmpZ M.num 0 := by show cmpZ (E.i 8) 0 = _; rw [show E.i 8 = M.num from rM.1]
  have d10 : (sgI 10).den E = cmpZ N.num 0 := by show cmpZ (E.i 10) 0 = _; rw [show E.i 10 = N.num from rN'.1]
  have cz : ∀ z : Int, cmpZ z 0 < 0 ↔ z < 0 := fun z => by rcases cmpZ_cases z 0 with ⟨a, e⟩ | ⟨a, e⟩ | ⟨a, e⟩ <;> rw [e] <;> omega
  have fin : ∀ (G : Asm) (z : Int) (b : Bool) (y x : Int), G.holds E → KnownQ E 64 chkQ6 (rIB z b) → KnownQ E 65 chkQ6 (rNq y) → snW z b y x G = true → Calls Tryz.prog 19 #[.agg vs.toArray] w (RetN x w) := by
    intro G z b y x hG k1 k2 hT
    have hT' : TabOK Tryz.prog E (tabSn z b y) := .cons (kKq_ok k1 (kNoQ_ok ⟨_, Tryz.func64, by decide +kernel, by kernel_rfl⟩)) <| .cons (kKq_ok k2 (kNoQ_ok ⟨_, Tryz.func65, by decide +kernel, by kernel_rfl⟩)) <| .cons kSg_ok .nil
    unfold snW isNlo at hT
    split at hT
    · rename_i T hTe
      refine (fun_sound mixed (cfg_ok hT') hG Tryz.func19 (by decide +kernel) hTe (by decide +kernel) rfl w [.agg vs.toArray] rfl (fun i u hu => ?_)).mono ?_
      · obtain ⟨c, hc1, hc2⟩ := hv i u hu
        exact ⟨fun _ => 0, c, hc1, hc2 _⟩
      · rintro e w' ⟨β, u, rfl, hh, ex⟩
        rw [isNl_pick hT] at hh
        rw [show u = _ from one_num.1 hh]
        exact ⟨rfl, ex⟩
    · cases hT
  obtain ⟨z, b, hf⟩ := fast_q A B C D M N
  unfold qsg
  by_cases hM : M.num < 0
  · rw [if_pos (.inl hM)]
    have g : Asm.holds E [(.lt (sgI 8) (.lit 0), true)] := lt_t (by rw [d8]; exact (cz _).2 hM) no_asm
    have hT : snW 1 true 1 0 [(.lt (sgI 8) (.lit 0), true)] = true := List.all_eq_true.1 (List.all_eq_true.1 (List.all_eq_true.1 sn_neg1 1 (by decide)) true (by decide)) 1 (by decide)
    exact sign_neg vs w E hv g hT (by kernel_rfl)
  · by_cases hN : N.num < 0
    · rw [if_pos (.inr hN)]
      have g : Asm.holds E [(.lt (sgI 8) (.lit 0), false), (.lt (sgI 10) (.lit 0), true)] := lt_f (by rw [d8]; exact fun k => hM ((cz _).1 k)) <| lt_t (by rw [d10]; exact (cz _).2 hN) no_asm
      have hT : snW 1 true 1 0 [(.lt (sgI 8) (.lit 0), false), (.lt (sgI 10) (.lit 0), true)] = true := List.all_eq_true.1 (List.all_eq_true.1 (List.all_eq_true.1 sn_neg2 1 (by decide)) true (by decide)) 1 (by decide)
      exact sign_neg vs w E hv g hT (by kernel_rfl)
    · rw [if_neg (by omega)]
      have hM' : 0 ≤ M := Rat.num_nonneg.1 (by omega)
      have hN' : 0 ≤ N := Rat.num_nonneg.1 (by omega)
      have g : Asm.holds E [(.lt (sgI 8) (.lit 0), false), (.lt (sgI 10) (.lit 0), false)] := lt_f (by rw [d8]; exact fun k => hM ((cz _).1 k)) <| lt_f (by rw [d10]; exact fun k => hN ((cz _).1 k)) no_asm
      have kE := knownq_n (E := E) (f := 65) hr (fun w v h1 h2 => exactSign_calls w v A B C D M N h1 h2 hM')
      cases b with
      | true =>
        have hz := hf.right rfl hM' hN'
        rw [hz] at hf
        have hT := List.all_eq_true.1 (List.all_eq_true.1 (List.all_eq_true.1 sn_all (sg4 A B C D M N) (sgs_mem (sg4_range _ _ _ _ _ _))) true (by decide)) (sg4 A B C D M N) (sgs_mem (sg4_range _ _ _ _ _ _))
        exact fin _ _ _ _ _ g (knownq_ib hr hf) kE hT
      | false =>
        have hz0 : z = 0 := hf.zero rfl
        rw [hz0] at hf
        have hT := List.all_eq_true.1 (List.all_eq_true.1 (List.all_eq_true.1 sn_all 0 (by decide)) false (by decide)) (sg4 A B C D M N) (sgs_mem (sg4_range _ _ _ _ _ _))
        exact fin _ _ _ _ _ g (knownq_ib hr hf) kE hT
end Go.Proofs.YtcgkmnjfkljjlaaGreat
end

section
set_option maxRecDepth 100000
namespace Go.Proofs.YtcgkmnjfkljjlaaGreat
open Go.RowKit
noncomputable def cTw : Cfg := cfgOf tabT
def aQv (i l : Nat) : AV := .val true [.int (.var i) l, .int (.var (i + 1)) l]
def twA : IT := .a2 3 (.var 0) (.lit 0)
def twB : IT := .a2 2 (.a2 3 (.var 2) (.lit 0)) (.a2 3 (.var 4) (.lit 0))
def twC : IT := .a2 2 twA (qcmp (qop 2 (qI 0) (qI 0)) (qop 2 (qop 2 (qI 2) (qI 2)) (qI 4)))
def lfTw (t : IT) : Tree := .leaf [(false, [.n .i64 t])]
def twTree : Tree := .ite (.eq twA (.lit 0)) (lfTw twB) (.ite (.eq twB (.lit 0)) (lfTw twA) (.ite (.eq twA twB) (lfTw twA) (lfTw twC)))
theorem tw_walk : funE cTw Tryz.f66 [] [aQv 0 7000, aQv 2 7000, aQv 4 7000] = some twTree := by kernel_rfl
theorem tw_pick {E : Env} {a b m : Rat} (ha : RepQ E (qI 0) a) (hb : RepQ E (qI 2) b) (hm : RepQ E (qI 4) m) : ∃ t, twTree.pick E = [(false, [.n .i64 t])] ∧ t.den E = sg2 a b m := by
  have dA : twA.den E = sgQ' a := by rw [sgQ'_num, ← ha.1]; rfl
  have dB : twB.den E = sgQ' b * sgQ' m := by rw [sgQ'_num, sgQ'_num, ← hb.1, ← hm.1]; rfl
  have dC : twC.den E = sgQ' a * sgQ' (a * a - b * b * m) := by
    show twA.den E * (qcmp (qop 2 (qI 0) (qI 0)) (qop 2 (qop 2 (qI 2) (qI 2)) (qI 4))).den E = _
    rw [dA, rep_cmp (rep_op (f := 2) (by omega) ha ha) (rep_op (f := 2) (by omega) (rep_op (f := 2) (by omega) hb hb) hm), sgQ'_num (a * a - b * b * m)]
    rfl
  have e1 : (BT.eq twA (.lit 0)).den E = decide (sgQ' a = 0) := by
    show (twA.den E == 0) = _
    rw [dA, Bool.eq_iff_iff, beq_iff_eq, decide_eq_true_iff]
  have e2 : (BT.eq twB (.lit 0)).den E = decide (sgQ' b * sgQ' m = 0) := by
    show (twB.den E == 0) = _
    rw [dB, Bool.eq_iff_iff, beq_iff_eq, decide_eq_true_iff]
  have e3 : (BT.eq twA twB).den E = decide (sgQ' a = sgQ' b * sgQ' m) := by
    show (twA.den E == twB.den E) = _
    rw [dA, dB, Bool.eq_iff_iff, beq_iff_eq, decide_eq_true_iff]
  unfold sg2 sumSg
  generalize sgQ' a = s at *
  generalize sgQ' b * sgQ' m = t at *
  simp only [twTree, lfTw, Tree.pick, e1, e2, e3, decide_eq_true_eq]
  by_cases h1 : s = 0
  · rw [if_pos h1, if_pos h1]
    exact ⟨_, rfl, dB⟩
  · rw [if_neg h1, if_neg h1]
    by_cases h2 : t = 0
    · rw [if_pos h2, if_pos h2]
      exact ⟨_, rfl, dA⟩
    · rw [if_neg h2, if_neg h2]
      by_cases h3 : s = t
      · rw [if_pos h3, if_pos h3]
        exact ⟨_, rfl, dA⟩
      · rw [if_neg h3, if_neg h3]
        exact ⟨_, rfl, dC⟩
def psQ (a b m : IT2) : IT := .a2 3 (qop 8 a (qop 7 b m)).1 (.lit 0)
theorem psQ_den {E : Env} {p q r : IT2} {a b m : Rat} (ha : RepQ E p a) (hb : RepQ E q b) (hm : RepQ E r m) (h0 : 0 ≤ m) : (psQ p q r).den E = sg2 a b m := by
  have k : RepQ E (qop 8 p (qop 7 q r)) (ratF 8 a (ratF 7 b m)) := rep_op (f := 8) (by omega) ha (rep_op (f := 7) (by omega) hb hm)
  show cmpZ ((qop 8 p (qop 7 q r)).1.den E) 0 = _
  rw [k.1]
  show cmpZ ((sgS a (ratF 7 b m) : Int) : Rat).num 0 = _
  rw [Rat.num_intCast, sgS_sg2 h0]
  rcases sg2_range a b m with e | e | e <;> rw [e] <;> rfl
def kTw : Con
  | [.val true [.int a l, .int b k], .val true [.int c l', .int d k'], .val true [.int x l2, .int y k2]], G =>
    if canon a b && (canon c d && (canon x y && (decide (l ≤ 7000) && (decide (k ≤ 7000) && (decide (l' ≤ 7000) && (decide (k' ≤ 7000) && (decide (l2 ≤ 7000) && (decide (k2 ≤ 7000) && G.find (.lt (.a2 3 x (.lit 0)) (.lit 0)) == some false))))))))
    then some (.val false [.n .i64 (psQ (a, b) (c, d) (x, y))]) else none
  | _, _ => none
theorem kTw_ok {E : Env} (hE : QEnv E) : ConOK Tryz.prog E 66 kTw := by
  refine ⟨?_, ?_, ⟨_, Tryz.func66, by decide +kernel, by kernel_rfl⟩⟩
  · intro args G r h hG β w vs hv hlen
    unfold kTw at h
    split at h
    · rename_i a l b k c l' d k' x l2 y k2
      split at h
      · rename_i hcd
        simp only [Bool.and_eq_true, decide_eq_true_iff, beq_iff_eq] at hcd
        obtain ⟨c1, c2, c3, b1, b2, b3, b4, b5, b6, hg⟩ := hcd
        injection h with h
        subst h
        obtain ⟨v1, e1, h1⟩ := hv 0 _ rfl
        obtain ⟨v2, e2, h2⟩ := hv 1 _ rfl
        obtain ⟨v3, e3, h3⟩ := hv 2 _ rfl
        obtain rfl : vs = [v1, v2, v3] := by
          match vs, hlen, e1, e2, e3 with
          | [p, q, r], _, e1, e2, e3 =>
            injection e1 with e1; injection e2 with e2; injection e3 with e3
            subst e1 e2 e3; rfl
        obtain ⟨p, _, f1, f2, hp, m1, m2⟩ := one_ratQ hE c1 h1
        obtain ⟨q, _, f3, f4, hq, m3, m4⟩ := one_ratQ hE c2 h2
        obtain ⟨m, _, f5, f6, hm, m5, m6⟩ := one_ratQ hE c3 h3
        have h0 : 0 ≤ m := by
          have := of_decide_eq_false (Asm.find_spec hG hg)
          have e : (IT.a2 3 x (.lit 0)).den E = cmpZ (x.den E) 0 := rfl
          rw [e, f5] at this
          exact Rat.num_nonneg.1 (by
            refine Decidable.byContradiction fun k => this ?_
            rw [cmpZ_lt (by omega)]
            show (-1 : Int) < 0
            omega)
        obtain ⟨t, ht, hd⟩ := tw_pick (E := qE [p, q, m]) (a := p) (b := q) (m := m) ⟨rfl, rfl⟩ ⟨rfl, rfl⟩ ⟨rfl, rfl⟩
        have ar : ∀ {i : Nat} {z : Rat} {v : Value} {s u : Nat}, RepQ (qE [p, q, m]) (qI i) z → IsRat w v z → Lim s z.num → Lim u (z.den : Int) → s ≤ 7000 → u ≤ 7000 → ∀ β, (aQv i 7000).holds (qE [p, q, m]) β w v := fun {i z v s u} hz hi n1 n2 k1 k2 β => (one_q (A := qI i) hz).2 ⟨hi, n1.mono k1, n2.mono k2⟩
        refine (fun_sound mixed (E := qE [p, q, m]) (cfg_ok (tabT_ok (qE_ok _))) no_asm Tryz.func66 (by decide +kernel) tw_walk (by decide +kernel) rfl w [v1, v2, v3] rfl (fun i u hu => ?_)).mono ?_
        · match i, hu with
          | 0, hu => injection hu with hu; subst hu; exact ⟨fun _ => 0, v1, rfl, ar ⟨rfl, rfl⟩ hp m1 m2 b1 b2 _⟩
          | 1, hu => injection hu with hu; subst hu; exact ⟨fun _ => 0, v2, rfl, ar ⟨rfl, rfl⟩ hq m3 m4 b3 b4 _⟩
          | 2, hu => injection hu with hu; subst hu; exact ⟨fun _ => 0, v3, rfl, ar ⟨rfl, rfl⟩ hm m5 m6 b5 b6 _⟩
        · rintro e w' ⟨β', u, rfl, hh, ex⟩
          rw [ht] at hh
          have hu : u = .int .i64 (sg2 p q m) := by rw [← hd]; exact one_num.1 hh
          refine ⟨_, rfl, one_num.2 ?_, ex⟩
          rw [hu, psQ_den ⟨f1, f2⟩ ⟨f3, f4⟩ ⟨f5, f6⟩ h0]
      · cases h
    · cases h
  · intro args G r h x off
    unfold kTw at h
    split at h
    · split at h
      · injection h with h; subst h; intro e; cases e
      · cases h
    · cases h
noncomputable def cRs : Cfg := cfgOf ((66, kTw) :: tabT)
theorem cRs_ok {E : Env} (hE : QEnv E) : CfgOK Tryz.prog E cRs := cfg_ok (.cons (kTw_ok hE) (tabT_ok hE))
end Go.Proofs.YtcgkmnjfkljjlaaGreat
end

section
set_option maxRecDepth 100000
namespace Go.Proofs.YtcgkmnjfkljjlaaGreat
open Go.RowKit
def rsA : IT := psQ (qI 0) (qI 2) (qI 8)
def rsB : IT := .a2 2 (psQ (qI 4) (qI 6) (qI 8)) (sgI 10)
def rsX : IT2 := qop 1 (qop 0 (qop 2 (qI 0) (qI 0)) (qop 2 (qop 2 (qI 2) (qI 2)) (qI 8))) (qop 2 (qI 10) (qop 0 (qop 2 (qI 4) (qI 4)) (qop 2 (qop 2 (qI 6) (qI 6)) (qI 8))))
def rsY : IT2 := qop 1 (qop 2 (qI 0) (qI 2)) (qop 2 (qI 10) (qop 2 (qI 4) (qI 6)))
def rsC : IT := .a2 2 rsA (psQ rsX (qop 0 rsY rsY) (qI 8))
def rsTree : Tree := .ite (.eq rsA (.lit 0)) (lfTw rsB) (.ite (.eq rsB (.lit 0)) (lfTw rsA) (.ite (.eq rsA rsB) (lfTw rsA) (lfTw rsC)))
def rsG : Asm := [(.lt (sgI 8) (.lit 0), false), (.lt (sgI 10) (.lit 0), false)]
theorem rs_walk : funE cRs Tryz.f20 rsG [aQd] = some rsTree := by kernel_rfl
theorem rs_neg1 : isNlo 0 (funE cRs Tryz.f20 [(.lt (sgI 8) (.lit 0), true)] [aQd]) = true := by kernel_rfl
theorem rs_neg2 : isNlo 0 (funE cRs Tryz.f20 [(.lt (sgI 8) (.lit 0), false), (.lt (sgI 10) (.lit 0), true)] [aQd]) = true := by kernel_rfl
theorem rs_pick {E : Env} {A B C D M N : Rat} (rA : RepQ E (qI 0) A) (rB : RepQ E (qI 2) B) (rC : RepQ E (qI 4) C) (rD : RepQ E (qI 6) D) (rM : RepQ E (qI 8) M) (rN : RepQ E (qI 10) N) (hM : 0 ≤ M) : ∃ t, rsTree.pick E = [(false, [.n .i64 t])] ∧ t.den E = sg4 A B C D M N := by
  have dA : rsA.den E = sg2 A B M := psQ_den rA rB rM hM
  have dB : rsB.den E = sg2 C D M * sgQ' N := by
    show (psQ (qI 4) (qI 6) (qI 8)).den E * (sgI 10).den E = _
    rw [psQ_den rC rD rM hM, sgQ'_num, ← rN.1]
    rfl
  have m : ∀ {p q : IT2} {a b : Rat}, RepQ E p a → RepQ E q b → RepQ E (qop 2 p q) (a * b) := fun h1 h2 => rep_op (f := 2) (by omega) h1 h2
  have s : ∀ {p q : IT2} {a b : Rat}, RepQ E p a → RepQ E q b → RepQ E (qop 0 p q) (a + b) := fun h1 h2 => rep_op (f := 0) (by omega) h1 h2
  have d : ∀ {p q : IT2} {a b : Rat}, RepQ E p a → RepQ E q b → RepQ E (qop 1 p q) (a - b) := fun h1 h2 => rep_op (f := 1) (by omega) h1 h2
  have rX : RepQ E rsX (A * A + B * B * M - N * (C * C + D * D * M)) := d (s (m rA rA) (m (m rB rB) rM)) (m rN (s (m rC rC) (m (m rD rD) rM)))
  have rY : RepQ E rsY (A * B - N * (C * D)) := d (m rA rB) (m rN (m rC rD))
  have dC : rsC.den E = sg2 A B M * sg2 (A * A + B * B * M - N * (C * C + D * D * M)) ((A * B - N * (C * D)) + (A * B - N * (C * D))) M := by
    show rsA.den E * (psQ rsX (qop 0 rsY rsY) (qI 8)).den E = _
    rw [dA, psQ_den rX (s rY rY) rM hM]
  have e1 : (BT.eq rsA (.lit 0)).den E = decide (sg2 A B M = 0) := by
    show (rsA.den E == 0) = _
    rw [dA, Bool.eq_iff_iff, beq_iff_eq, decide_eq_true_iff]
  have e2 : (BT.eq rsB (.lit 0)).den E = decide (sg2 C D M * sgQ' N = 0) := by
    show (rsB.den E == 0) = _
    rw [dB, Bool.eq_iff_iff, beq_iff_eq, decide_eq_true_iff]
  have e3 : (BT.eq rsA rsB).den E = decide (sg2 A B M = sg2 C D M * sgQ' N) := by
    show (rsA.den E == rsB.den E) = _
    rw [dA, dB, Bool.eq_iff_iff, beq_iff_eq, decide_eq_true_iff]
  unfold sg4 sumSg
  generalize sg2 A B M = x at *
  generalize sg2 C D M * sgQ' N = y at *
  simp only [rsTree, lfTw, Tree.pick, e1, e2, e3, decide_eq_true_eq]
  by_cases h1 : x = 0
  · rw [if_pos h1, if_pos h1]
    exact ⟨_, rfl, dB⟩
  · rw [if_neg h1, if_neg h1]
    by_cases h2 : y = 0
    · rw [if_pos h2, if_pos h2]
      exact ⟨_, rfl, dA⟩
    · rw [if_neg h2, if_neg h2]
      by_cases h3 : x = y
      · rw [if_pos h3, if_pos h3]
        exact ⟨_, rfl, dA⟩
      · rw [if_neg h3, if_neg h3]
        exact ⟨_, rfl, dC⟩
theorem refSign_calls (w : World) (v : Value) (A B C D M N : Rat) (h : IsQs w v [A, B, C, D, M, N]) (l : LimQs 40 [A, B, C, D, M, N]) : Calls Tryz.prog 20 #[v] w (RetN (qsg A B C D M N) w) := by
  obtain ⟨E, hE⟩ : ∃ E, E = qE [A, B, C, D, M, N] := ⟨_, rfl⟩
  have hQ : QEnv E := by rw [hE]; exact qE_ok _
  have rA : RepQ E (qI 0) A := by rw [hE]; exact ⟨rfl, rfl⟩
  have rB : RepQ E (qI 2) B := by rw [hE]; exact ⟨rfl, rfl⟩
  have rC : RepQ E (qI 4) C := by rw [hE]; exact ⟨rfl, rfl⟩
  have rD : RepQ E (qI 6) D := by rw [hE]; exact ⟨rfl, rfl⟩
  have rM : RepQ E (qI 8) M := by rw [hE]; exact ⟨rfl, rfl⟩
  have rN' : RepQ E (qI 10) N := by rw [hE]; exact ⟨rfl, rfl⟩
  have hr := qs6 rA rB rC rD rM rN'
  obtain ⟨vs, rfl, hvs⟩ := h
  have hv : ∀ (i : Nat) (x : AV), [aQd][i]? = some x → ∃ u, [Value.agg vs.toArray][i]? = some u ∧ ∀ β, x.holds E β w u := one_arg rfl rfl fun β => ⟨vs, rfl, (qs_chunks [A, B, C, D, M, N] 0 vs hr).2 ⟨hvs, l⟩⟩
  have d8 : (sgI 8).den E = cmpZ M.num 0 := by show cmpZ (E.i 8) 0 = _; rw [show E.i 8 = M.num from rM.1]
  have d10 : (sgI 10).den E = cmpZ N.num 0 := by show cmpZ (E.i 10) 0 = _; rw [show E.i 10 = N.num from rN'.1]
  have cz : ∀ z : Int, cmpZ z 0 < 0 ↔ z < 0 := fun z => by rcases cmpZ_cases z 0 with ⟨a, e⟩ | ⟨a, e⟩ | ⟨a, e⟩ <;> rw [e] <;> omega
  have fin : ∀ (G : Asm) (x : Int) (T : Tree), G.holds E → funE cRs Tryz.f20 G [aQd] = some T → (∃ t, T.pick E = [(false, [.n .i64 t])] ∧ t.den E = x) → Calls Tryz.prog 20 #[.agg vs.toArray] w (RetN x w) := by
    rintro G x T hG hT ⟨t, ht, hd⟩
    refine (fun_sound mixed (cRs_ok hQ) hG Tryz.func20 (by decide +kernel) hT (by decide +kernel) rfl w [.agg vs.toArray] rfl (fun i u hu => ?_)).mono ?_
    · obtain ⟨c, hc1, hc2⟩ := hv i u hu
      exact ⟨fun _ => 0, c, hc1, hc2 _⟩
    · rintro e w' ⟨β, u, rfl, hh, ex⟩
      rw [ht] at hh
      have hu : u = .int .i64 x := by rw [← hd]; exact one_num.1 hh
      rw [hu]
      exact ⟨rfl, ex⟩
  have fin0 : ∀ (G : Asm), G.holds E → isNlo 0 (funE cRs Tryz.f20 G [aQd]) = true → Calls Tryz.prog 20 #[.agg vs.toArray] w (RetN 0 w) := by
    intro G hG hT
    unfold isNlo at hT
    split at hT
    · rename_i T hTe
      exact fin G 0 T hG hTe ⟨_, isNl_pick hT, rfl⟩
    · cases hT
  unfold qsg
  by_cases hM : M.num < 0
  · rw [if_pos (.inl hM)]
    have g : Asm.holds E [(.lt (sgI 8) (.lit 0), true)] := lt_t (by rw [d8]; exact (cz _).2 hM) no_asm
    exact fin0 _ g rs_neg1
  · by_cases hN : N.num < 0
    · rw [if_pos (.inr hN)]
      have g : Asm.holds E [(.lt (sgI 8) (.lit 0), false), (.lt (sgI 10) (.lit 0), true)] := lt_f (by rw [d8]; exact fun k => hM ((cz _).1 k)) <| lt_t (by rw [d10]; exact (cz _).2 hN) no_asm
      exact fin0 _ g rs_neg2
    · rw [if_neg (by omega)]
      have g : Asm.holds E rsG := lt_f (by rw [d8]; exact fun k => hM ((cz _).1 k)) <| lt_f (by rw [d10]; exact fun k => hN ((cz _).1 k)) no_asm
      exact fin _ _ _ g rs_walk (rs_pick rA rB rC rD rM rN' (Rat.num_nonneg.1 (by omega)))
end Go.Proofs.YtcgkmnjfkljjlaaGreat
end

section
set_option maxRecDepth 100000
namespace Go.Proofs.YtcgkmnjfkljjlaaGreat
open Go.RowKit
def t6 : List IT2 → List Chunk → Bool
  | [], [] => true
  | t :: ts, .int x _ :: .int y _ :: cs => x.beq t.1 && (y.beq t.2 && t6 ts cs)
  | _, _ => false
def c6 (ts : List IT2) : List AV → Bool
  | [.val true cs] => t6 ts cs
  | _ => false
def Reps (E : Env) : List IT2 → List Rat → Prop
  | [], [] => True
  | t :: ts, q :: qs => RepQ E t q ∧ Reps E ts qs
  | _, _ => False
theorem t6_holds {E : Env} {w : World} : ∀ {ts : List IT2} {cs : List Chunk} {qs : List Rat} {vs : List Value}, Reps E ts qs → t6 ts cs = true → chunks E w cs vs → RatsQ w vs qs
  | [], cs, [], vs, _, h, hc => by
    unfold t6 at h
    split at h
    · exact hc
    · contradiction
    · cases h
  | [], _, _ :: _, _, hr, _, _ => hr.elim
  | _ :: _, _, [], _, hr, _, _ => hr.elim
  | t :: ts, cs, q :: qs, vs, hr, h, hc => by
    unfold t6 at h
    split at h
    · contradiction
    · rename_i t' ts' x l y m cs' e
      cases e
      simp only [Bool.and_eq_true] at h
      obtain ⟨h1, h2, h3⟩ := h
      have e1 := IT.eq_of_beq h1
      have e2 := IT.eq_of_beq h2
      subst e1 e2
      obtain ⟨x, r, rfl, k1, k2⟩ := (two_chunks hr.1).1 hc
      exact ⟨x, r, rfl, k1.1, t6_holds hr.2 h3 k2⟩
    · cases h
theorem known6 {E : Env} {f : Nat} {ts : List IT2} {qs : List Rat} {z : Int} (hr : Reps E ts qs) (h : ∀ (w : World) (v : Value), IsQs w v qs → Calls Tryz.prog f #[v] w (RetN z w)) : KnownQ E f (c6 ts) (rNq z) := by
  refine ⟨?_, fun x off e => by cases e⟩
  intro args hc' β w vs hv hl
  unfold c6 at hc'
  split at hc'
  · obtain ⟨v, rfl, us, rfl, h1⟩ := args1 hv hl
    refine (h w _ ⟨us, rfl, t6_holds hr hc' h1⟩).mono ?_
    rintro e w' ⟨rfl, ex⟩
    exact ⟨_, rfl, fun β w' => one_num.2 rfl, ex⟩
  · cases hc'
def cfgZr (C : Cfg) (l : List (TypeId × List Chunk)) : Cfg := { C with zero := fun t => match findR l t with | some e => some e | none => C.zero t }
theorem cfgZr_ok {E : Env} {C : Cfg} {l : List (TypeId × List Chunk)} (h : CfgOK Tryz.prog E C) (hl : ZeroOK Tryz.prog l) : CfgOK Tryz.prog E (cfgZr C l) := by
  refine ⟨?_, h.ag, h.fld, h.flds, h.bool, h.row, h.arr, h.calls, h.nptr, h.body, h.slc, h.strT, h.cnv, h.apd, h.eq2⟩
  intro t cs ht w
  simp only [cfgZr] at ht
  split at ht
  · rename_i e' he
    injection ht with ht
    subst ht
    exact hl.all _ (findR_spec he) E w
  · exact h.zero t cs ht w
def zInt2 : List Chunk := [.int (.lit 0) 0, .int (.lit 0) 0]
def zArr : List (TypeId × List Chunk) := [(59, zInt2 ++ (zInt2 ++ (zInt2 ++ zInt2)))]
theorem zArr_ok : ZeroOK Tryz.prog zArr := .cons (fun _ w => ⟨_, Tryz.zeroValue59 w, [_, _], _, rfl, int_zero, [_, _], _, rfl, int_zero, [_, _], _, rfl, int_zero, [_, _], _, rfl, int_zero, [_, _], _, rfl, int_zero, [_, _], _, rfl, int_zero, [_, _], _, rfl, int_zero, [_, _], _, rfl, int_zero, rfl⟩) .nil
def arrQ4 : List (TypeId × Nat × TypeId) := [(59, 4, 33)]
theorem arrQ4_ok : ArrOK Tryz.prog arrQ4 := .cons Tryz.underlying59 .nil
theorem LimQ.mul' {l m k j : Nat} {a b : Rat} (h1 : Lim l a.num) (h2 : Lim m (a.den : Int)) (h3 : Lim k b.num) (h4 : Lim j (b.den : Int)) : Lim (l + k) (a * b).num ∧ Lim (m + j) ((a * b).den : Int) := by
  obtain ⟨m1, m2⟩ := mul_dq a b
  rw [← m1, ← m2]
  exact ⟨(h1.natAbs_le (dq_abs _ _)).mul (h3.natAbs_le (dq_abs _ _)), (h2.natAbs_le (dq_abs _ _)).mul (h4.natAbs_le (dq_abs _ _))⟩
theorem LimQ.sub' {l m k j n : Nat} {a b : Rat} (h1 : Lim l a.num) (h2 : Lim m (a.den : Int)) (h3 : Lim k b.num) (h4 : Lim j (b.den : Int)) (e1 : l + j < n) (e2 : k + m < n) : Lim n (a - b).num ∧ Lim (m + j) ((a - b).den : Int) := by
  rw [Rat.sub_eq_add_neg]
  have h3' : Lim k (-b).num := by rw [Rat.neg_num]; exact h3.neg
  have h4' : Lim j ((-b).den : Int) := h4
  obtain ⟨m1, m2⟩ := sum_dq a (-b) _ rfl
  rw [← m1, ← m2]
  refine ⟨Lim.natAbs_le ?_ (dq_abs _ _), (h2.natAbs_le (dq_abs _ _)).mul (h4'.natAbs_le (dq_abs _ _))⟩
  exact ((h1.mul (h4'.natAbs_le (dq_abs _ _))).add2 (h3'.mul (h2.natAbs_le (dq_abs _ _)))).mono (by omega)
def suZ (d p q r : Rat) : Int := qsg (d - p - q - r * r) (-2 * r) (-2 * r) (-2) p q
def suR (d p q r : Rat) : Int × Int := if d.num < 0 ∨ p.num < 0 ∨ q.num < 0 ∨ r.num < 0 then (0, 7) else (suZ d p q r, 0)
def sumTs (f : Bool) : List IT2 := [qop 1 (qop 1 (qop 1 (qI 0) (qI 2)) (qI 4)) (qop 2 (qI 6) (qI 6)), if f then qop 2 (qI 6) (.lit (-2), .lit 1) else qop 2 (.lit (-2), .lit 1) (qI 6), if f then qop 2 (qI 6) (.lit (-2), .lit 1) else qop 2 (.lit (-2), .lit 1) (qI 6), (.lit (-2), .lit 1), qI 2, qI 4]
noncomputable def tabSu (f : Bool) (z : Int) : List (Nat × Con) := (if f then (19, kKq (c6 (sumTs true)) (rNq z) kNoQ) else (20, kKq (c6 (sumTs false)) (rNq z) kNoQ)) :: (tabR2 ++ (tabInt ++ tabT))
noncomputable def cSu (f : Bool) (z : Int) : Cfg := cfgZr (cfgAr (cfgOf (tabSu f z)) arrQ4) zArr
def aS (i : Nat) : AV := .val true [.int (.var i) 2, .int (.var (i + 1)) 2]
def isII (z e : Int) : Tree → Bool
  | .leaf [(false, [.n .i64 (.lit x)]), (false, [.n .i64 (.lit c)])] => x == z && c == e
  | .leaf _ => false
  | .ite _ t s => isII z e t && isII z e s
def isIIo (z e : Int) : Option Tree → Bool
  | some T => isII z e T
  | none => false
theorem isII_pick {E : Env} {z e : Int} : ∀ {T : Tree}, isII z e T = true → T.pick E = [(false, [.n .i64 (.lit z)]), (false, [.n .i64 (.lit e)])] := by
  intro T
  induction T with
  | leaf l =>
    intro h
    unfold isII at h
    split at h
    · rename_i x c e
      cases e
      simp only [Bool.and_eq_true, beq_iff_eq] at h
      rw [h.1, h.2]
      rfl
    · cases h
    · rename_i e
      cases e
  | ite c t e iht ihe =>
    intro h
    simp only [isII, Bool.and_eq_true] at h
    simp only [Tree.pick]
    split
    · exact iht h.1
    · exact ihe h.2
def RetII (z e : Int) (w : World) (x : Ending) (w' : World) : Prop := x = .returned (.tuple #[.int .i64 z, .int .i64 e]) ∧ Ext w w'
theorem II_out {E : Env} {β : Nat → Nat} {w : World} {z e : Int} {v : Value} (h : (toAV [(false, [.n .i64 (.lit z)]), (false, [.n .i64 (.lit e)])]).holds E β w v) : v = .tuple #[.int .i64 z, .int .i64 e] := by
  obtain ⟨vs, rfl, v1, r, rfl, h1, v2, r', rfl, h2, h3⟩ := h
  simp only [tupAll] at h3
  subst h3
  rw [one_num.1 h1, one_num.1 h2]
  rfl
def guS (i : Nat) (b : Bool) : BT × Bool := (.lt (sgI i) (.lit 0), b)
def guSs : List Asm := [[guS 0 true], [guS 0 false, guS 2 true], [guS 0 false, guS 2 false, guS 4 true], [guS 0 false, guS 2 false, guS 4 false, guS 6 true]]
def guS4 : Asm := [guS 0 false, guS 2 false, guS 4 false, guS 6 false]
noncomputable def suW (f : Bool) (z x e : Int) (G : Asm) : Bool := isIIo x e (funE (cSu f z) (if f then Tryz.f35 else Tryz.f36) G [aS 0, aS 2, aS 4, aS 6])
theorem su_neg : (bools.all fun f => sgs.all fun z => guSs.all fun G => suW f z 0 7 G) = true := by kernel_rfl
theorem su_all : (bools.all fun f => sgs.all fun z => suW f z z 0 guS4) = true := by kernel_rfl
end Go.Proofs.YtcgkmnjfkljjlaaGreat
end

section
set_option maxRecDepth 100000
namespace Go.Proofs.YtcgkmnjfkljjlaaGreat
open Go.RowKit
theorem sum_lims {d p q r : Rat} (ld : LimQ 2 d) (lp : LimQ 2 p) (lq : LimQ 2 q) (lr : LimQ 2 r) : LimQs 40 [d - p - q - r * r, -2 * r, -2 * r, -2, p, q] := by
  have a1 := LimQ.sub' (n := 6) ld.1 ld.2 lp.1 lp.2 (by omega) (by omega)
  have a2 := LimQ.sub' (n := 12) a1.1 a1.2 lq.1 lq.2 (by omega) (by omega)
  have a3 := LimQ.mul' lr.1 lr.2 lr.1 lr.2
  have a4 := LimQ.sub' (n := 24) a2.1 a2.2 a3.1 a3.2 (by omega) (by omega)
  have t : LimQ 1 (-2 : Rat) := by refine ⟨?_, ?_⟩ <;> unfold Lim <;> decide +kernel
  have a5 := LimQ.mul' t.1 t.2 lr.1 lr.2
  intro x hx
  simp only [List.mem_cons, List.not_mem_nil, or_false] at hx
  rcases hx with rfl | rfl | rfl | rfl | rfl | rfl
  · exact ⟨a4.1.mono (by omega), a4.2.mono (by omega)⟩
  · exact ⟨a5.1.mono (by omega), a5.2.mono (by omega)⟩
  · exact ⟨a5.1.mono (by omega), a5.2.mono (by omega)⟩
  · exact ⟨t.1.mono (by omega), t.2.mono (by omega)⟩
  · exact ⟨lp.1.mono (by omega), lp.2.mono (by omega)⟩
  · exact ⟨lq.1.mono (by omega), lq.2.mono (by omega)⟩
theorem qsg_range (A B C D M N : Rat) : qsg A B C D M N = 1 ∨ qsg A B C D M N = 0 ∨ qsg A B C D M N = -1 := by
  unfold qsg
  split
  · exact .inr (.inl rfl)
  · exact sg4_range _ _ _ _ _ _
theorem sum_reps {E : Env} {d p q r : Rat} (rd : RepQ E (qI 0) d) (rp : RepQ E (qI 2) p) (rq : RepQ E (qI 4) q) (rr : RepQ E (qI 6) r) (f : Bool) : Reps E (sumTs f) [d - p - q - r * r, -2 * r, -2 * r, -2, p, q] := by
  have m : ∀ {p q : IT2} {a b : Rat}, RepQ E p a → RepQ E q b → RepQ E (qop 2 p q) (a * b) := fun h1 h2 => rep_op (f := 2) (by omega) h1 h2
  have s : ∀ {p q : IT2} {a b : Rat}, RepQ E p a → RepQ E q b → RepQ E (qop 1 p q) (a - b) := fun h1 h2 => rep_op (f := 1) (by omega) h1 h2
  have t : RepQ E (.lit (-2), .lit 1) (-2 : Rat) := ⟨rfl, rfl⟩
  have k : RepQ E (if f then qop 2 (qI 6) (.lit (-2), .lit 1) else qop 2 (.lit (-2), .lit 1) (qI 6)) (-2 * r) := by
    cases f
    · exact m t rr
    · rw [Rat.mul_comm]
      exact m rr t
  exact ⟨s (s (s rd rp) rq) (m rr rr), k, k, t, rp, rq, trivial⟩
theorem qsum_calls (f : Bool) (w : World) (v1 v2 v3 v4 : Value) (d p q r : Rat) (h1 : IsRat w v1 d) (h2 : IsRat w v2 p) (h3 : IsRat w v3 q) (h4 : IsRat w v4 r) (ld : LimQ 2 d) (lp : LimQ 2 p) (lq : LimQ 2 q) (lr : LimQ 2 r) :
    Calls Tryz.prog (if f then 35 else 36) #[v1, v2, v3, v4] w (RetII (suR d p q r).1 (suR d p q r).2 w) := by
  obtain ⟨E, hE⟩ : ∃ E, E = qE [d, p, q, r] := ⟨_, rfl⟩
  have hQ : QEnv E := by rw [hE]; exact qE_ok _
  have rd : RepQ E (qI 0) d := by rw [hE]; exact ⟨rfl, rfl⟩
  have rp : RepQ E (qI 2) p := by rw [hE]; exact ⟨rfl, rfl⟩
  have rq : RepQ E (qI 4) q := by rw [hE]; exact ⟨rfl, rfl⟩
  have rr : RepQ E (qI 6) r := by rw [hE]; exact ⟨rfl, rfl⟩
  have hl := sum_lims ld lp lq lr
  have hz : suZ d p q r ∈ sgs := sgs_mem (qsg_range _ _ _ _ _ _)
  have base : TabOK Tryz.prog E (tabR2 ++ (tabInt ++ tabT)) := TabOK.app tabR2_ok (TabOK.app tabInt_ok (tabT_ok hQ))
  have hT : TabOK Tryz.prog E (tabSu f (suZ d p q r)) := by
    cases f
    · exact .cons (kKq_ok (known6 (sum_reps rd rp rq rr false) fun w v h => refSign_calls w v _ _ _ _ _ _ h hl) (kNoQ_ok ⟨_, Tryz.func20, by decide +kernel, by kernel_rfl⟩)) base
    · exact .cons (kKq_ok (known6 (sum_reps rd rp rq rr true) fun w v h => radSign_calls w v _ _ _ _ _ _ h hl) (kNoQ_ok ⟨_, Tryz.func19, by decide +kernel, by kernel_rfl⟩)) base
  have hC : CfgOK Tryz.prog E (cSu f (suZ d p q r)) := cfgZr_ok (cfgAr_ok (cfg_ok hT) arrQ4_ok) zArr_ok
  have ar : ∀ {i : Nat} {z : Rat} {v : Value}, RepQ E (qI i) z → IsRat w v z → LimQ 2 z → ∃ β, (aS i).holds E β w v := fun {i z v} hz hi hl => ⟨fun _ => 0, (one_q (A := qI i) hz).2 ⟨hi, hl.1, hl.2⟩⟩
  have hv : ∀ (i : Nat) (x : AV), [aS 0, aS 2, aS 4, aS 6][i]? = some x → ∃ β u, [v1, v2, v3, v4][i]? = some u ∧ x.holds E β w u := by
    intro i u hu
    match i, hu with
    | 0, hu => injection hu with hu; subst hu; obtain ⟨β, k⟩ := ar rd h1 ld; exact ⟨β, v1, rfl, k⟩
    | 1, hu => injection hu with hu; subst hu; obtain ⟨β, k⟩ := ar rp h2 lp; exact ⟨β, v2, rfl, k⟩
    | 2, hu => injection hu with hu; subst hu; obtain ⟨β, k⟩ := ar rq h3 lq; exact ⟨β, v3, rfl, k⟩
    | 3, hu => injection hu with hu; subst hu; obtain ⟨β, k⟩ := ar rr h4 lr; exact ⟨β, v4, rfl, k⟩
  have fin : ∀ (G : Asm) (x e : Int), G.holds E → suW f (suZ d p q r) x e G = true → Calls Tryz.prog (if f then 35 else 36) #[v1, v2, v3, v4] w (RetII x e w) := by
    intro G x e hG hW
    unfold suW isIIo at hW
    split at hW
    · rename_i T hTe
      have go : ∀ (g : Nat) (fn : Func), Tryz.prog.funcs[g]? = some fn → fn.results.toList.length ≤ 4 → 4 ≤ fn.ntmps → funE (cSu f (suZ d p q r)) fn G [aS 0, aS 2, aS 4, aS 6] = some T → Calls Tryz.prog g #[v1, v2, v3, v4] w (RetII x e w) := by
        intro g fn hf k4 hn hT
        refine (fun_sound mixed hC hG hf k4 hT hn rfl w [v1, v2, v3, v4] rfl hv).mono ?_
        rintro e w' ⟨β, u, rfl, hh, ex⟩
        rw [isII_pick hW] at hh
        rw [II_out hh]
        exact ⟨rfl, ex⟩
      cases f
      · exact go _ _ Tryz.func36 (by decide +kernel) (by decide +kernel) hTe
      · exact go _ _ Tryz.func35 (by decide +kernel) (by decide +kernel) hTe
    · cases hW
  have neg : ∀ G ∈ guSs, suW f (suZ d p q r) 0 7 G = true := fun G hG => List.all_eq_true.1 (List.all_eq_true.1 (List.all_eq_true.1 su_neg f (by cases f <;> decide)) _ hz) G hG
  have cz : ∀ z : Int, cmpZ z 0 < 0 ↔ z < 0 := fun z => by rcases cmpZ_cases z 0 with ⟨a, e⟩ | ⟨a, e⟩ | ⟨a, e⟩ <;> rw [e] <;> omega
  have den : ∀ {i : Nat} {z : Rat}, RepQ E (qI i) z → (sgI i).den E = cmpZ z.num 0 := fun {i z} h => by show cmpZ (E.i i) 0 = _; rw [show E.i i = z.num from h.1]
  have yes : ∀ {i : Nat} {z : Rat} {G : Asm}, RepQ E (qI i) z → z.num < 0 → G.holds E → Asm.holds E (guS i true :: G) := fun {i z G} h k hG => lt_t (by rw [den h]; exact (cz _).2 k) hG
  have no : ∀ {i : Nat} {z : Rat} {G : Asm}, RepQ E (qI i) z → ¬ z.num < 0 → G.holds E → Asm.holds E (guS i false :: G) := fun {i z G} h k hG => lt_f (by rw [den h]; exact fun j => k ((cz _).1 j)) hG
  by_cases n1 : d.num < 0
  · rw [show suR d p q r = (0, 7) from if_pos (.inl n1)]
    exact fin _ _ _ (yes rd n1 no_asm) (neg _ (by simp [guSs]))
  by_cases n2 : p.num < 0
  · rw [show suR d p q r = (0, 7) from if_pos (.inr (.inl n2))]
    exact fin _ _ _ (no rd n1 <| yes rp n2 no_asm) (neg _ (by simp [guSs]))
  by_cases n3 : q.num < 0
  · rw [show suR d p q r = (0, 7) from if_pos (.inr (.inr (.inl n3)))]
    exact fin _ _ _ (no rd n1 <| no rp n2 <| yes rq n3 no_asm) (neg _ (by simp [guSs]))
  by_cases n4 : r.num < 0
  · rw [show suR d p q r = (0, 7) from if_pos (.inr (.inr (.inr n4)))]
    exact fin _ _ _ (no rd n1 <| no rp n2 <| no rq n3 <| yes rr n4 no_asm) (neg _ (by simp [guSs]))
  rw [show suR d p q r = (suZ d p q r, 0) from if_neg (by omega)]
  exact fin _ _ _ (no rd n1 <| no rp n2 <| no rq n3 <| no rr n4 no_asm) (List.all_eq_true.1 (List.all_eq_true.1 su_all f (by cases f <;> decide)) _ hz)
end Go.Proofs.YtcgkmnjfkljjlaaGreat
end

section
set_option maxRecDepth 100000
namespace Go.Proofs.YtcgkmnjfkljjlaaGreat
open Go.RowKit
noncomputable def iC1 : List (Nat × Func) := [(137, Tryz.f137)]
noncomputable def iC2 : List (Nat × Func) := [(72, Tryz.f72)]
noncomputable def tabSb : List (Nat × Con) := tabR2 ++ (tabInt ++ tabT)
noncomputable def cSb1 : Cfg := cfgI (cfgOf tabSb) (cfgOf tabSb) iC1
noncomputable def cSb : Cfg := cfgI cSb1 cSb1 iC2
theorem tabSb_ok {E : Env} (hE : QEnv E) : TabOK Tryz.prog E tabSb := TabOK.app tabR2_ok (TabOK.app tabInt_ok (tabT_ok hE))
theorem cSb_ok {E : Env} (hE : QEnv E) : CfgOK Tryz.prog E cSb := by
  have h0 := cfg_ok (tabSb_ok hE)
  have h1 : CfgOK Tryz.prog E cSb1 := cfgI_ok mixed h0 h0 (fun _ => trivial) (.cons Tryz.func137 (by decide +kernel) (by kernel_rfl) .nil)
  exact cfgI_ok mixed h1 h1 (fun _ => trivial) (.cons Tryz.func72 (by decide +kernel) (by kernel_rfl) .nil)
def aRo (i : Nat) : AV := .val true (rt (qI i) (qI (i + 2)) (qI (i + 4)) 9)
def cmTs : List IT2 := [qop 1 (qI 0) (qI 6), qI 2, (.a1 0 (.var 8), .var 9), (.lit 0, .lit 1), qI 4, qI 10]
def isLf6 : Option Tree → Bool
  | some (.leaf [(true, cs)]) => t6 cmTs cs
  | _ => false
theorem sb_walk1 : isLf6 (funE cSb Tryz.f25 [] [aRo 0, aRo 6]) = true := by kernel_rfl
theorem sb_walk2 : isLf6 (funE cSb Tryz.f26 [] [aRo 0, aRo 6]) = true := by kernel_rfl
theorem cm_reps {E : Env} {a b c a' b' c' : Rat} (h1 : RepQ E (qI 0) a) (h2 : RepQ E (qI 2) b) (h3 : RepQ E (qI 4) c) (h4 : RepQ E (qI 6) a') (h5 : RepQ E (qI 8) b') (h6 : RepQ E (qI 10) c') : Reps E cmTs [a - a', b, -b', 0, c, c'] := by
  refine ⟨rep_op (f := 1) (by omega) h1 h4, h2, ⟨?_, ?_⟩, ⟨rfl, rfl⟩, h3, h6, trivial⟩
  · show -(E.i 8) = _
    rw [Rat.neg_num, show E.i 8 = b'.num from h5.1]
  · exact h5.2
theorem sub_lims {a b c a' b' c' : Rat} (l : LimR 9 a b c) (l' : LimR 9 a' b' c') : LimQs 40 [a - a', b, -b', 0, c, c'] := by
  have a1 := LimQ.sub' (n := 20) l.1.1 l.1.2 l'.1.1 l'.1.2 (by omega) (by omega)
  have a2 : Lim 9 (-b').num := by rw [Rat.neg_num]; exact l'.2.1.1.neg
  have a3 : Lim 9 ((-b').den : Int) := l'.2.1.2
  intro x hx
  simp only [List.mem_cons, List.not_mem_nil, or_false] at hx
  rcases hx with rfl | rfl | rfl | rfl | rfl | rfl
  · exact ⟨a1.1.mono (by omega), a1.2.mono (by omega)⟩
  · exact ⟨l.2.1.1.mono (by omega), l.2.1.2.mono (by omega)⟩
  · exact ⟨a2.mono (by omega), a3.mono (by omega)⟩
  · refine ⟨?_, ?_⟩ <;> unfold Lim <;> decide +kernel
  · exact ⟨l.2.2.1.mono (by omega), l.2.2.2.mono (by omega)⟩
  · exact ⟨l'.2.2.1.mono (by omega), l'.2.2.2.mono (by omega)⟩
def cmR (a b c a' b' c' : Rat) : Int := qsg (a - a') b (-b') 0 c c'
theorem two_roots {E : Env} {w : World} {v u : Value} {a b c a' b' c' : Rat} (h1 : RepQ E (qI 0) a) (h2 : RepQ E (qI 2) b) (h3 : RepQ E (qI 4) c) (h4 : RepQ E (qI 6) a') (h5 : RepQ E (qI 8) b') (h6 : RepQ E (qI 10) c') (hv : IsRoot w v a b c) (hu : IsRoot w u a' b' c') (l : LimR 9 a b c) (l' : LimR 9 a' b' c') :
    ∀ (i : Nat) (x : AV), [aRo 0, aRo 6][i]? = some x → ∃ β y, [v, u][i]? = some y ∧ x.holds E β w y := by
  intro i x hx
  match i, hx with
  | 0, hx => injection hx with hx; subst hx; exact ⟨fun _ => 0, v, rfl, (one_root (A := qI 0) (B := qI 2) (C := qI 4) h1 h2 h3).2 ⟨hv, l⟩⟩
  | 1, hx => injection hx with hx; subst hx; exact ⟨fun _ => 0, u, rfl, (one_root (A := qI 6) (B := qI 8) (C := qI 10) h4 h5 h6).2 ⟨hu, l'⟩⟩
theorem sub_gen {g : Nat} {fn : Func} (hf : Tryz.prog.funcs[g]? = some fn) (k4 : fn.results.toList.length ≤ 4) (hn : 2 ≤ fn.ntmps) (hT : isLf6 (funE cSb fn [] [aRo 0, aRo 6]) = true) (w : World) (v u : Value) (a b c a' b' c' : Rat) (hv : IsRoot w v a b c) (hu : IsRoot w u a' b' c') (l : LimR 9 a b c) (l' : LimR 9 a' b' c') :
    Calls Tryz.prog g #[v, u] w (Ret (fun x w' => IsQs w' x [a - a', b, -b', 0, c, c']) w) := by
  obtain ⟨E, hE⟩ : ∃ E, E = qE [a, b, c, a', b', c'] := ⟨_, rfl⟩
  have hQ : QEnv E := by rw [hE]; exact qE_ok _
  have r1 : RepQ E (qI 0) a := by rw [hE]; exact ⟨rfl, rfl⟩
  have r2 : RepQ E (qI 2) b := by rw [hE]; exact ⟨rfl, rfl⟩
  have r3 : RepQ E (qI 4) c := by rw [hE]; exact ⟨rfl, rfl⟩
  have r4 : RepQ E (qI 6) a' := by rw [hE]; exact ⟨rfl, rfl⟩
  have r5 : RepQ E (qI 8) b' := by rw [hE]; exact ⟨rfl, rfl⟩
  have r6 : RepQ E (qI 10) c' := by rw [hE]; exact ⟨rfl, rfl⟩
  unfold isLf6 at hT
  split at hT
  · rename_i cs hTe
    refine (fun_sound mixed (cSb_ok hQ) no_asm hf k4 hTe hn rfl w [v, u] rfl (two_roots r1 r2 r3 r4 r5 r6 hv hu l l')).mono ?_
    rintro e w' ⟨β, x, rfl, ⟨vs, rfl, hc⟩, ex⟩
    exact ⟨_, rfl, ⟨vs, rfl, t6_holds (cm_reps r1 r2 r3 r4 r5 r6) hT hc⟩, ex⟩
  · cases hT
theorem radSub_calls (w : World) (v u : Value) (a b c a' b' c' : Rat) (hv : IsRoot w v a b c) (hu : IsRoot w u a' b' c') (l : LimR 9 a b c) (l' : LimR 9 a' b' c') :
    Calls Tryz.prog 25 #[v, u] w (Ret (fun x w' => IsQs w' x [a - a', b, -b', 0, c, c']) w) :=
  sub_gen Tryz.func25 (by decide +kernel) (by decide +kernel) sb_walk1 w v u a b c a' b' c' hv hu l l'
theorem refSub_calls (w : World) (v u : Value) (a b c a' b' c' : Rat) (hv : IsRoot w v a b c) (hu : IsRoot w u a' b' c') (l : LimR 9 a b c) (l' : LimR 9 a' b' c') :
    Calls Tryz.prog 26 #[v, u] w (Ret (fun x w' => IsQs w' x [a - a', b, -b', 0, c, c']) w) :=
  sub_gen Tryz.func26 (by decide +kernel) (by decide +kernel) sb_walk2 w v u a b c a' b' c' hv hu l l'
noncomputable def cCm (z : Int) : Cfg := cfgI (cfgOf ((20, kKq (c6 cmTs) (rNq z) kNoQ) :: tabSb)) (cfgOf tabSb) [(26, Tryz.f26)]
theorem rcm_walk : (sgs.all fun z => isNlo z (funE (cCm z) Tryz.f28 [] [aRo 0, aRo 6])) = true := by kernel_rfl
theorem refCmp_calls (w : World) (v u : Value) (a b c a' b' c' : Rat) (hv : IsRoot w v a b c) (hu : IsRoot w u a' b' c') (l : LimR 9 a b c) (l' : LimR 9 a' b' c') :
    Calls Tryz.prog 28 #[v, u] w (RetN (cmR a b c a' b' c') w) := by
  obtain ⟨E, hE⟩ : ∃ E, E = qE [a, b, c, a', b', c'] := ⟨_, rfl⟩
  have hQ : QEnv E := by rw [hE]; exact qE_ok _
  have r1 : RepQ E (qI 0) a := by rw [hE]; exact ⟨rfl, rfl⟩
  have r2 : RepQ E (qI 2) b := by rw [hE]; exact ⟨rfl, rfl⟩
  have r3 : RepQ E (qI 4) c := by rw [hE]; exact ⟨rfl, rfl⟩
  have r4 : RepQ E (qI 6) a' := by rw [hE]; exact ⟨rfl, rfl⟩
  have r5 : RepQ E (qI 8) b' := by rw [hE]; exact ⟨rfl, rfl⟩
  have r6 : RepQ E (qI 10) c' := by rw [hE]; exact ⟨rfl, rfl⟩
  have hT : TabOK Tryz.prog E ((20, kKq (c6 cmTs) (rNq (cmR a b c a' b' c')) kNoQ) :: tabSb) := .cons (kKq_ok (known6 (cm_reps r1 r2 r3 r4 r5 r6) fun w v h => refSign_calls w v _ _ _ _ _ _ h (sub_lims l l')) (kNoQ_ok ⟨_, Tryz.func20, by decide +kernel, by kernel_rfl⟩)) (tabSb_ok hQ)
  have hC : CfgOK Tryz.prog E (cCm (cmR a b c a' b' c')) := cfgI_ok mixed (cfg_ok hT) (cfg_ok (tabSb_ok hQ)) (fun _ => trivial) (.cons Tryz.func26 (by decide +kernel) (by kernel_rfl) .nil)
  have hW := List.all_eq_true.1 rcm_walk _ (sgs_mem (qsg_range (a - a') b (-b') 0 c c'))
  unfold isNlo at hW
  split at hW
  · rename_i T hTe
    refine (fun_sound mixed hC no_asm Tryz.func28 (by decide +kernel) hTe (by decide +kernel) rfl w [v, u] rfl (two_roots r1 r2 r3 r4 r5 r6 hv hu l l')).mono ?_
    rintro e w' ⟨β, x, rfl, hh, ex⟩
    rw [isNl_pick hW] at hh
    rw [show x = _ from one_num.1 hh]
    exact ⟨rfl, ex⟩
  · cases hW
end Go.Proofs.YtcgkmnjfkljjlaaGreat
end

section
set_option maxRecDepth 100000
namespace Go.Proofs.YtcgkmnjfkljjlaaGreat
open Go.RowKit
noncomputable def tabCf (b d : Bool) : List (Nat × Con) := (121, kKq (chkRw 0 2 4) (resQ (oL b)) (kKq (chkRw 6 8 10) (resQ (oF d)) kNoQ)) :: tabFq
noncomputable def cCf0 (b d : Bool) : Cfg := cfgN (cfgOf (tabCf b d)) needFq
noncomputable def cCf1 (b d : Bool) : Cfg := cfgI (cCf0 b d) (cCf0 b d) [(180, Tryz.f180)]
noncomputable def cCf (b d : Bool) : Cfg := cfgI (cCf1 b d) (cCf1 b d) [(125, Tryz.f125)]
def cfL : IT := .a2 0 (.var 12) (.a1 0 (.var 18))
def cfH : IT := .a2 0 (.var 14) (.a1 0 (.var 16))
def tsCf : Asm := [(exT cfL cfH, true)]
noncomputable def cfW (b d : Bool) (z : Int) (c : Bool) (G : Asm) : Bool := isIBo z c (funE (cCf b d) Tryz.f78 G [aRo 0, aRo 6])
theorem cf_none : (cfW false false 0 false [] && (cfW false true 0 false [] && cfW true false 0 false [])) = true := by kernel_rfl
theorem cf_no : ((List.range 1).all fun i => cfW true true 0 false (gLF ++ flipAt tsCf i)) = true := by kernel_rfl
theorem cf_all : ((List.range 4).all fun n => cfW true true (sgnN n) (decide (n < 3)) (gLF ++ (tsCf ++ sgnG cfL cfH n))) = true := by kernel_rfl
structure FastC (a b c a' b' c' : Rat) (z : Int) (t : Bool) : Prop where
  calls : ∀ (w : World) (v u : Value), IsRoot w v a b c → IsRoot w u a' b' c' → LimR 9 a b c → LimR 9 a' b' c' → Calls Tryz.prog 78 #[v, u] w (RetIB z t w)
  right : t = true → 0 ≤ c → 0 ≤ c' → z = cmR a b c a' b' c'
  zero : t = false → z = 0
theorem cmR_sg {a b c a' b' c' : Rat} {m n : Sq} (hc : 0 ≤ c) (hc' : 0 ≤ c') (hm : IsRt c m) (hn : IsRt c' n) : HasSg (fun k => (a + b * m k) - (a' + b' * n k)) (cmR a b c a' b' c') := by
  have h := sqv4 (A := a - a') (B := b) (C := -b') (D := 0) hc hc' hm hn
  have e : cmR a b c a' b' c' = sg4 (a - a') b (-b') 0 c c' := if_neg (by have := Rat.num_nonneg.2 hc; have := Rat.num_nonneg.2 hc'; omega)
  rw [e]
  have f : (fun k => (a + b * m k) - (a' + b' * n k)) = fun k => a - a' + b * m k + (-b' + 0 * m k) * n k := funext fun k => by grind
  rw [f]
  exact h
theorem fast_c (a b c a' b' c' : Rat) : ∃ z t, FastC a b c a' b' c' z t := by
  obtain ⟨u1, hu1⟩ := root_q a b c
  obtain ⟨u2, hu2⟩ := root_q a' b' c'
  obtain ⟨s1, L1, H1, e1⟩ := opt_ifq u1
  obtain ⟨s2, L2, H2, e2⟩ := opt_ifq u2
  obtain ⟨E, hE⟩ : ∃ E, E = qE [a, b, c, a', b', c', (L1 : Rat), (H1 : Rat), (L2 : Rat), (H2 : Rat)] := ⟨_, rfl⟩
  have hQ : QEnv E := by rw [hE]; exact qE_ok _
  have r1 : RepQ E (qI 0) a := by rw [hE]; exact ⟨rfl, rfl⟩
  have r2 : RepQ E (qI 2) b := by rw [hE]; exact ⟨rfl, rfl⟩
  have r3 : RepQ E (qI 4) c := by rw [hE]; exact ⟨rfl, rfl⟩
  have r4 : RepQ E (qI 6) a' := by rw [hE]; exact ⟨rfl, rfl⟩
  have r5 : RepQ E (qI 8) b' := by rw [hE]; exact ⟨rfl, rfl⟩
  have r6 : RepQ E (qI 10) c' := by rw [hE]; exact ⟨rfl, rfl⟩
  have e12 : E.i 12 = L1 := by rw [hE]; exact qE_int (i := 6) rfl
  have e14 : E.i 14 = H1 := by rw [hE]; exact qE_int (i := 7) rfl
  have e16 : E.i 16 = L2 := by rw [hE]; exact qE_int (i := 8) rfl
  have e18 : E.i 18 = H2 := by rw [hE]; exact qE_int (i := 9) rfl
  have o1 := e1.trans (oL_map (E := E) (s := s1) e12 e14)
  have o2 := e2.trans (oF_map (E := E) (s := s2) e16 e18)
  have hC : CfgOK Tryz.prog E (cCf s1 s2) := by
    have hT : TabOK Tryz.prog E (tabCf s1 s2) := .cons (kKq_ok (knownq_root r1 r2 r3 hu1.prog o1) (kKq_ok (knownq_root r4 r5 r6 hu2.prog o2) (kNoQ_ok ⟨_, Tryz.func121, by decide +kernel, by kernel_rfl⟩))) (tabFq_ok hQ)
    have h0 : CfgOK Tryz.prog E (cCf0 s1 s2) := cfgN_ok (cfg_ok hT)
    have h1 : CfgOK Tryz.prog E (cCf1 s1 s2) := cfgI_ok mixed h0 h0 (fun _ => trivial) (.cons Tryz.func180 (by decide +kernel) (by kernel_rfl) .nil)
    exact cfgI_ok mixed h1 h1 (fun _ => trivial) (.cons Tryz.func125 (by decide +kernel) (by kernel_rfl) .nil)
  have fin : ∀ (G : Asm) (z : Int) (t : Bool), G.holds E → cfW s1 s2 z t G = true → ∀ (w : World) (v u : Value), IsRoot w v a b c → IsRoot w u a' b' c' → LimR 9 a b c → LimR 9 a' b' c' → Calls Tryz.prog 78 #[v, u] w (RetIB z t w) := by
    intro G z t hG hT w v u hv hu l l'
    unfold cfW isIBo at hT
    split at hT
    · rename_i T hT'
      refine (fun_sound mixed hC hG Tryz.func78 (by decide +kernel) hT' (by decide +kernel) rfl w [v, u] rfl (two_roots r1 r2 r3 r4 r5 r6 hv hu l l')).mono ?_
      rintro e w' ⟨β, x, rfl, hh, ex⟩
      rw [isIB_pick hT] at hh
      rw [IB_out hh]
      exact ⟨rfl, ex⟩
    · cases hT
  have hno := cf_none
  rw [Bool.and_eq_true, Bool.and_eq_true] at hno
  cases s1 with
  | false =>
    cases s2 with
    | false => exact ⟨0, false, fin _ _ _ no_asm hno.1, (fun h => by cases h), fun _ => rfl⟩
    | true => exact ⟨0, false, fin _ _ _ no_asm hno.2.1, (fun h => by cases h), fun _ => rfl⟩
  | true =>
    cases s2 with
    | false => exact ⟨0, false, fin _ _ _ no_asm hno.2.2, (fun h => by cases h), fun _ => rfl⟩
    | true =>
      obtain ⟨q1, in1⟩ := hu1.holds L1 H1 e1
      obtain ⟨q2, in2⟩ := hu2.holds L2 H2 e2
      have gxy : gLF.holds E := asm_app (gTy_ok e12 e14 q1) (gTy_ok e16 e18 q2)
      rcases first_bad (E := E) tsCf with hall | ⟨i, hi, hbad⟩
      · have dl : cfL.den E = L1 + -H2 := by
          show E.i 12 + -(E.i 18) = _
          rw [e12, e18]
        have dh : cfH.den E = H1 + -L2 := by
          show E.i 14 + -(E.i 16) = _
          rw [e14, e16]
        obtain ⟨n, hn, hg, hk⟩ := sgnG_ok dl dh
        refine ⟨sgnN n, decide (n < 3), fin _ _ _ (asm_app gxy <| asm_app hall hg) (List.all_eq_true.1 cf_all n (List.mem_range.2 hn)), fun h hM hN => ?_, fun h => ?_⟩
        rotate_left
        · have h4 := of_decide_eq_false h
          match n, hn, h4 with
          | 3, _, _ => rfl
          | 0, _, h4 => exact absurd (by omega) h4
          | 1, _, h4 => exact absurd (by omega) h4
          | 2, _, h4 => exact absurd (by omega) h4
        have h3 := of_decide_eq_true h
        obtain ⟨m, hm⟩ := exists_rt hM
        obtain ⟨k, hk2⟩ := exists_rt hN
        have hin := (in1 m hM hm).add (in2 k hN hk2).neg
        refine (ivSg_spec (hk h3) hin).unique ?_
        have := cmR_sg (a := a) (b := b) (a' := a') (b' := b') hM hN hm hk2
        simpa only [Rat.sub_eq_add_neg] using this
      · exact ⟨0, false, fin _ _ _ (asm_app gxy hbad) (List.all_eq_true.1 cf_no i (List.mem_range.2 hi)), (fun h => by cases h), fun _ => rfl⟩
end Go.Proofs.YtcgkmnjfkljjlaaGreat
end

section
set_option maxRecDepth 100000
namespace Go.Proofs.YtcgkmnjfkljjlaaGreat
open Go.RowKit
noncomputable def cId : Cfg := cfgI (cfgOf tabSb) (cfgOf tabSb) [(144, Tryz.f144)]
def eqz (i j : Nat) : BT := .eq (.a2 3 (.var i) (.var j)) (.lit 0)
def idT : List (Nat × Nat) → Tree
  | [] => .leaf [(false, [.b (.lit true)])]
  | [p] => .leaf [(false, [.b (eqz p.1 p.2)])]
  | p :: l => .ite (eqz p.1 p.2) (idT l) (.leaf [(false, [.b (.lit false)])])
def idL : List (Nat × Nat) := [(0, 6), (1, 7), (2, 8), (3, 9), (4, 10), (5, 11)]
theorem id_walk : funE cId Tryz.f79 [] [aRo 0, aRo 6] = some (idT idL) := by kernel_rfl
theorem eqz_den {E : Env} {i j : Nat} : (eqz i j).den E = true ↔ E.i i = E.i j := by
  show (cmpZ (E.i i) (E.i j) == 0) = true ↔ _
  rw [beq_iff_eq]
  rcases cmpZ_cases (E.i i) (E.i j) with ⟨a, e⟩ | ⟨a, e⟩ | ⟨a, e⟩ <;> rw [e] <;> omega
theorem id_pick {E : Env} : ∀ l : List (Nat × Nat), ∃ t, (idT l).pick E = [(false, [.b t])] ∧ (t.den E = true ↔ ∀ p ∈ l, E.i p.1 = E.i p.2)
  | [] => ⟨_, rfl, ⟨fun _ p hp => (by cases hp), fun _ => rfl⟩⟩
  | [p] => ⟨_, rfl, by rw [eqz_den]; simp⟩
  | p :: q :: l => by
    obtain ⟨t, h1, h2⟩ := id_pick (E := E) (q :: l)
    by_cases h : (eqz p.1 p.2).den E = true
    · refine ⟨t, ?_, ?_⟩
      · simp only [idT, Tree.pick, h, if_true]
        exact h1
      · rw [h2, List.forall_mem_cons (a := p)]
        exact ⟨fun k => ⟨eqz_den.1 h, k⟩, fun k => k.2⟩
    · refine ⟨.lit false, ?_, ?_⟩
      · simp only [idT, Tree.pick, h]
        rfl
      · rw [List.forall_mem_cons (a := p)]
        exact ⟨fun k => (by cases k), fun k => absurd (eqz_den.2 k.1) h⟩
def RetBl (b : Bool) (w : World) (e : Ending) (w' : World) : Prop := e = .returned (.bool b) ∧ Ext w w'
theorem ident_calls (w : World) (v u : Value) (a b c a' b' c' : Rat) (hv : IsRoot w v a b c) (hu : IsRoot w u a' b' c') (l : LimR 9 a b c) (l' : LimR 9 a' b' c') :
    Calls Tryz.prog 79 #[v, u] w (RetBl (decide (a = a' ∧ b = b' ∧ c = c')) w) := by
  obtain ⟨E, hE⟩ : ∃ E, E = qE [a, b, c, a', b', c'] := ⟨_, rfl⟩
  have hQ : QEnv E := by rw [hE]; exact qE_ok _
  have r1 : RepQ E (qI 0) a := by rw [hE]; exact ⟨rfl, rfl⟩
  have r2 : RepQ E (qI 2) b := by rw [hE]; exact ⟨rfl, rfl⟩
  have r3 : RepQ E (qI 4) c := by rw [hE]; exact ⟨rfl, rfl⟩
  have r4 : RepQ E (qI 6) a' := by rw [hE]; exact ⟨rfl, rfl⟩
  have r5 : RepQ E (qI 8) b' := by rw [hE]; exact ⟨rfl, rfl⟩
  have r6 : RepQ E (qI 10) c' := by rw [hE]; exact ⟨rfl, rfl⟩
  have hC : CfgOK Tryz.prog E cId := cfgI_ok mixed (cfg_ok (tabSb_ok hQ)) (cfg_ok (tabSb_ok hQ)) (fun _ => trivial) (.cons Tryz.func144 (by decide +kernel) (by kernel_rfl) .nil)
  obtain ⟨t, ht, hd⟩ := id_pick (E := E) idL
  refine (fun_sound mixed hC no_asm Tryz.func79 (by decide +kernel) id_walk (by decide +kernel) rfl w [v, u] rfl (two_roots r1 r2 r3 r4 r5 r6 hv hu l l')).mono ?_
  rintro e w' ⟨β, x, rfl, hh, ex⟩
  rw [ht] at hh
  have hx := one_bool.1 hh
  refine ⟨?_, ex⟩
  rw [hx]
  have key : t.den E = decide (a = a' ∧ b = b' ∧ c = c') := by
    rw [Bool.eq_iff_iff, hd, decide_eq_true_iff]
    have s : ∀ {i j : Nat} {x y : Rat}, RepQ E (qI i) x → RepQ E (qI j) y → ((E.i i = E.i j ∧ E.i (i + 1) = E.i (j + 1)) ↔ x = y) := by
      intro i j x y hx hy
      rw [show E.i i = x.num from hx.1, show E.i j = y.num from hy.1, show E.i (i + 1) = (x.den : Int) from hx.2, show E.i (j + 1) = (y.den : Int) from hy.2]
      exact ⟨fun k => Rat.ext k.1 (Int.ofNat.inj k.2), fun k => by rw [k]; exact ⟨rfl, rfl⟩⟩
    rw [← s r1 r4, ← s r2 r5, ← s r3 r6]
    simp only [idL, List.forall_mem_cons, List.not_mem_nil, false_imp_iff, implies_true, and_true, and_assoc]
  rw [key]
structure KnownR (E : Env) (f : Nat) (chk : List AV → Bool) (r : AV) : Prop where
  calls : ∀ args, chk args = true → ∀ (β : Nat → Nat) (w : World) (vs : List Value), (∀ (i : Nat) (x : AV), args[i]? = some x → ∃ v, vs[i]? = some v ∧ x.holds E β w v) → vs.length = args.length → Calls Tryz.prog f vs.toArray w fun e w' => ∃ v, e = .returned v ∧ (∀ β, r.holds E β w' v) ∧ Ext w w'
  np : ∀ x off, r ≠ .ptr x off
theorem kKr_ok {E : Env} {f : Nat} {chk : List AV → Bool} {r : AV} {k : Con} (h : KnownR E f chk r) (hk : ConOK Tryz.prog E f k) : ConOK Tryz.prog E f (kKq chk r k) := by
  refine ⟨?_, ?_, hk.body⟩
  · intro args G s hs hG β w vs hv hl
    unfold kKq at hs
    split at hs
    · rename_i hc
      injection hs with hs
      subst hs
      refine (h.calls args hc β w vs hv hl).mono ?_
      rintro e w' ⟨v, rfl, h1, h2⟩
      exact ⟨v, rfl, h1 _, h2⟩
    · exact hk.calls args G s hs hG β w vs hv hl
  · intro args G s hs x off
    unfold kKq at hs
    split at hs
    · injection hs with hs
      subst hs
      exact h.np x off
    · exact hk.nptr args G s hs x off
end Go.Proofs.YtcgkmnjfkljjlaaGreat
end

section
set_option maxRecDepth 100000
namespace Go.Proofs.YtcgkmnjfkljjlaaGreat
open Go.RowKit
def sqG (b : Bool) : BT × Bool := (.and (sqT (qv 2).1) (sqT (qv 2).2), b)
noncomputable def tbV : List (Nat × Con) := [(147, kVl), (38, kVl), (103, kSqQ), (70, kSqQ)]
theorem tbV_ok {E : Env} (hE : QEnv E) : TabOK Tryz.prog E tbV :=
  .cons (kVl_ok hE (fun w v s1 s2 xs1 xs2 h l1 l2 => valid_rat_calls w v s1 s2 xs1 xs2 h l1 l2) ⟨_, Tryz.func147, by decide +kernel, by kernel_rfl⟩)
    (.cons (kVl_ok hE (fun w v s1 s2 xs1 xs2 h l1 l2 => rvalid_rat_calls w v s1 s2 xs1 xs2 h l1 l2) ⟨_, Tryz.func38, by decide +kernel, by kernel_rfl⟩)
      (.cons (kSqQ_ok (fun w v n d h l m => sqrtQ_calls w v n d h l m) ⟨_, Tryz.func103, by decide +kernel, by kernel_rfl⟩)
        (.cons (kSqQ_ok (fun w v n d h l m => rsqrtQ_calls w v n d h l m) ⟨_, Tryz.func70, by decide +kernel, by kernel_rfl⟩) .nil)))
def lfB (t : BT) : Tree := .leaf [(false, [.b t])]
theorem lfB_out {E : Env} {β : Nat → Nat} {w : World} {v : Value} {t : BT} (h : (toAV ((lfB t).pick E)).holds E β w v) : v = .bool (t.den E) := one_bool.1 h
theorem sq_test {c : Rat} (h : 0 < c) : (sqB c.num && sqB (c.den : Int)) = (sqz c.num && sqz (c.den : Int)) := by
  have := (num_pos_iff c).2 h
  rw [sqz_sqB (by omega), sqz_sqB (by have := c.den_pos; omega)]
section
variable {w : World} {v : Value} {a b c : Rat}
theorem sqG_den (x : Bool) : (sqG x).1.den (qE [a, b, c]) = (sqB c.num && sqB (c.den : Int)) := by
  show ((sqT (qv 2).1).den _ && (sqT (qv 2).2).den _) = _
  rw [sqT_den, sqT_den]; rfl
theorem gtz_den {E : Env} {p : IT2} {q : Rat} (h : RepQ E p q) : (BT.lt (.lit 0) (sgt p)).den E = decide (0 < q) := by
  show decide (0 < (sgt p).den E) = _
  rw [sgt_den h, Bool.eq_iff_iff, decide_eq_true_iff, decide_eq_true_iff]
  rcases sgQ_cases q with ⟨k, e⟩ | ⟨k, e⟩ | ⟨k, e⟩ <;> rw [e] <;> constructor <;> intro j <;> first | omega | grind
theorem Rdb_cases (b c : Rat) : Rdb b c = if b = 0 then decide (c = 0) else if 0 < c then !(sqB c.num && sqB (c.den : Int)) else false := by
  have n1 : b.num = 0 ↔ b = 0 := Rat.num_eq_zero
  have n2 : c.num = 0 ↔ c = 0 := Rat.num_eq_zero
  have n3 := num_pos_iff c
  unfold Rdb
  by_cases hb : b = 0
  · rw [if_pos hb]
    subst hb
    show ((true && (c.num == 0)) || (false && _)) = _
    rw [Bool.true_and, Bool.false_and, Bool.or_false, Bool.eq_iff_iff, beq_iff_eq, decide_eq_true_iff, n2]
  · rw [if_neg hb]
    have e : (b.num == 0) = false := by rw [beq_eq_false_iff_ne]; exact fun k => hb (n1.1 k)
    have e2 : (b.num != 0) = true := by rw [bne_iff_ne]; exact fun k => hb (n1.1 k)
    rw [e, e2, Bool.false_and, Bool.false_or, Bool.true_and]
    by_cases hc : 0 < c
    · rw [if_pos hc, decide_eq_true (n3.2 hc), Bool.true_and, sq_test hc]
    · rw [if_neg hc, decide_eq_false (fun k => hc (n3.1 k)), Bool.false_and]
def vaT (b : Bool) : Tree := .ite (zt (qv 1)) (lfB (zt (qv 2))) (.ite (.lt (.lit 0) (sgt (qv 2))) (lfB (.lit b)) (lfB (.lit false)))
def vaR (b : Bool) : Tree := .ite (zt (qv 1)) (lfB (zt (qv 2))) (.ite (zt (qv 2)) (lfB (.lit false)) (.ite (.lt (.lit 0) (sgt (qv 2))) (lfB (.lit b)) (lfB (.lit false))))
theorem vaT_out {β : Nat → Nat} {w' : World} {y : Value} {x : Bool} (hx : (sqB c.num && sqB (c.den : Int)) = !x) (hh : (toAV ((vaT x).pick (qE [a, b, c]))).holds (qE [a, b, c]) β w' y) : y = .bool (Rdb b c) := by
  obtain ⟨ra, rb, rc⟩ := rep3 (a := a) (b := b) (c := c)
  unfold vaT at hh
  rw [ite_pick (zt_den rb), ite_pick (gtz_den rc)] at hh
  rw [Rdb_cases]
  by_cases hb : b = 0
  · rw [decide_eq_true hb, if_pos rfl] at hh
    rw [lfB_out hh, zt_den rc, if_pos hb]
  · rw [decide_eq_false hb, if_neg (by decide)] at hh
    rw [if_neg hb]
    by_cases hc : 0 < c
    · rw [decide_eq_true hc, if_pos rfl] at hh
      rw [lfB_out hh, if_pos hc, hx, Bool.not_not]; rfl
    · rw [decide_eq_false hc, if_neg (by decide)] at hh
      rw [lfB_out hh, if_neg hc]; rfl
theorem vaR_out {β : Nat → Nat} {w' : World} {y : Value} {x : Bool} (hx : (sqB c.num && sqB (c.den : Int)) = !x) (hh : (toAV ((vaR x).pick (qE [a, b, c]))).holds (qE [a, b, c]) β w' y) : y = .bool (Rdb b c) := by
  obtain ⟨ra, rb, rc⟩ := rep3 (a := a) (b := b) (c := c)
  unfold vaR at hh
  rw [ite_pick (zt_den rb), ite_pick (zt_den rc), ite_pick (gtz_den rc)] at hh
  rw [Rdb_cases]
  by_cases hb : b = 0
  · rw [decide_eq_true hb, if_pos rfl] at hh
    rw [lfB_out hh, zt_den rc, if_pos hb]
  · rw [decide_eq_false hb, if_neg (by decide)] at hh
    rw [if_neg hb]
    by_cases h0 : c = 0
    · rw [decide_eq_true h0, if_pos rfl] at hh
      rw [lfB_out hh, if_neg (by rw [h0]; decide)]; rfl
    · rw [decide_eq_false h0, if_neg (by decide)] at hh
      by_cases hc : 0 < c
      · rw [decide_eq_true hc, if_pos rfl] at hh
        rw [lfB_out hh, if_pos hc, hx, Bool.not_not]; rfl
      · rw [decide_eq_false hc, if_neg (by decide)] at hh
        rw [lfB_out hh, if_neg hc]; rfl
theorem sqG_holds {x : Bool} (h : (sqB c.num && sqB (c.den : Int)) = x) : Asm.holds (qE [a, b, c]) [sqG x] := by
  intro p hp
  simp only [List.mem_cons, List.not_mem_nil, or_false] at hp
  subst hp
  rw [sqG_den, h]; rfl
theorem p_valid (h : IsRoot w v a b c) (l : LimR 100 a b c) : Calls Tryz.prog 83 #[v] w fun e w' => e = .returned (.bool (Rdb b c)) ∧ Ext w w' := by
  cases hx : (sqB c.num && sqB (c.den : Int)) with
  | true =>
    refine (walk1 (l := [a, b, c]) (tab := tbV) (x := aRl 0 100) (G := [sqG true]) (T := vaT false) Tryz.func83 (by decide +kernel) (tbV_ok (qE_ok _)) (sqG_holds hx) (by kernel_rfl) (by decide +kernel) rfl w v (fun _ => aRl_holds h l)).mono ?_
    rintro e w' ⟨β, y, rfl, hh, ex⟩
    rw [vaT_out (by rw [hx]; rfl) hh]
    exact ⟨rfl, ex⟩
  | false =>
    refine (walk1 (l := [a, b, c]) (tab := tbV) (x := aRl 0 100) (G := [sqG false]) (T := vaT true) Tryz.func83 (by decide +kernel) (tbV_ok (qE_ok _)) (sqG_holds hx) (by kernel_rfl) (by decide +kernel) rfl w v (fun _ => aRl_holds h l)).mono ?_
    rintro e w' ⟨β, y, rfl, hh, ex⟩
    rw [vaT_out (by rw [hx]; rfl) hh]
    exact ⟨rfl, ex⟩
end
section
variable {w : World} {v : Value} {p1 p2 p3 p4 p5 p6 : RI}
end
end Go.Proofs.YtcgkmnjfkljjlaaGreat
end

section
set_option maxRecDepth 100000
namespace Go.Proofs.YtcgkmnjfkljjlaaGreat
open Go.RowKit
def cfgS (f0 : Nat) (sm : List Chunk → Nat → Option Bool) (C : Cfg) : Cfg :=
  { C with calls := fun f args M G => if f = f0 then (match args, M with
      | [.ptr _ off], [some cs] => (sm cs off).map fun c => .val false [.b (.lit c)]
      | _, _ => none) else C.calls f args M G }
def RowSm (E : Env) (f0 : Nat) (sm : List Chunk → Nat → Option Bool) : Prop := ∀ cs off c, sm cs off = some c → ∀ (w : World) (b : Nat), VarAt E w b cs → Calls Tryz.prog f0 #[pv b off] w fun e w' => e = .returned (.bool c) ∧ Ext w w'
theorem cfgS_ok {E : Env} {f0 : Nat} {sm : List Chunk → Nat → Option Bool} {C : Cfg} (h : CfgOK Tryz.prog E C) (hs : RowSm E f0 sm) (hb : ∃ fn, Tryz.prog.funcs[f0]? = some fn ∧ fn.name ≠ "runtime.NumGoroutine" ∧ fn.body.isNone = false) : CfgOK Tryz.prog E (cfgS f0 sm C) := by
  refine ⟨h.zero, h.ag, h.fld, h.flds, h.bool, h.row, h.arr, ?_, ?_, ?_, h.slc, h.strT, h.cnv, h.apd, h.eq2⟩
  · intro f args M G r hr hG β w vs hwk hv hlen hm
    simp only [cfgS] at hr
    split at hr
    · rename_i hf
      subst hf
      split at hr
      · rename_i x off cs
        obtain ⟨c, hc, rfl⟩ := Option.map_eq_some_iff.1 hr
        obtain ⟨v, rfl, h1⟩ := args1 hv hlen
        have h1' : v = pv (β x) off := h1
        subst h1'
        refine (hs cs off c hc w (β x) (hm 0 x off cs rfl rfl)).mono ?_
        rintro e w' ⟨rfl, ex⟩
        exact ⟨_, rfl, one_bool.2 rfl, ex⟩
      · cases hr
    · exact h.calls f args M G r hr hG β w vs hwk hv hlen hm
  · intro f args M G r hr x off
    simp only [cfgS] at hr
    split at hr
    · split at hr
      · obtain ⟨c, hc, rfl⟩ := Option.map_eq_some_iff.1 hr
        intro e; cases e
      · cases hr
    · exact h.nptr f args M G r hr x off
  · intro f args M G r hr
    simp only [cfgS] at hr
    split at hr
    · rename_i hf
      subst hf
      exact hb
    · exact h.body f args M G r hr
def roE (l : List RI) : Env := ⟨fun _ => 0, fun q => smR (l.getD (6 * q) (false, [])) (l.getD (6 * q + 1) (false, [])) (l.getD (6 * q + 2) (false, [])) (l.getD (6 * q + 3) (false, [])) (l.getD (6 * q + 4) (false, [])) (l.getD (6 * q + 5) (false, [])), fun i => l.getD i (false, []), fun _ => []⟩
end Go.Proofs.YtcgkmnjfkljjlaaGreat
end

section
set_option maxRecDepth 100000
namespace Go.Proofs.YtcgkmnjfkljjlaaGreat
open Go.RowKit
def rawsOf (a b c : Rat) : List RI := rawOf a ++ (rawOf b ++ rawOf c)
theorem smN_rawOf {w : World} {v : Value} {q : Rat} (h : IsRat w v q) (l : LimQ 4 q) : smN 4 (decide (q.num < 0), limbs q.num.natAbs) (decide ((q.den : Int) < 0), limbs (q.den : Int).natAbs) = true := by
  unfold smN
  have l1 : (limbs q.num.natAbs).length ≤ 4 := l.1
  have l2 : (limbs (q.den : Int).natAbs).length ≤ 4 := l.2
  rw [(rat_raw h).2, decide_eq_true l1, decide_eq_true l2]
  rfl
theorem rq_rawOf (q : Rat) : rq (decide (q.num < 0), limbs q.num.natAbs) (decide ((q.den : Int) < 0), limbs (q.den : Int).natAbs) = q := by
  have e3 : sgn (decide (q.num < 0)) (val (limbs q.num.natAbs)) = q.num := by rw [val_limbs]; exact sgn_self q.num
  have e4 : sgn (decide ((q.den : Int) < 0)) (val (limbs (q.den : Int).natAbs)) = (q.den : Int) := by rw [val_limbs]; exact sgn_self (q.den : Int)
  show Rat.divInt _ _ = _
  rw [e3, e4]
  exact Rat.num_divInt_den q
structure SmRt (w : World) (v : Value) (a b c : Rat) : Prop where
  is : IsRoot w v a b c
  lim : LimR 4 a b c
  rd : Rd b c
theorem SmRt.sm {w : World} {v : Value} {a b c : Rat} (h : SmRt w v a b c) {l : List RI} {k : Nat} (e : ∀ i, i < 6 → l.getD (6 * k + i) (false, []) = (rawsOf a b c).getD i (false, [])) : (roE l).b k = true := by
  obtain ⟨⟨x, y, z, rfl, h1, h2, h3⟩, ⟨l1, l2, l3⟩, R⟩ := h
  show smR _ _ _ _ _ _ = true
  have e0 := e 0 (by omega)
  have e1 := e 1 (by omega)
  have e2 := e 2 (by omega)
  have e3 := e 3 (by omega)
  have e4 := e 4 (by omega)
  have e5 := e 5 (by omega)
  rw [Nat.add_zero] at e0
  rw [e0, e1, e2, e3, e4, e5]
  unfold smR
  have k1 := smN_rawOf h1 l1
  have k2 := smN_rawOf h2 l2
  have k3 := smN_rawOf h3 l3
  have k4 := rq_rawOf b
  have k5 := rq_rawOf c
  show (smN 4 (decide (a.num < 0), limbs a.num.natAbs) (decide ((a.den : Int) < 0), limbs (a.den : Int).natAbs) && (smN 4 (decide (b.num < 0), limbs b.num.natAbs) (decide ((b.den : Int) < 0), limbs (b.den : Int).natAbs) && (smN 4 (decide (c.num < 0), limbs c.num.natAbs) (decide ((c.den : Int) < 0), limbs (c.den : Int).natAbs) && Rdb (rq (decide (b.num < 0), limbs b.num.natAbs) (decide ((b.den : Int) < 0), limbs (b.den : Int).natAbs)) (rq (decide (c.num < 0), limbs c.num.natAbs) (decide ((c.den : Int) < 0), limbs (c.den : Int).natAbs))))) = true
  rw [k1, k2, k3, k4, k5, Rdb_iff.2 R]
  rfl
end Go.Proofs.YtcgkmnjfkljjlaaGreat
end

section
set_option maxRecDepth 100000
namespace Go.Proofs.YtcgkmnjfkljjlaaGreat
open Go.RowKit
theorem Ok.symm {b c b' c' : Rat} (h : Ok b c b' c') : Ok b' c' b c := by
  rcases h with h | h | h
  · exact .inr (.inl h)
  · exact .inl h
  · exact .inr (.inr h.symm)
theorem Rd.comb {b c b' c' x : Rat} (R : Rd b c) (R' : Rd b' c') (hx : x ≠ 0 → b ≠ 0 ∨ b' ≠ 0) : Rd x (rC x (cm b c c')) := by
  by_cases h0 : x = 0
  · subst h0; rw [rC_zero]; exact .inl ⟨rfl, rfl⟩
  · rw [rC_ne h0]
    by_cases hb : b = 0
    · have hb' : b' ≠ 0 := (hx h0).elim (fun k => absurd hb k) id
      rw [hb, cm_zero]
      rcases R' with ⟨k, _⟩ | ⟨_, k⟩
      · exact absurd k hb'
      · exact .inr ⟨h0, k⟩
    · rw [cm_ne hb]
      rcases R with ⟨k, _⟩ | ⟨_, k⟩
      · exact absurd k hb
      · exact .inr ⟨h0, k⟩
def g2 (n m : Bool) : Asm := [(rdT (qv 1) (qv 2), true), (rdT (qv 4) (qv 5), true), (nokT (qv 1) (qv 2) (qv 4) (qv 5), n), (nokT (qv 4) (qv 5) (qv 1) (qv 2), m)]
section
variable {w : World} {v u : Value} {a b c a' b' c' : Rat}
end
end Go.Proofs.YtcgkmnjfkljjlaaGreat
end

section
set_option maxRecDepth 100000
namespace Go.Proofs.YtcgkmnjfkljjlaaGreat
open Go.RowKit
theorem Rd.nonneg {b c : Rat} (R : Rd b c) : 0 ≤ c := by
  rcases R with ⟨_, h⟩ | ⟨_, h, _⟩ <;> grind
end Go.Proofs.YtcgkmnjfkljjlaaGreat
end

section
set_option maxRecDepth 100000
namespace Go.Proofs.YtcgkmnjfkljjlaaGreat
open Go.RowKit
theorem sgN_sg2 {a b c : Rat} (R : Rd b c) : sgN a b c = sg2 a b c := by
  rw [← sgS_sgN R]
  exact sgS_sg2 R.nonneg
theorem cmR_ok {a b c a' b' c' : Rat} (R : Rd b c) (R' : Rd b' c') (h : Ok b c b' c') : cmR a b c a' b' c' = sgN (a - a') (b - b') (rC (b - b') (cm b c c')) := by
  have RR : Rd (b - b') (rC (b - b') (cm b c c')) := Rd.comb R R' (fun hx => by
    by_cases hb : b = 0
    · exact .inr (fun k => hx (by rw [hb, k]; grind))
    · exact .inl hb)
  rw [sgN_sg2 RR]
  obtain ⟨z, hz⟩ := exists_rt RR.nonneg
  have fin : ∀ {m n k : Sq}, IsRt c m → IsRt c' n → IsRt (rC (b - b') (cm b c c')) k → (∀ i, (a + b * m i) - (a' + b' * n i) = (a - a') + (b - b') * k i) → cmR a b c a' b' c' = sg2 (a - a') (b - b') (rC (b - b') (cm b c c')) := by
    intro m n k hm hn hk e
    have h1 := cmR_sg (a := a) (b := b) (a' := a') (b' := b') R.nonneg R'.nonneg hm hn
    rw [funext e] at h1
    exact h1.unique (sqv2 RR.nonneg hk)
  obtain ⟨m, hm⟩ := exists_rt R.nonneg
  obtain ⟨n, hn⟩ := exists_rt R'.nonneg
  by_cases hx : b - b' = 0
  · by_cases hb : b = 0
    · have hb' : b' = 0 := by grind
      exact fin hm hn hz (fun i => by rw [hb, hb']; grind)
    · have hb' : b' ≠ 0 := by grind
      have hc : c = c' := by rcases h with h | h | h <;> first | exact absurd h hb | exact absurd h hb' | exact h
      exact fin hm (hc ▸ hm) hz (fun i => by rw [show b' = b by grind]; grind)
  · have eC : rC (b - b') (cm b c c') = cm b c c' := rC_ne hx _
    by_cases hb : b = 0
    · have e2 : cm b c c' = c' := by rw [hb, cm_zero]
      exact fin hm hn (by rw [eC, e2]; exact hn) (fun i => by rw [hb]; grind)
    · have e2 : cm b c c' = c := cm_ne hb c c'
      have hk : IsRt (rC (b - b') (cm b c c')) m := by rw [eC, e2]; exact hm
      by_cases hb' : b' = 0
      · exact fin hm hn hk (fun i => by rw [hb']; grind)
      · have hc : c = c' := by rcases h with h | h | h <;> first | exact absurd h hb | exact absurd h hb' | exact h
        exact fin hm (hc ▸ hm) hk (fun i => by grind)
theorem cmR_rat {a c a' c' : Rat} (hc : 0 ≤ c) (hc' : 0 ≤ c') : cmR a 0 c a' 0 c' = sgQ' (a - a') := by
  obtain ⟨m, hm⟩ := exists_rt hc
  obtain ⟨n, hn⟩ := exists_rt hc'
  have h1 := cmR_sg (a := a) (b := 0) (a' := a') (b' := 0) hc hc' hm hn
  have e : (fun k => (a + 0 * m k) - (a' + 0 * n k)) = fun _ => a - a' := funext fun k => by grind
  rw [e] at h1
  exact h1.unique (hasSg_const _)
theorem cmR_same {a b c : Rat} (hc : 0 ≤ c) : cmR a b c a b c = 0 := by
  obtain ⟨m, hm⟩ := exists_rt hc
  have h1 := cmR_sg (a := a) (b := b) (a' := a) (b' := b) hc hc hm hm
  have e : (fun k => (a + b * m k) - (a + b * m k)) = fun _ => (0 : Rat) := funext fun k => by grind
  rw [e] at h1
  have h2 := hasSg_const (0 : Rat)
  exact h1.unique h2
end Go.Proofs.YtcgkmnjfkljjlaaGreat
end

section
set_option maxRecDepth 100000
namespace Go.Proofs.YtcgkmnjfkljjlaaGreat
open Go.RowKit
def c66 (ts us : List IT2) : List AV → Bool
  | [.val true xs, .val true ys] => t6 ts xs && t6 us ys
  | _ => false
def rqA : List IT2 := [qI 0, qI 2, qI 4]
def rqB : List IT2 := [qI 6, qI 8, qI 10]
def rqN : List IT2 := [qng (qI 6), qng (qI 8), qI 10]
def rqD : List IT2 := [qI 12, qI 14, qI 16]
def zer6 : List Chunk := [.int (.lit 0) 0, .int (.lit 0) 0, .int (.lit 0) 0, .int (.lit 0) 0, .int (.lit 0) 0, .int (.lit 0) 0]
def rAdd (ok : Bool) : AV := .tup [(true, if ok then rt (qI 12) (qI 14) (qI 16) 40 else zer6), (false, [.n .i64 (.lit (if ok then 0 else 1))])]
def rBl (b : Bool) : AV := .val false [.b (.lit b)]
noncomputable def tabCp (z : Int) (t i ok : Bool) (x : Int) : List (Nat × Con) :=
  (78, kKq (c66 rqA rqB) (rIB z t) kNoQ) :: (79, kKq (c66 rqA rqB) (rBl i) kNoQ) :: (80, kKq (c6 rqB) (.val true (rt (qng (qI 6)) (qng (qI 8)) (qI 10) 9)) kNoQ) ::
  (14, kKq (c66 rqA rqN) (rAdd ok) kNoQ) :: (54, if ok then kKq (c6 rqD) (rNq x) kNoQ else kNoQ) :: (65, kKq (c6 cmTs) (rNq x) kNoQ) :: tabSb
noncomputable def iCp0 : List (Nat × Func) := [(137, Tryz.f137), (76, Tryz.f76)]
noncomputable def cCp0 (z : Int) (t i ok : Bool) (x : Int) : Cfg := cfgI (cfgOf (tabCp z t i ok x)) (cfgOf (tabCp z t i ok x)) iCp0
noncomputable def cCp1 (z : Int) (t i ok : Bool) (x : Int) : Cfg := cfgI (cCp0 z t i ok x) (cCp0 z t i ok x) iC2
noncomputable def cCp (z : Int) (t i ok : Bool) (x : Int) : Cfg := cfgI (cCp1 z t i ok x) (cCp1 z t i ok x) [(25, Tryz.f25)]
def gzQ (i : Nat) (b : Bool) : BT × Bool := (.eq (sgI i) (.lit 0), b)
def guC : List Asm := [[gzQ 2 false], [gzQ 2 true, gzQ 8 false]]
noncomputable def cpW (z : Int) (t i ok : Bool) (x y : Int) (G : Asm) : Bool := isNlo y (funE (cCp z t i ok x) Tryz.f29 G [aRo 0, aRo 6])
theorem cp_all : (sgs.all fun z => bools.all fun t => bools.all fun i => bools.all fun ok => sgs.all fun x => guC.all fun G => cpW z t i ok x (if t then z else if i then 0 else x) G) = true := by kernel_rfl
noncomputable def cCr : Cfg := cfgI (cfgOf tabSb) (cfgOf tabSb) iCp0
theorem cp_rat : funE cCr Tryz.f29 [gzQ 2 true, gzQ 8 true] [aRo 0, aRo 6] = some (.leaf [(false, [.n .i64 (qcmp (qI 0) (qI 6))])]) := by kernel_rfl
end Go.Proofs.YtcgkmnjfkljjlaaGreat
end

section
set_option maxRecDepth 100000
namespace Go.Proofs.YtcgkmnjfkljjlaaGreat
open Go.RowKit
theorem rats3 {w : World} {vs : List Value} {a b c : Rat} (h : RatsQ w vs [a, b, c]) : IsRoot w (.agg vs.toArray) a b c := by
  obtain ⟨x, r, rfl, h1, y, s, rfl, h2, z, t, rfl, h3, rfl⟩ := h
  exact ⟨x, y, z, by rw [List.append_nil], h1, h2, h3⟩
theorem known66 {E : Env} {f : Nat} {ts us : List IT2} {a b c a' b' c' : Rat} {r : AV} (hr : Reps E ts [a, b, c]) (hs : Reps E us [a', b', c']) (np : ∀ x off, r ≠ .ptr x off)
    (h : ∀ (w : World) (v u : Value), IsRoot w v a b c → IsRoot w u a' b' c' → Calls Tryz.prog f #[v, u] w fun e w' => ∃ x, e = .returned x ∧ (∀ β, r.holds E β w' x) ∧ Ext w w') : KnownR E f (c66 ts us) r := by
  refine ⟨?_, np⟩
  intro args hc' β w vs hv hl
  unfold c66 at hc'
  split at hc'
  · rw [Bool.and_eq_true] at hc'
    obtain ⟨v, u, rfl, ⟨xs, rfl, h1⟩, ⟨ys, rfl, h2⟩⟩ := args2 hv hl
    exact h w _ _ (rats3 (t6_holds hr hc'.1 h1)) (rats3 (t6_holds hs hc'.2 h2))
  · cases hc'
theorem known3 {E : Env} {f : Nat} {ts : List IT2} {a b c : Rat} {r : AV} (hr : Reps E ts [a, b, c]) (np : ∀ x off, r ≠ .ptr x off)
    (h : ∀ (w : World) (v : Value), IsRoot w v a b c → Calls Tryz.prog f #[v] w fun e w' => ∃ x, e = .returned x ∧ (∀ β, r.holds E β w' x) ∧ Ext w w') : KnownR E f (c6 ts) r := by
  refine ⟨?_, np⟩
  intro args hc' β w vs hv hl
  unfold c6 at hc'
  split at hc'
  · obtain ⟨v, rfl, xs, rfl, h1⟩ := args1 hv hl
    exact h w _ (rats3 (t6_holds hr hc' h1))
  · cases hc'
theorem radCmp_calls (w : World) (v u : Value) (a b c a' b' c' : Rat) (R : Rd b c) (R' : Rd b' c') (hv : IsRoot w v a b c) (hu : IsRoot w u a' b' c') (l : LimR 9 a b c) (l' : LimR 9 a' b' c') :
    Calls Tryz.prog 29 #[v, u] w (RetN (cmR a b c a' b' c') w) := by
  obtain ⟨p, hp⟩ : ∃ p, p = a - a' := ⟨_, rfl⟩
  obtain ⟨q, hq⟩ : ∃ q, q = b - b' := ⟨_, rfl⟩
  obtain ⟨r, hr⟩ : ∃ r, r = rC (b - b') (cm b c c') := ⟨_, rfl⟩
  obtain ⟨E, hE⟩ : ∃ E, E = qE [a, b, c, a', b', c', p, q, r] := ⟨_, rfl⟩
  have hQ : QEnv E := by rw [hE]; exact qE_ok _
  have r1 : RepQ E (qI 0) a := by rw [hE]; exact ⟨rfl, rfl⟩
  have r2 : RepQ E (qI 2) b := by rw [hE]; exact ⟨rfl, rfl⟩
  have r3 : RepQ E (qI 4) c := by rw [hE]; exact ⟨rfl, rfl⟩
  have r4 : RepQ E (qI 6) a' := by rw [hE]; exact ⟨rfl, rfl⟩
  have r5 : RepQ E (qI 8) b' := by rw [hE]; exact ⟨rfl, rfl⟩
  have r6 : RepQ E (qI 10) c' := by rw [hE]; exact ⟨rfl, rfl⟩
  have r7 : RepQ E (qI 12) p := by rw [hE]; exact ⟨rfl, rfl⟩
  have r8 : RepQ E (qI 14) q := by rw [hE]; exact ⟨rfl, rfl⟩
  have r9 : RepQ E (qI 16) r := by rw [hE]; exact ⟨rfl, rfl⟩
  have sA : Reps E rqA [a, b, c] := ⟨r1, r2, r3, trivial⟩
  have sB : Reps E rqB [a', b', c'] := ⟨r4, r5, r6, trivial⟩
  have sN : Reps E rqN [-a', -b', c'] := ⟨rep_ng r4, rep_ng r5, r6, trivial⟩
  have sD : Reps E rqD [p, q, r] := ⟨r7, r8, r9, trivial⟩
  have ln : LimR 9 (-a') (-b') c' := ⟨⟨by rw [Rat.neg_num]; exact l'.1.1.neg, l'.1.2⟩, ⟨by rw [Rat.neg_num]; exact l'.2.1.1.neg, l'.2.1.2⟩, l'.2.2⟩
  have ld : LimR 40 p q r := by
    have x1 := LimQ.sub' (n := 20) l.1.1 l.1.2 l'.1.1 l'.1.2 (by omega) (by omega)
    have x2 := LimQ.sub' (n := 20) l.2.1.1 l.2.1.2 l'.2.1.1 l'.2.1.2 (by omega) (by omega)
    refine ⟨by rw [hp]; exact ⟨x1.1.mono (by omega), x1.2.mono (by omega)⟩, by rw [hq]; exact ⟨x2.1.mono (by omega), x2.2.mono (by omega)⟩, ?_⟩
    rw [hr]
    by_cases hx : b - b' = 0
    · rw [hx, rC_zero]
      refine ⟨?_, ?_⟩ <;> unfold Lim <;> decide +kernel
    · rw [rC_ne hx]
      by_cases hb : b = 0
      · rw [hb, cm_zero]; exact l'.2.2.mono (by omega)
      · rw [cm_ne hb]; exact l.2.2.mono (by omega)
  have RD : Rd q r := by
    rw [hq, hr]
    exact Rd.comb R R' (fun hx => by
      by_cases hb : b = 0
      · exact .inr (fun k => hx (by rw [hb, k]; grind))
      · exact .inl hb)
  obtain ⟨z, t, hf⟩ := fast_c a b c a' b' c'
  obtain ⟨i, hi⟩ : ∃ i, i = decide (a = a' ∧ b = b' ∧ c = c') := ⟨_, rfl⟩
  obtain ⟨ok, hok⟩ : ∃ ok : Bool, (ok = true ↔ Ok b c b' c') := by
    by_cases h : Ok b c b' c'
    · exact ⟨true, by simp [h]⟩
    · exact ⟨false, by simp [h]⟩
  obtain ⟨x, hx⟩ : ∃ x, x = cmR a b c a' b' c' := ⟨_, rfl⟩
  have hxs : x ∈ sgs := by rw [hx]; exact sgs_mem (qsg_range _ _ _ _ _ _)
  have hz : z ∈ sgs := by
    cases t with
    | false => rw [hf.zero rfl]; decide
    | true => rw [hf.right rfl R.nonneg R'.nonneg, ← hx]; exact hxs
  have hT : TabOK Tryz.prog E (tabCp z t i ok x) := by
    refine .cons (kKr_ok (known66 sA sB (fun x off e => by cases e) fun w v u h1 h2 => (hf.calls w v u h1 h2 l l').mono ?_) (kNoQ_ok ⟨_, Tryz.func78, by decide +kernel, by kernel_rfl⟩)) <|
      .cons (kKr_ok (known66 sA sB (fun x off e => by cases e) fun w v u h1 h2 => (ident_calls w v u a b c a' b' c' h1 h2 l l').mono ?_) (kNoQ_ok ⟨_, Tryz.func79, by decide +kernel, by kernel_rfl⟩)) <|
      .cons (kKr_ok (known3 sB (fun x off e => by cases e) fun w v h1 => (p_neg R' h1 (l'.mono (by omega))).mono ?_) (kNoQ_ok ⟨_, Tryz.func80, by decide +kernel, by kernel_rfl⟩)) <|
      .cons (kKr_ok (known66 sA sN (fun x off e => by cases e) fun w v u h1 h2 => (p_add h1 h2 (l.mono (by omega)) (ln.mono (by omega))).mono ?_) (kNoQ_ok ⟨_, Tryz.func14, by decide +kernel, by kernel_rfl⟩)) <|
      .cons ?_ <| .cons (kKq_ok (known6 (cm_reps r1 r2 r3 r4 r5 r6) fun w v h => ?_) (kNoQ_ok ⟨_, Tryz.func65, by decide +kernel, by kernel_rfl⟩)) (tabSb_ok hQ)
    · rintro e w' ⟨rfl, ex⟩
      exact ⟨_, rfl, fun β => ⟨[_, _], rfl, _, _, rfl, one_num.2 rfl, _, _, rfl, one_bool.2 rfl, rfl⟩, ex⟩
    · rintro e w' ⟨rfl, ex⟩
      exact ⟨_, rfl, fun β => one_bool.2 (by rw [← hi]; rfl), ex⟩
    · rintro e w' ⟨x, rfl, hx, ex⟩
      exact ⟨x, rfl, fun β => (one_root (A := qng (qI 6)) (B := qng (qI 8)) (C := qI 10) (rep_ng r4) (rep_ng r5) r6).2 ⟨hx, ln⟩, ex⟩
    · rintro e w' ⟨k1, k2⟩
      have eo : Ok b c (-b') c' ↔ Ok b c b' c' := by
        unfold Ok
        rw [show (-b' = 0 ↔ b' = 0) from ⟨fun k => by grind, fun k => by grind⟩]
      rw [eo] at k1 k2
      cases ok with
      | true =>
        obtain ⟨y, rfl, hy, ex⟩ := k1 (hok.1 rfl)
        rw [← Rat.sub_eq_add_neg, ← Rat.sub_eq_add_neg, ← hp, ← hr, ← hq] at hy
        exact ⟨_, rfl, fun β => ⟨[_, _], rfl, _, _, rfl, (one_root (A := qI 12) (B := qI 14) (C := qI 16) r7 r8 r9).2 ⟨hy, ld⟩, _, _, rfl, one_num.2 rfl, rfl⟩, ex⟩
      | false =>
        obtain ⟨y, rfl, hy, ex⟩ := k2 (fun k => by have := hok.2 k; cases this)
        exact ⟨_, rfl, fun β => ⟨[_, _], rfl, _, _, rfl, hy E, _, _, rfl, one_num.2 rfl, rfl⟩, ex⟩
    · cases ok with
      | false => exact kNoQ_ok ⟨_, Tryz.func54, by decide +kernel, by kernel_rfl⟩
      | true =>
        refine kKr_ok (known3 sD (fun x off e => by cases e) fun w v h1 => (p_sign RD h1 (ld.mono (by omega))).mono ?_) (kNoQ_ok ⟨_, Tryz.func54, by decide +kernel, by kernel_rfl⟩)
        rintro e w' ⟨rfl, ex⟩
        refine ⟨_, rfl, fun β => one_num.2 ?_, ex⟩
        rw [hp, hq, hr, ← cmR_ok R R' (hok.1 rfl), ← hx]
        rfl
    · have e : x = sg4 (a - a') b (-b') 0 c c' := by rw [hx]; exact if_neg (by have := Rat.num_nonneg.2 R.nonneg; have := Rat.num_nonneg.2 R'.nonneg; omega)
      rw [e]
      exact exactSign_calls w v _ _ _ _ _ _ h (sub_lims l l') R.nonneg
  have hC : CfgOK Tryz.prog E (cCp z t i ok x) := by
    have h0 := cfg_ok hT
    have h1 : CfgOK Tryz.prog E (cCp0 z t i ok x) := cfgI_ok mixed h0 h0 (fun _ => trivial) (.cons Tryz.func137 (by decide +kernel) (by kernel_rfl) <| .cons Tryz.func76 (by decide +kernel) (by kernel_rfl) .nil)
    have h2 : CfgOK Tryz.prog E (cCp1 z t i ok x) := cfgI_ok mixed h1 h1 (fun _ => trivial) (.cons Tryz.func72 (by decide +kernel) (by kernel_rfl) .nil)
    exact cfgI_ok mixed h2 h2 (fun _ => trivial) (.cons Tryz.func25 (by decide +kernel) (by kernel_rfl) .nil)
  have hres : (if t then z else if i then 0 else x) = cmR a b c a' b' c' := by
    cases t with
    | true => exact hf.right rfl R.nonneg R'.nonneg
    | false =>
      cases hii : i with
      | true =>
        have := of_decide_eq_true (hi ▸ hii)
        obtain ⟨rfl, rfl, rfl⟩ := this
        exact (cmR_same R.nonneg).symm
      | false => exact hx
  have fin : ∀ G ∈ guC, G.holds E → Calls Tryz.prog 29 #[v, u] w (RetN (cmR a b c a' b' c') w) := by
    intro G hm hG
    have hW := List.all_eq_true.1 (List.all_eq_true.1 (List.all_eq_true.1 (List.all_eq_true.1 (List.all_eq_true.1 (List.all_eq_true.1 cp_all z hz) t (by cases t <;> decide)) i (by cases i <;> decide)) ok (by cases ok <;> decide)) x hxs) G hm
    rw [hres] at hW
    unfold cpW isNlo at hW
    split at hW
    · rename_i T hTe
      refine (fun_sound mixed hC hG Tryz.func29 (by decide +kernel) hTe (by decide +kernel) rfl w [v, u] rfl (two_roots r1 r2 r3 r4 r5 r6 hv hu l l')).mono ?_
      rintro e w' ⟨β, y, rfl, hh, ex⟩
      rw [isNl_pick hW] at hh
      rw [show y = _ from one_num.1 hh]
      exact ⟨rfl, ex⟩
    · cases hW
  have zd : ∀ {j : Nat} {y : Rat}, RepQ E (qI j) y → (BT.eq (sgI j) (.lit 0)).den E = decide (y = 0) := by
    intro j y hy
    show (cmpZ (E.i j) 0 == 0) = _
    rw [show E.i j = y.num from hy.1, Bool.eq_iff_iff, beq_iff_eq, decide_eq_true_iff, ← Rat.num_eq_zero]
    rcases cmpZ_cases y.num 0 with ⟨k, e⟩ | ⟨k, e⟩ | ⟨k, e⟩ <;> rw [e] <;> omega
  by_cases hb : b = 0
  · by_cases hb' : b' = 0
    · have g : Asm.holds E [gzQ 2 true, gzQ 8 true] := asm_cons (asm_cons no_asm (by rw [zd r5]; exact decide_eq_true hb')) (by rw [zd r2]; exact decide_eq_true hb)
      have hC' : CfgOK Tryz.prog E cCr := cfgI_ok mixed (cfg_ok (tabSb_ok hQ)) (cfg_ok (tabSb_ok hQ)) (fun _ => trivial) (.cons Tryz.func137 (by decide +kernel) (by kernel_rfl) <| .cons Tryz.func76 (by decide +kernel) (by kernel_rfl) .nil)
      refine (fun_sound mixed hC' g Tryz.func29 (by decide +kernel) cp_rat (by decide +kernel) rfl w [v, u] rfl (two_roots r1 r2 r3 r4 r5 r6 hv hu l l')).mono ?_
      rintro e w' ⟨β, y, rfl, hh, ex⟩
      rw [show y = _ from one_num.1 hh, rep_cmp r1 r4, hb, hb', cmR_rat R.nonneg R'.nonneg, sgQ_eq]
      exact ⟨rfl, ex⟩
    · exact fin [gzQ 2 true, gzQ 8 false] (by simp [guC]) (asm_cons (asm_cons no_asm (by rw [zd r5]; exact decide_eq_false hb')) (by rw [zd r2]; exact decide_eq_true hb))
  · exact fin [gzQ 2 false] (by simp [guC]) (asm_cons no_asm (by rw [zd r2]; exact decide_eq_false hb))
end Go.Proofs.YtcgkmnjfkljjlaaGreat
end

section
set_option maxRecDepth 100000
namespace Go.Proofs.YtcgkmnjfkljjlaaGreat
open Go.RowKit
def isBl (b : Bool) : Tree → Bool
  | .leaf [(false, [.b (.lit c)])] => c == b
  | .leaf _ => false
  | .ite _ t e => isBl b t && isBl b e
def isBlo (b : Bool) : Option Tree → Bool
  | some T => isBl b T
  | none => false
theorem isBl_pick {E : Env} {b : Bool} : ∀ {T : Tree}, isBl b T = true → T.pick E = [(false, [.b (.lit b)])] := by
  intro T
  induction T with
  | leaf l =>
    intro h
    unfold isBl at h
    split at h
    · rename_i x e
      cases e
      simp only [beq_iff_eq] at h
      rw [h]
      rfl
    · cases h
    · rename_i e
      cases e
  | ite c t e iht ihe =>
    intro h
    simp only [isBl, Bool.and_eq_true] at h
    simp only [Tree.pick]
    split
    · exact iht h.1
    · exact ihe h.2
structure Rts (E : Env) (a b c a' b' c' : Rat) : Prop where
  r1 : RepQ E (qI 0) a
  r2 : RepQ E (qI 2) b
  r3 : RepQ E (qI 4) c
  r4 : RepQ E (qI 6) a'
  r5 : RepQ E (qI 8) b'
  r6 : RepQ E (qI 10) c'
theorem rts_mk (a b c a' b' c' : Rat) (l : List Rat) : Rts (qE (a :: b :: c :: a' :: b' :: c' :: l)) a b c a' b' c' := ⟨⟨rfl, rfl⟩, ⟨rfl, rfl⟩, ⟨rfl, rfl⟩, ⟨rfl, rfl⟩, ⟨rfl, rfl⟩, ⟨rfl, rfl⟩⟩
noncomputable def tabEq (z : Int) : List (Nat × Con) := [(29, kKq (c66 rqA rqB) (rNq z) kNoQ)]
theorem eq_walk : (sgs.all fun z => isBlo (z == 0) (funE (cfgOf (tabEq z)) Tryz.f30 [] [aRo 0, aRo 6])) = true := by kernel_rfl
theorem cmR_range (a b c a' b' c' : Rat) : cmR a b c a' b' c' ∈ sgs := sgs_mem (qsg_range _ _ _ _ _ _)
theorem radEqual_calls (w : World) (v u : Value) (a b c a' b' c' : Rat) (R : Rd b c) (R' : Rd b' c') (hv : IsRoot w v a b c) (hu : IsRoot w u a' b' c') (l : LimR 9 a b c) (l' : LimR 9 a' b' c') :
    Calls Tryz.prog 30 #[v, u] w (RetBl (cmR a b c a' b' c' == 0) w) := by
  obtain ⟨E, hE⟩ : ∃ E, E = qE [a, b, c, a', b', c'] := ⟨_, rfl⟩
  have q : Rts E a b c a' b' c' := by rw [hE]; exact rts_mk _ _ _ _ _ _ _
  have hW := List.all_eq_true.1 eq_walk _ (cmR_range a b c a' b' c')
  have hT : TabOK Tryz.prog E (tabEq (cmR a b c a' b' c')) := by
    refine .cons (kKr_ok (known66 ⟨q.r1, q.r2, q.r3, trivial⟩ ⟨q.r4, q.r5, q.r6, trivial⟩ (fun x off e => by cases e) fun w v u h1 h2 => (radCmp_calls w v u a b c a' b' c' R R' h1 h2 l l').mono ?_) (kNoQ_ok ⟨_, Tryz.func29, by decide +kernel, by kernel_rfl⟩)) .nil
    rintro e w' ⟨rfl, ex⟩
    exact ⟨_, rfl, fun β => one_num.2 rfl, ex⟩
  unfold isBlo at hW
  split at hW
  · rename_i T hTe
    refine (fun_sound mixed (cfg_ok hT) no_asm Tryz.func30 (by decide +kernel) hTe (by decide +kernel) rfl w [v, u] rfl (two_roots q.r1 q.r2 q.r3 q.r4 q.r5 q.r6 hv hu l l')).mono ?_
    rintro e w' ⟨β, x, rfl, hh, ex⟩
    rw [isBl_pick hW] at hh
    rw [show x = _ from one_bool.1 hh]
    exact ⟨rfl, ex⟩
  · cases hW
def aQ9 (i : Nat) : AV := .val true [.int (.var i) 9, .int (.var (i + 1)) 9]
def rqZ : List IT2 := [qI 6, (.lit 0, .lit 1), (.lit 0, .lit 1)]
noncomputable def tabCq (z : Int) : List (Nat × Con) := (29, kKq (c66 rqA rqZ) (rNq z) kNoQ) :: tabSb
theorem cq_walk : (sgs.all fun z => isNlo z (funE (cfgOf (tabCq z)) Tryz.f31 [] [aRo 0, aQ9 6])) = true := by kernel_rfl
theorem root_ratA {E : Env} {w : World} {v u : Value} {a b c d : Rat} (h1 : RepQ E (qI 0) a) (h2 : RepQ E (qI 2) b) (h3 : RepQ E (qI 4) c) (h4 : RepQ E (qI 6) d) (hv : IsRoot w v a b c) (hu : IsRat w u d) (l : LimR 9 a b c) (l' : LimQ 9 d) :
    ∀ (i : Nat) (x : AV), [aRo 0, aQ9 6][i]? = some x → ∃ β y, [v, u][i]? = some y ∧ x.holds E β w y := by
  intro i x hx
  match i, hx with
  | 0, hx => injection hx with hx; subst hx; exact ⟨fun _ => 0, v, rfl, (one_root (A := qI 0) (B := qI 2) (C := qI 4) h1 h2 h3).2 ⟨hv, l⟩⟩
  | 1, hx => injection hx with hx; subst hx; exact ⟨fun _ => 0, u, rfl, (one_q (A := qI 6) h4).2 ⟨hu, l'.1, l'.2⟩⟩
theorem lim_zeroR {n : Nat} (h : 1 ≤ n) : LimQ n (0 : Rat) := ⟨lim_zero, (lim1 (z := 1) (by decide)).mono h⟩
theorem radCmpRat_calls (w : World) (v u : Value) (a b c d : Rat) (R : Rd b c) (hv : IsRoot w v a b c) (hu : IsRat w u d) (l : LimR 9 a b c) (l' : LimQ 9 d) :
    Calls Tryz.prog 31 #[v, u] w (RetN (cmR a b c d 0 0) w) := by
  obtain ⟨E, hE⟩ : ∃ E, E = qE [a, b, c, d, 0, 0] := ⟨_, rfl⟩
  have hQ : QEnv E := by rw [hE]; exact qE_ok _
  have q : Rts E a b c d 0 0 := by rw [hE]; exact rts_mk _ _ _ _ _ _ _
  have hW := List.all_eq_true.1 cq_walk _ (cmR_range a b c d 0 0)
  have hT : TabOK Tryz.prog E (tabCq (cmR a b c d 0 0)) := by
    refine .cons (kKr_ok (known66 ⟨q.r1, q.r2, q.r3, trivial⟩ (us := rqZ) (a' := d) (b' := 0) (c' := 0) ⟨q.r4, ⟨rfl, rfl⟩, ⟨rfl, rfl⟩, trivial⟩ (fun x off e => by cases e) fun w v u h1 h2 => (radCmp_calls w v u a b c d 0 0 R (.inl ⟨rfl, rfl⟩) h1 h2 l ⟨l', lim_zeroR (by omega), lim_zeroR (by omega)⟩).mono ?_) (kNoQ_ok ⟨_, Tryz.func29, by decide +kernel, by kernel_rfl⟩)) (tabSb_ok hQ)
    rintro e w' ⟨rfl, ex⟩
    exact ⟨_, rfl, fun β => one_num.2 rfl, ex⟩
  unfold isNlo at hW
  split at hW
  · rename_i T hTe
    refine (fun_sound mixed (cfg_ok hT) no_asm Tryz.func31 (by decide +kernel) hTe (by decide +kernel) rfl w [v, u] rfl (root_ratA q.r1 q.r2 q.r3 q.r4 hv hu l l')).mono ?_
    rintro e w' ⟨β, x, rfl, hh, ex⟩
    rw [isNl_pick hW] at hh
    rw [show x = _ from one_num.1 hh]
    exact ⟨rfl, ex⟩
  · cases hW
theorem cmR_two {a b c d : Rat} (hc : 0 ≤ c) : cmR a b c d 0 0 = sg2 (a - d) b c := by
  obtain ⟨m, hm⟩ := exists_rt hc
  obtain ⟨n, hn⟩ := exists_rt (show (0 : Rat) ≤ 0 by decide)
  have h1 := cmR_sg (a := a) (b := b) (a' := d) (b' := 0) hc (by decide) hm hn
  have h2 := sqv2 (a := a - d) (b := b) hc hm
  have e : (fun k => (a + b * m k) - (d + 0 * n k)) = fun k => (a - d) + b * m k := funext fun k => by grind
  rw [e] at h1
  exact h1.unique h2
theorem rq_walk : funE cRs Tryz.f32 [(.lt (sgI 4) (.lit 0), false)] [aRo 0, aQ9 6] = some (lfTw (psQ (qop 1 (qI 0) (qI 6)) (qI 2) (qI 4))) := by kernel_rfl
theorem refCmpRat_calls (w : World) (v u : Value) (a b c d : Rat) (hc : 0 ≤ c) (hv : IsRoot w v a b c) (hu : IsRat w u d) (l : LimR 9 a b c) (l' : LimQ 9 d) :
    Calls Tryz.prog 32 #[v, u] w (RetN (cmR a b c d 0 0) w) := by
  obtain ⟨E, hE⟩ : ∃ E, E = qE [a, b, c, d, 0, 0] := ⟨_, rfl⟩
  have hQ : QEnv E := by rw [hE]; exact qE_ok _
  have q : Rts E a b c d 0 0 := by rw [hE]; exact rts_mk _ _ _ _ _ _ _
  have g : Asm.holds E [(.lt (sgI 4) (.lit 0), false)] := lt_f (by
    show ¬ cmpZ (E.i 4) 0 < 0
    rw [show E.i 4 = c.num from q.r3.1]
    have := Rat.num_nonneg.2 hc
    rcases cmpZ_cases c.num 0 with ⟨k, e⟩ | ⟨k, e⟩ | ⟨k, e⟩ <;> rw [e] <;> omega) no_asm
  refine (fun_sound mixed (cRs_ok hQ) g Tryz.func32 (by decide +kernel) rq_walk (by decide +kernel) rfl w [v, u] rfl (root_ratA q.r1 q.r2 q.r3 q.r4 hv hu l l')).mono ?_
  rintro e w' ⟨β, x, rfl, hh, ex⟩
  have hx : x = .int .i64 _ := one_num.1 hh
  rw [hx, psQ_den (rep_op (f := 1) (by omega) q.r1 q.r4) q.r2 q.r3 hc, cmR_two hc]
  exact ⟨rfl, ex⟩
end Go.Proofs.YtcgkmnjfkljjlaaGreat
end

section
set_option maxRecDepth 100000
namespace Go.Proofs.YtcgkmnjfkljjlaaGreat
open Go.RowKit
def simQ (k : Nat) (a b : Rat) : Rat := Rat.divInt (simS k a.num (a.den : Int) b.num (b.den : Int)).1 (simS k a.num (a.den : Int) b.num (b.den : Int)).2
theorem SimOK.parts {ln ld hn hd : Int} {r : Int × Int} (h : SimOK ln ld hn hd r) : (Rat.divInt r.1 r.2).num = r.1 ∧ ((Rat.divInt r.1 r.2).den : Int) = r.2 := by
  have hc := h.coprime
  have h1 := h.p1
  have h2 := h.p2
  have hco : coB r.1 r.2 = true := by
    unfold coB
    rw [hc, decide_eq_true h2]; rfl
  unfold coB at hco
  simp only [Bool.and_eq_true, decide_eq_true_iff, beq_iff_eq] at hco
  have e : Rat.divInt r.1 r.2 = ⟨r.1, r.2.natAbs, by omega, hc⟩ := by
    rw [Rat.mk_eq_divInt]
    congr 1
    omega
  rw [e]
  refine ⟨rfl, ?_⟩
  show ((r.2.natAbs : Nat) : Int) = r.2
  omega
theorem lim_le {m : Nat} {x y : Int} (h : Lim m y) (h1 : 0 ≤ x) (h2 : x ≤ y) : Lim m x := h.natAbs_le (by omega)
theorem SimOK.lim {ln ld hn hd : Int} {r : Int × Int} (h : SimOK ln ld hn hd r) (h1 : 0 ≤ ln) (h2 : 0 < ld) (h3 : 0 < hn) (h4 : 0 ≤ hd) (hlt : ln * hd < hn * ld) (a1 : Lim 6 ln) (a2 : Lim 6 ld) (a3 : Lim 6 hn) (a4 : Lim 6 hd) : Lim 7 r.1 ∧ Lim 7 r.2 := by
  obtain ⟨j1, j2⟩ := h.least (ln + hn) (ld + hd) (by omega) (by rw [Int.mul_add, Int.add_mul]; omega) (by rw [Int.mul_add, Int.add_mul]; omega)
  have p1 := h.p1
  have p2 := h.p2
  exact ⟨lim_le (a1.add2 a3) (by omega) j1, lim_le (a2.add2 a4) (by omega) j2⟩
def beq2 (x y : IT) (p : IT2) : Bool := x.beq p.1 && y.beq p.2
theorem beq2_spec {x y : IT} {p : IT2} (h : beq2 x y p = true) : x = p.1 ∧ y = p.2 := by
  unfold beq2 at h
  rw [Bool.and_eq_true] at h
  exact ⟨IT.eq_of_beq h.1, IT.eq_of_beq h.2⟩
structure SmEnv (a b F T y G H : Rat) : Prop where
  hF : F = 1 / (b - (a.floor : Rat))
  hB : b - (a.floor : Rat) ≠ 0
  hG : G = 1 / ((F.floor : Rat) + 1)
  hG0 : (F.floor : Rat) + 1 ≠ 0
  lF : LimQ 8 F
  lG : LimQ 8 G
  ne : ¬ ((a.floor : Rat) + 1 < b) → a ≠ (a.floor : Rat) → T = 1 / (a - (a.floor : Rat)) ∧ LimQ 8 T ∧ H = 1 / y ∧ y ≠ 0 ∧ LimQ 8 H ∧ LimQ 8 y
end Go.Proofs.YtcgkmnjfkljjlaaGreat
end

section
set_option maxRecDepth 100000
namespace Go.Proofs.YtcgkmnjfkljjlaaGreat
open Go.RowKit
end Go.Proofs.YtcgkmnjfkljjlaaGreat
end

section
set_option maxRecDepth 100000
namespace Go.Proofs.YtcgkmnjfkljjlaaGreat
open Go.RowKit
def spI : LInv where
  lk := [(2, .ptr 2 0), (3, .ptr 3 0), (4, .ptr 4 0), (5, .ptr 5 0), (6, .ptr 6 0)]
  vr := [(2, [.int (.var 0) 8, .int (.var 1) 8]), (3, [.int (.var 2) 8, .int (.var 3) 8]), (4, [.int (.lit 0) 0, .int (.lit 0) 0]), (5, [.int (.var 4) 8, .int (.var 5) 8]), (6, [.int (.var 6) 8, .int (.var 7) 8])]
  vs := [0, 1, 2, 3, 4, 5, 6, 7]
  G := []
  lm := [(0, 8), (1, 8), (2, 8), (3, 8), (4, 8), (5, 8), (6, 8), (7, 8)]
def spF : IT := .a2 4 (.var 0) (.var 1)
def spNx : IT := .a2 0 spF (.lit 1)
def spN : IT := .a2 0 (.a2 2 spNx (.var 4)) (.var 6)
def spD : IT := .a2 0 (.a2 2 spNx (.var 5)) (.var 7)
def spAg : List IT := [.var 3, .a2 1 (.var 2) (.a2 2 spF (.var 3)), .var 1, .a2 5 (.var 0) (.var 1), .a2 0 (.a2 2 spF (.var 4)) (.var 6), .a2 0 (.a2 2 spF (.var 5)) (.var 7), .var 4, .var 5]
def spLeaf : List (Bool × List Chunk) := [(true, [.int spN 26, .int spD 26])]
def spTree : LTree := .ite (.lt (.a2 3 (.a2 2 spNx (.var 3)) (.var 2)) (.lit 0)) (.leaf spLeaf) (.again 0 spAg)
def spE (E : Env) (a b c d x y z t : Int) : Env := E.upd spI.vs [a, b, c, d, x, y, z, t]
theorem spE_upd {E : Env} {a b c d x y z t : Int} (l : List Int) (a' b' c' d' x' y' z' t' : Int) (hl : l = [a', b', c', d', x', y', z', t']) : (spE E a b c d x y z t).upd spI.vs l = spE E a' b' c' d' x' y' z' t' := by
  subst hl
  unfold spE Env.upd
  congr 1
  funext k
  match k with
  | 0 | 1 | 2 | 3 | 4 | 5 | 6 | 7 => rfl
  | k + 8 => simp [spI, updI]
theorem dr_ge {x y : Int} (h : 0 < y) : dr x y = x - x / y * y := by
  unfold dr
  rw [if_neg (by omega), Int.fmod_eq_emod_of_nonneg _ (by omega), Int.emod_def, Int.mul_comm]
theorem sp_run (E : Env) (P Q : Int) (lP : Lim 8 P) (lQ : Lim 8 Q) : ∀ (k : Nat) (ln ld hn hd lN lD bN bD : Int), 0 ≤ ln → 0 < ld → 0 < hn → 0 ≤ hd → ln * hd < hn * ld → ld + hd < k → 0 ≤ lN → 0 ≤ lD → 0 ≤ bN → 0 ≤ bD →
    Lim 8 ld → Lim 8 hd → lN * (simS k ln ld hn hd).1 + bN * (simS k ln ld hn hd).2 = P → lD * (simS k ln ld hn hd).1 + bD * (simS k ln ld hn hd).2 = Q →
    ∃ m E', Run (fun _ => True) (noStk.set 0 (spI, spTree)) spTree (spE E ln ld hn hd lN lD bN bD) m E' spLeaf ∧ spN.den E' = P ∧ spD.den E' = Q := by
  intro k
  induction k with
  | zero => intro ln ld hn hd lN lD bN bD _ h2 _ h4 _ h6; exfalso; have : ((0 : Nat) : Int) = 0 := rfl; omega
  | succ k ih =>
    intro ln ld hn hd lN lD bN bD h1 h2 h3 h4 h5 h6 n1 n2 n3 n4 lld lhd hP hQ
    obtain ⟨f, hf⟩ : ∃ f, f = ln / ld := ⟨_, rfl⟩
    have hf0 : 0 ≤ f := by rw [hf]; exact Int.ediv_nonneg h1 (by omega)
    have hr0 : 0 ≤ ln - f * ld := by
      have := Int.ediv_mul_le ln (show ld ≠ 0 by omega)
      rw [← hf] at this
      omega
    have hr1 : ln - f * ld < ld := by
      have := Int.lt_ediv_add_one_mul_self ln h2
      rw [← hf, Int.add_mul, Int.one_mul] at this
      omega
    have eF : spF.den (spE E ln ld hn hd lN lD bN bD) = f := by
      show dq ln ld = f
      rw [dq_pos h2, hf]
    have eT : (BT.lt (.a2 3 (.a2 2 spNx (.var 3)) (.var 2)) (.lit 0)).den (spE E ln ld hn hd lN lD bN bD) = decide (cmpZ ((f + 1) * hd) hn < 0) := by
      show decide (cmpZ ((spF.den _ + 1) * hd) hn < 0) = _
      rw [eF]
    by_cases hc : (f + 1) * hd < hn
    · refine ⟨0, _, .iteT ?_ .leaf, ?_, ?_⟩
      · rw [eT, decide_eq_true_iff, cmpZ_lt hc]; decide
      · rw [simS, ← hf, if_pos hc] at hP
        show (spF.den _ + 1) * lN + bN = P
        rw [eF, ← hP]
        show (f + 1) * lN + bN = lN * (f + 1) + bN * 1
        grind
      · rw [simS, ← hf, if_pos hc] at hQ
        show (spF.den _ + 1) * lD + bD = Q
        rw [eF, ← hQ]
        show (f + 1) * lD + bD = lD * (f + 1) + bD * 1
        grind
    · have hg1 : hn - f * hd ≤ hd := by
        have : (f + 1) * hd = f * hd + hd := by grind
        omega
      have hg0 : 0 < hn - f * hd := by
        have e1 : f * ld * hd ≤ ln * hd := Int.mul_le_mul_of_nonneg_right (by omega) h4
        have e2 : f * hd * ld < hn * ld := by
          have : f * hd * ld = f * ld * hd := by grind
          omega
        have := lt_of_mul e2 h2
        omega
      have hlt2 : hd * (ln - f * ld) < ld * (hn - f * hd) := by grind
      have O := simS_ok k hd (hn - f * hd) ld (ln - f * ld) h4 hg0 h2 hr0 hlt2 (by omega)
      rw [simS, ← hf, if_neg hc] at hP hQ
      have p1 := O.p1
      have p2 := O.p2
      have hP' : (f * lN + bN) * (simS k hd (hn - f * hd) ld (ln - f * ld)).1 + lN * (simS k hd (hn - f * hd) ld (ln - f * ld)).2 = P := by
        rw [← hP]
        show _ = lN * (f * (simS k hd (hn - f * hd) ld (ln - f * ld)).1 + (simS k hd (hn - f * hd) ld (ln - f * ld)).2) + bN * (simS k hd (hn - f * hd) ld (ln - f * ld)).1
        grind
      have hQ' : (f * lD + bD) * (simS k hd (hn - f * hd) ld (ln - f * ld)).1 + lD * (simS k hd (hn - f * hd) ld (ln - f * ld)).2 = Q := by
        rw [← hQ]
        show _ = lD * (f * (simS k hd (hn - f * hd) ld (ln - f * ld)).1 + (simS k hd (hn - f * hd) ld (ln - f * ld)).2) + bD * (simS k hd (hn - f * hd) ld (ln - f * ld)).1
        grind
      have m1 : 0 ≤ f * lN := Int.mul_nonneg hf0 n1
      have m2 : 0 ≤ f * lD := Int.mul_nonneg hf0 n2
      have lg : Lim 8 (hn - f * hd) := lim_le lhd (by omega) hg1
      have lr : Lim 8 (ln - f * ld) := lim_le lld hr0 (by omega)
      obtain ⟨m, E', hR, e1, e2⟩ := ih hd (hn - f * hd) ld (ln - f * ld) (f * lN + bN) (f * lD + bD) lN lD h4 hg0 h2 hr0 hlt2 (by omega) (by omega) (by omega) n1 n2 lg lr hP' hQ'
      have big : ∀ {x y u v S : Int}, 0 ≤ x → 0 ≤ y → 0 < u → 0 < v → x * u + y * v = S → x ≤ S ∧ y ≤ S := by
        intro x y u v S hx hy hu hv hS
        have a1 : x * 1 ≤ x * u := Int.mul_le_mul_of_nonneg_left (by omega) hx
        have a2 : y * 1 ≤ y * v := Int.mul_le_mul_of_nonneg_left (by omega) hy
        have a3 : 0 ≤ x * u := Int.mul_nonneg hx (by omega)
        have a4 : 0 ≤ y * v := Int.mul_nonneg hy (by omega)
        omega
      obtain ⟨b1, b2⟩ := big (by omega) n1 p1 p2 hP'
      obtain ⟨b3, b4⟩ := big (by omega) n2 p1 p2 hQ'
      have hval : spAg.map (IT.den (spE E ln ld hn hd lN lD bN bD)) = [hd, hn - f * hd, ld, ln - f * ld, f * lN + bN, f * lD + bD, lN, lD] := by
        show [hd, hn - spF.den _ * hd, ld, dr ln ld, spF.den _ * lN + bN, spF.den _ * lD + bD, lN, lD] = _
        rw [eF, dr_ge h2, ← hf]
      have hup := spE_upd (E := E) (a := ln) (b := ld) (c := hn) (d := hd) (x := lN) (y := lD) (z := bN) (t := bD) _ _ _ _ _ _ _ _ _ hval
      refine ⟨m + 1, E', .iteF ?_ (.again (I := spI) (T := spTree) (by simp [Stk.set]) ⟨no_asm, trivial, ?_⟩ ?_), e1, e2⟩
      · rw [eT, decide_eq_false_iff_not]
        rcases cmpZ_cases ((f + 1) * hd) hn with ⟨h, e⟩ | ⟨h, e⟩ | ⟨h, e⟩ <;> rw [e] <;> omega
      · rw [hup]
        intro p hp
        simp only [spI, List.mem_cons, List.not_mem_nil, or_false] at hp
        rcases hp with rfl | rfl | rfl | rfl | rfl | rfl | rfl | rfl
        · exact lhd
        · exact lg
        · exact lld
        · exact lr
        · exact lim_le (x := f * lN + bN) lP (by omega) b1
        · exact lim_le (x := f * lD + bD) lQ (by omega) b3
        · exact lim_le lP n1 b2
        · exact lim_le lQ n2 b4
      · rw [hup]; exact hR
def spT : LTree := .loop 0 spI [.var 0, .var 1, .var 2, .var 3, .lit 1, .lit 0, .lit 0, .lit 1] spTree
def simP (a b : Rat) : Rat := simQ ((a.den : Int) + (b.den : Int) + 1).toNat a b
theorem simPos_calls (w : World) (v1 v2 : Value) (a b : Rat) (h1 : IsRat w v1 a) (h2 : IsRat w v2 b) (l1 : LimQ 6 a) (l2 : LimQ 6 b) (h0 : 0 ≤ a.num) (hlt : a < b) :
    Calls Tryz.prog 150 #[v1, v2] w (Ret (fun v w' => IsRat w' v (simP a b)) w) := by
  have da : 0 < (a.den : Int) := by have := a.den_pos; omega
  have db : 0 < (b.den : Int) := by have := b.den_pos; omega
  have hltI := (Rat.lt_iff a b).1 hlt
  have hb0 : 0 < b.num := by
    have e1 : 0 ≤ a.num * (b.den : Int) := Int.mul_nonneg h0 (by omega)
    exact pos_of_mul (show 0 < b.num * (a.den : Int) by omega) da
  obtain ⟨k, hk⟩ : ∃ k, k = ((a.den : Int) + (b.den : Int) + 1).toNat := ⟨_, rfl⟩
  have O := simS_ok k a.num (a.den : Int) b.num (b.den : Int) h0 da hb0 (by omega) hltI (by omega)
  obtain ⟨O1, O2⟩ := O.lim h0 da hb0 (by omega) hltI l1.1 l1.2 l2.1 l2.2
  obtain ⟨P1, P2⟩ := O.parts
  obtain ⟨m, E', hR, e1, e2⟩ := sp_run (qE [a, b]) _ _ (O1.mono (by omega)) (O2.mono (by omega)) k a.num (a.den : Int) b.num (b.den : Int) 1 0 0 1 h0 da hb0 (by omega) hltI (by omega) (by omega) (by omega) (by omega) (by omega) (l1.2.mono (by omega)) (l2.2.mono (by omega))
    (by rw [Int.one_mul, Int.zero_mul, Int.add_zero]) (by rw [Int.one_mul, Int.zero_mul, Int.zero_add])
  refine (loops_sound (Good := fun _ => True) (C := cfgOf tabSP) (L := fun _ => some spI) (E := qE [a, b]) (args := [argS 0, argS 1]) (T := spT) (l := spLeaf) (E' := E') (m := m)
    mixed (fun _ _ => cfg_ok tabSP_ok) no_asm trivial Tryz.func150 (by decide +kernel) (by kernel_rfl) (by decide +kernel) rfl ?_ w [v1, v2] rfl ?_).mono ?_
  · have hval : [IT.var 0, .var 1, .var 2, .var 3, .lit 1, .lit 0, .lit 0, .lit 1].map (IT.den (qE [a, b])) = [a.num, (a.den : Int), b.num, (b.den : Int), 1, 0, 0, 1] := rfl
    refine .loop ⟨no_asm, trivial, ?_⟩ ?_
    · rw [hval]
      intro p hp
      simp only [spI, List.mem_cons, List.not_mem_nil, or_false] at hp
      rcases hp with rfl | rfl | rfl | rfl | rfl | rfl | rfl | rfl
      · exact l1.1.mono (by omega)
      · exact l1.2.mono (by omega)
      · exact l2.1.mono (by omega)
      · exact l2.2.mono (by omega)
      · exact (lim1 (z := 1) (by decide)).mono (by omega)
      · exact lim_zero
      · exact lim_zero
      · exact (lim1 (z := 1) (by decide)).mono (by omega)
    · rw [hval]; exact hR
  · intro i x hx
    match i, hx with
    | 0, hx => injection hx with hx; subst hx; exact ⟨fun _ => 0, v1, rfl, argS_holds h1 l1 rfl rfl⟩
    | 1, hx => injection hx with hx; subst hx; exact ⟨fun _ => 0, v2, rfl, argS_holds h2 l2 rfl rfl⟩
  · rintro e w' ⟨β, u, rfl, hh, ex⟩
    refine ⟨u, rfl, ?_, ex⟩
    have kk := (one_pair.1 hh).1
    rw [e1, e2] at kk
    have hs : simP a b = Rat.divInt (simS k a.num (a.den : Int) b.num (b.den : Int)).1 (simS k a.num (a.den : Int) b.num (b.den : Int)).2 := by
      unfold simP simQ
      rw [← hk]
    show IsPair w' u (simP a b).num ((simP a b).den : Int)
    rw [hs, P1, P2]
    exact kk
end Go.Proofs.YtcgkmnjfkljjlaaGreat
end

section
set_option maxRecDepth 100000
namespace Go.Proofs.YtcgkmnjfkljjlaaGreat
open Go.RowKit
def simV (a b : Rat) : Rat := if 0 ≤ a.num then simP a b else if b.num ≤ 0 then - simP (-b) (-a) else 0
def RetSim (a b : Rat) (w : World) (e : Ending) (w' : World) : Prop := ∃ v, e = .returned (.tuple #[v, .int .i64 0]) ∧ IsRat w' v (simV a b) ∧ Ext w w'
def kSpX (tup : Bool) (p q : IT2) : Con
  | [.val true [.int x _, .int y _], .val true [.int z _, .int t _]], _ => if beq2 x y p && beq2 z t q then some (if tup then .tup [(true, [.int (.var 4) 8, .int (.var 5) 8]), (false, [.n .i64 (.lit 0)])] else .val true [.int (.var 4) 8, .int (.var 5) 8]) else none
  | _, _ => none
theorem kSpX_ok {a b s c d : Rat} {p q : IT2} {tup : Bool} (hp : RepQ (qE [a, b, s]) p c) (hq : RepQ (qE [a, b, s]) q d) (ls : LimQ 8 s) {f : Nat}
    (hc : ∀ (w : World) (v u : Value), IsRat w v c → IsRat w u d → Calls Tryz.prog f #[v, u] w (fun e w' => ∃ x, e = .returned (if tup then .tuple #[x, .int .i64 0] else x) ∧ IsRat w' x s ∧ Ext w w'))
    (hf : ∃ fn, Tryz.prog.funcs[f]? = some fn ∧ fn.name ≠ "runtime.NumGoroutine" ∧ fn.body.isNone = false) : ConOK Tryz.prog (qE [a, b, s]) f (kSpX tup p q) := by
  have rs : RepQ (qE [a, b, s]) (qv 2) s := rep_v (i := 2)
  refine ⟨?_, ?_, hf⟩
  · intro args As r h hG β w vs hv hlen
    unfold kSpX at h
    split at h
    · split at h
      · rename_i x l y m z k t j hm
        rw [Bool.and_eq_true] at hm
        obtain ⟨rfl, rfl⟩ := beq2_spec hm.1
        obtain ⟨rfl, rfl⟩ := beq2_spec hm.2
        injection h with h
        subst h
        obtain ⟨v, u, rfl, h1, h2⟩ := args2 hv hlen
        have p1 := (one_pair.1 h1).1
        have p2 := (one_pair.1 h2).1
        rw [hp.1, hp.2] at p1
        rw [hq.1, hq.2] at p2
        refine (hc w v u p1 p2).mono ?_
        rintro e w' ⟨x, rfl, hI, ex⟩
        have one : one (qE [a, b, s]) w' (true, [.int (.var 4) 8, .int (.var 5) 8]) x := by
          refine one_pair.2 ⟨?_, ?_, ?_⟩
          · show IsPair w' x ((qv 2).1.den _) ((qv 2).2.den _)
            rw [rs.1, rs.2]; exact hI
          · show Lim 8 ((qv 2).1.den _)
            rw [rs.1]; exact ls.1
          · show Lim 8 ((qv 2).2.den _)
            rw [rs.2]; exact ls.2
        cases tup with
        | false => exact ⟨x, rfl, one, ex⟩
        | true => exact ⟨_, rfl, ⟨[x, .int .i64 0], rfl, x, _, rfl, one, _, _, rfl, one_num.2 rfl, rfl⟩, ex⟩
      · cases h
    · cases h
  · intro args As r h x off
    unfold kSpX at h
    split at h
    · split at h
      · injection h with h; subst h; cases tup <;> (intro e; cases e)
      · cases h
    · cases h
def kVlC : Con
  | [.val true [.int x l, .int y m]], _ => if canon x y && (ql l && ql m) then some (.val false [.b (.lit true)]) else none
  | _, _ => none
theorem kVlC_ok {E : Env} (hE : QEnv E) : ConOK Tryz.prog E 147 kVlC := by
  refine ⟨?_, ?_, ⟨_, Tryz.func147, by decide +kernel, by kernel_rfl⟩⟩
  · intro args As r h hG β w vs hv hlen
    unfold kVlC at h
    split at h
    · split at h
      · rename_i hm
        simp only [ql, Bool.and_eq_true, decide_eq_true_iff] at hm
        obtain ⟨c1, b1, b2⟩ := hm
        injection h with h
        subst h
        obtain ⟨v, rfl, h1⟩ := args1 hv hlen
        obtain ⟨q, _, e1, e2, hq, m1, m2⟩ := one_ratQ hE c1 h1
        refine (validP_calls w v q.num (q.den : Int) hq (m1.mono b1) (m2.mono b2)).mono ?_
        rintro e w' ⟨rfl, ex⟩
        refine ⟨_, rfl, one_bool.2 ?_, ex⟩
        have r' : Nat.gcd q.num.natAbs (q.den : Int).natAbs = 1 := q.reduced
        rw [r', decide_eq_true (by have := q.den_pos; omega)]
        rfl
      · cases h
    · cases h
  · intro args As r h x off
    unfold kVlC at h
    split at h
    · split at h
      · injection h with h; subst h; intro e; cases e
      · cases h
    · cases h
def cmpG (c : Bool) : BT × Bool := (.le (.lit 0) (qcmp (qv 0) (qv 1)), c)
def saG (c : Bool) : BT × Bool := (.le (.lit 0) (.a2 3 (.var 0) (.lit 0)), c)
def sbL (c : Bool) : BT × Bool := (.le (.a2 3 (.var 2) (.lit 0)) (.lit 0), c)
theorem sg_nonneg (n : Int) : (0 ≤ cmpZ n 0) ↔ 0 ≤ n := by rcases cmpZ_cases n 0 with ⟨h, e⟩ | ⟨h, e⟩ | ⟨h, e⟩ <;> rw [e] <;> omega
theorem cmpG_ok {a b : Rat} {l : List Rat} : (cmpG false).1.den (qE (a :: b :: l)) = decide (¬ a < b) := by
  have ra : RepQ (qE (a :: b :: l)) (qv 0) a := rep_v (i := 0)
  have rb : RepQ (qE (a :: b :: l)) (qv 1) b := rep_v (i := 1)
  have rc := rep_cmp ra rb
  show decide (0 ≤ (qcmp (qv 0) (qv 1)).den (qE (a :: b :: l))) = _
  rw [rc]
  rcases sgQ_cases (a - b) with ⟨k, e⟩ | ⟨k, e⟩ | ⟨k, e⟩ <;> rw [e]
  · rw [decide_eq_false (by decide), decide_eq_false (by grind)]
  · rw [decide_eq_true (by decide), decide_eq_true (by grind)]
  · rw [decide_eq_true (by decide), decide_eq_true (by grind)]
theorem simP_lim {a b : Rat} (l1 : LimQ 6 a) (l2 : LimQ 6 b) (h0 : 0 ≤ a.num) (hlt : a < b) : LimQ 7 (simP a b) := by
  have da : 0 < (a.den : Int) := by have := a.den_pos; omega
  have db : 0 < (b.den : Int) := by have := b.den_pos; omega
  have hltI := (Rat.lt_iff a b).1 hlt
  have hb0 : 0 < b.num := by
    have e1 : 0 ≤ a.num * (b.den : Int) := Int.mul_nonneg h0 (by omega)
    exact pos_of_mul (show 0 < b.num * (a.den : Int) by omega) da
  have O := simS_ok ((a.den : Int) + (b.den : Int) + 1).toNat a.num (a.den : Int) b.num (b.den : Int) h0 da hb0 (by omega) hltI (by omega)
  obtain ⟨O1, O2⟩ := O.lim h0 da hb0 (by omega) hltI l1.1 l1.2 l2.1 l2.2
  obtain ⟨P1, P2⟩ := O.parts
  unfold simP simQ
  exact ⟨by rw [P1]; exact O1, by rw [P2]; exact O2⟩
end Go.Proofs.YtcgkmnjfkljjlaaGreat
end

section
set_option maxRecDepth 100000
namespace Go.Proofs.YtcgkmnjfkljjlaaGreat
open Go.RowKit
theorem sg_le (n : Int) : (cmpZ n 0 ≤ 0) ↔ n ≤ 0 := by rcases cmpZ_cases n 0 with ⟨h, e⟩ | ⟨h, e⟩ | ⟨h, e⟩ <;> rw [e] <;> omega
theorem args2S {E : Env} {w : World} {v1 v2 : Value} {a b : Rat} (h1 : IsRat w v1 a) (h2 : IsRat w v2 b) (l1 : LimQ 6 a) (l2 : LimQ 6 b) (e0 : E.i 0 = a.num) (e1 : E.i 1 = (a.den : Int)) (e2 : E.i 2 = b.num) (e3 : E.i 3 = (b.den : Int)) :
    ∀ (i : Nat) (x : AV), [argS 0, argS 1][i]? = some x → ∃ β v, [v1, v2][i]? = some v ∧ x.holds E β w v := by
  intro i x hx
  match i, hx with
  | 0, hx => injection hx with hx; subst hx; exact ⟨fun _ => 0, v1, rfl, argS_holds h1 l1 e0 e1⟩
  | 1, hx => injection hx with hx; subst hx; exact ⟨fun _ => 0, v2, rfl, argS_holds h2 l2 e2 e3⟩
theorem open_sim {E : Env} {β : Nat → Nat} {w' : World} {v : Value} {p : IT2} {l m : Nat} {z : Int} {q : Rat} (hp : RepQ E p q) (hx : (AV.tup [(true, [.int p.1 l, .int p.2 m]), (false, [.n .i64 (.lit z)])]).holds E β w' v) : ∃ x, v = .tuple #[x, .int .i64 z] ∧ IsRat w' x q := by
  obtain ⟨vs, rfl, u1, r1, rfl, k1, u2, r2, rfl, k2, hn⟩ := hx
  simp only [tupAll] at hn
  subst hn
  have k2' := one_num.1 k2
  subst k2'
  have k := (one_pair.1 k1).1
  rw [hp.1, hp.2] at k
  exact ⟨u1, rfl, k⟩
theorem prog_sim_pos (w : World) (v1 v2 : Value) (a b : Rat) (h1 : IsRat w v1 a) (h2 : IsRat w v2 b) (l1 : LimQ 6 a) (l2 : LimQ 6 b) (h0 : 0 ≤ a.num) (hlt : a < b) :
    Calls Tryz.prog 86 #[v1, v2] w (RetSim a b w) := by
  refine (fun_sound (C := cfgOf ((150, kSpX false (qv 0) (qv 1)) :: (147, kVlC) :: tabT)) (E := qE [a, b, simP a b]) (G := [cmpG false, saG true]) (args := [argS 0, argS 1]) (T := .leaf [(true, [.int (qv 2).1 8, .int (qv 2).2 8]), (false, [.n .i64 (.lit 0)])])
    mixed (cfg_ok (.cons (kSpX_ok (tup := false) (c := a) (d := b) rep_v rep_v ⟨(simP_lim l1 l2 h0 hlt).1.mono (by omega), (simP_lim l1 l2 h0 hlt).2.mono (by omega)⟩ (fun w v u hv hu => (simPos_calls w v u _ _ hv hu l1 l2 h0 hlt).mono (fun e w' ⟨x, h1, h2, h3⟩ => ⟨x, h1, h2, h3⟩)) ⟨_, Tryz.func150, by decide +kernel, by kernel_rfl⟩) (.cons (kVlC_ok (qE_ok _)) (tabT_ok (qE_ok _))))) ?_ Tryz.func86 (by decide +kernel) (by kernel_rfl) (by decide +kernel) rfl w [v1, v2] rfl (args2S h1 h2 l1 l2 rfl rfl rfl rfl)).mono ?_
  · intro p hp
    simp only [List.mem_cons, List.not_mem_nil, or_false] at hp
    rcases hp with rfl | rfl
    · exact cmpG_ok.trans (decide_eq_false (fun h => h hlt))
    · exact decide_eq_true ((sg_nonneg a.num).2 h0)
  · rintro e w' ⟨β, u, rfl, hh, ex⟩
    have rs : RepQ (qE [a, b, simP a b]) (qv 2) (simP a b) := rep_v (i := 2)
    obtain ⟨x, rfl, hI⟩ := open_sim rs hh
    refine ⟨x, rfl, ?_, ex⟩
    unfold simV
    rw [if_pos h0]
    exact hI
theorem prog_sim_zero (w : World) (v1 v2 : Value) (a b : Rat) (h1 : IsRat w v1 a) (h2 : IsRat w v2 b) (l1 : LimQ 6 a) (l2 : LimQ 6 b) (h0 : ¬ 0 ≤ a.num) (hb : ¬ b.num ≤ 0) (hlt : a < b) :
    Calls Tryz.prog 86 #[v1, v2] w (RetSim a b w) := by
  refine (fun_sound (C := cfgOf ((147, kVlC) :: tabT)) (E := qE [a, b, 0]) (G := [cmpG false, saG false, sbL false]) (args := [argS 0, argS 1]) (T := .leaf [(true, [.int ((IT.lit 0, IT.lit 1)).1 3, .int ((IT.lit 0, IT.lit 1)).2 3]), (false, [.n .i64 (.lit 0)])])
    mixed (cfg_ok (.cons (kVlC_ok (qE_ok _)) (tabT_ok (qE_ok _)))) ?_ Tryz.func86 (by decide +kernel) (by kernel_rfl) (by decide +kernel) rfl w [v1, v2] rfl (args2S h1 h2 l1 l2 rfl rfl rfl rfl)).mono ?_
  · intro p hp
    simp only [List.mem_cons, List.not_mem_nil, or_false] at hp
    rcases hp with rfl | rfl | rfl
    · exact cmpG_ok.trans (decide_eq_false (fun h => h hlt))
    · exact decide_eq_false (fun h => h0 ((sg_nonneg a.num).1 h))
    · exact decide_eq_false (fun h => by have := (sg_le b.num).1 h; omega)
  · rintro e w' ⟨β, u, rfl, hh, ex⟩
    have rs : RepQ (qE [a, b, 0]) (qv 2) (0) := rep_v (i := 2)
    have rz : RepQ (qE [a, b, 0]) (.lit 0, .lit 1) (0 : Rat) := ⟨rfl, rfl⟩
    obtain ⟨x, rfl, hI⟩ := open_sim rz hh
    refine ⟨x, rfl, ?_, ex⟩
    unfold simV
    rw [if_neg h0, if_neg hb]
    exact hI
end Go.Proofs.YtcgkmnjfkljjlaaGreat
end

section
set_option maxRecDepth 100000
namespace Go.Proofs.YtcgkmnjfkljjlaaGreat
open Go.RowKit
def tq : List Rat → List Chunk → Bool
  | [], [] => true
  | q :: qs, .int x _ :: .int y _ :: cs => x.cl == some q.num && (y.cl == some (q.den : Int) && tq qs cs)
  | _, _ => false
theorem tq_holds {E : Env} {w : World} : ∀ {qs : List Rat} {cs : List Chunk} {vs : List Value}, tq qs cs = true → chunks E w cs vs → RatsQ w vs qs
  | [], cs, vs, h, hc => by
    unfold tq at h
    split at h
    · exact hc
    · contradiction
    · cases h
  | q :: qs, cs, vs, h, hc => by
    unfold tq at h
    split at h
    · contradiction
    · rename_i q' qs' x l y m cs' e
      cases e
      simp only [Bool.and_eq_true, beq_iff_eq] at h
      obtain ⟨h1, h2, h3⟩ := h
      obtain ⟨x', r, rfl, k1, k2⟩ := (two_chunks (A := (x, y)) (a := q) ⟨IT.cl_spec h1, IT.cl_spec h2⟩).1 hc
      exact ⟨x', r, rfl, k1.1, tq_holds h3 k2⟩
    · cases h
def cqs : List (List Rat) → List AV → Bool
  | [], [] => true
  | l :: ls, .val true cs :: xs => tq l cs && cqs ls xs
  | _, _ => false
def ArgsQ (w : World) : List Value → List (List Rat) → Prop
  | [], [] => True
  | v :: vs, l :: ls => IsQs w v l ∧ ArgsQ w vs ls
  | _, _ => False
theorem cqs_holds {E : Env} {β : Nat → Nat} {w : World} : ∀ {ls : List (List Rat)} {args : List AV} {vs : List Value}, cqs ls args = true → (∀ (i : Nat) (x : AV), args[i]? = some x → ∃ v, vs[i]? = some v ∧ x.holds E β w v) → vs.length = args.length → ArgsQ w vs ls
  | [], args, vs, h, hv, hl => by
    unfold cqs at h
    split at h
    · match vs, hl with
      | [], _ => exact trivial
    · contradiction
    · cases h
  | l :: ls, args, vs, h, hv, hl => by
    unfold cqs at h
    split at h
    · contradiction
    · rename_i l' ls' cs xs e
      cases e
      rw [Bool.and_eq_true] at h
      obtain ⟨v, h1, h2⟩ := hv 0 _ rfl
      match vs, hl, h1 with
      | u :: us, hl, h1 =>
        injection h1 with h1
        subst h1
        obtain ⟨ys, rfl, hy⟩ := h2
        exact ⟨⟨ys, rfl, tq_holds h.1 hy⟩, cqs_holds h.2 (fun i x hx => hv (i + 1) x hx) (by simpa using hl)⟩
    · cases h
theorem knownL {E : Env} {f : Nat} {ls : List (List Rat)} {r : AV} (np : ∀ x off, r ≠ .ptr x off) (h : ∀ (w : World) (vs : List Value), ArgsQ w vs ls → Calls Tryz.prog f vs.toArray w fun e w' => ∃ x, e = .returned x ∧ (∀ β, r.holds E β w' x) ∧ Ext w w') : KnownR E f (cqs ls) r :=
  ⟨fun _ hc _ w vs hv hl => h w vs (cqs_holds hc hv hl), np⟩
theorem qs_rat {w : World} {v : Value} {q : Rat} (h : IsQs w v [q]) : IsRat w v q := by
  obtain ⟨vs, rfl, x, r, rfl, h1, rfl⟩ := h
  rw [List.append_nil]
  exact h1
theorem qs_root {w : World} {v : Value} {a b c : Rat} (h : IsQs w v [a, b, c]) : IsRoot w v a b c := by
  obtain ⟨vs, rfl, h⟩ := h
  exact rats3 h
theorem argsQ1 {w : World} {vs : List Value} {l : List Rat} (h : ArgsQ w vs [l]) : ∃ v, vs = [v] ∧ IsQs w v l := by
  match vs, h with
  | [v], h => exact ⟨v, rfl, h.1⟩
theorem argsQ2 {w : World} {vs : List Value} {l m : List Rat} (h : ArgsQ w vs [l, m]) : ∃ v u, vs = [v, u] ∧ IsQs w v l ∧ IsQs w u m := by
  match vs, h with
  | [v, u], h => exact ⟨v, u, rfl, h.1, h.2.1⟩
theorem argsQ4 {w : World} {vs : List Value} {l m n k : List Rat} (h : ArgsQ w vs [l, m, n, k]) : ∃ v u x y, vs = [v, u, x, y] ∧ IsQs w v l ∧ IsQs w u m ∧ IsQs w x n ∧ IsQs w y k := by
  match vs, h with
  | [v, u, x, y], h => exact ⟨v, u, x, y, rfl, h.1, h.2.1, h.2.2.1, h.2.2.2.1⟩
def foldC : Chunk → Chunk
  | .int t l => .int t.fold l
  | .n k t => .n k t.fold
  | c => c
def foldAV : AV → AV
  | .val b cs => .val b (cs.map foldC)
  | .tup l => .tup (l.map fun p => (p.1, p.2.map foldC))
  | x => x
theorem foldC_holds {E : Env} {w : World} {c : Chunk} {vs : List Value} (h : c.holds E w vs) : (foldC c).holds E w vs := by
  cases c with
  | int t l =>
    obtain ⟨x, y, rfl, h1, h2⟩ := h
    exact ⟨x, y, rfl, by rw [IT.fold_den]; exact h1, by rw [IT.fold_den]; exact h2⟩
  | n k t =>
    show vs = [.int k (t.fold.den E)]
    rw [IT.fold_den]
    exact h
  | _ => exact h
theorem foldCs_holds {E : Env} {w : World} : ∀ {cs : List Chunk} {vs : List Value}, chunks E w cs vs → chunks E w (cs.map foldC) vs
  | [], _, h => h
  | _ :: _, _, ⟨l, r, e, h1, h2⟩ => ⟨l, r, e, foldC_holds h1, foldCs_holds h2⟩
theorem foldO_holds {E : Env} {w : World} {b : Bool} {cs : List Chunk} {v : Value} (h : one E w (b, cs) v) : one E w (b, cs.map foldC) v := by
  cases b with
  | true =>
    obtain ⟨vs, rfl, h1⟩ := h
    exact ⟨vs, rfl, foldCs_holds h1⟩
  | false => exact ⟨foldCs_holds h.1, h.2⟩
theorem foldT_holds {E : Env} {w : World} : ∀ {l : List (Bool × List Chunk)} {vs : List Value}, tupAll E w l vs → tupAll E w (l.map fun p => (p.1, p.2.map foldC)) vs
  | [], _, h => h
  | _ :: _, _, ⟨v, r, e, h1, h2⟩ => ⟨v, r, e, foldO_holds h1, foldT_holds h2⟩
theorem foldAV_holds {E : Env} {β : Nat → Nat} {w : World} {x : AV} {v : Value} (h : x.holds E β w v) : (foldAV x).holds E β w v := by
  cases x with
  | val b cs => exact foldO_holds h
  | tup l =>
    obtain ⟨vs, rfl, h1⟩ := h
    exact ⟨vs, rfl, foldT_holds h1⟩
  | ptr x off => exact h
  | bad => exact h
def kFold (k : Con) : Con := fun args G => (k args G).map foldAV
theorem kFold_ok {P : Program} {E : Env} {f : Nat} {k : Con} (h : ConOK P E f k) : ConOK P E f (kFold k) := by
  refine ⟨?_, ?_, h.body⟩
  · intro args G r hr hG β w vs hv hl
    obtain ⟨y, hy, rfl⟩ := Option.map_eq_some_iff.1 hr
    refine (h.calls args G y hy hG β w vs hv hl).mono ?_
    rintro e w' ⟨v, rfl, hh, ex⟩
    exact ⟨v, rfl, foldAV_holds hh, ex⟩
  · intro args G r hr x off e
    obtain ⟨y, hy, rfl⟩ := Option.map_eq_some_iff.1 hr
    have := h.nptr args G y hy x off
    cases y with
    | ptr a b => exact this e
    | _ => cases e
def limB (n : Nat) (q : Rat) : Bool := decide ((limbs q.num.natAbs).length ≤ n) && decide ((limbs (q.den : Int).natAbs).length ≤ n)
theorem limB_ok {n : Nat} {q : Rat} (h : limB n q = true) : LimQ n q := by
  unfold limB at h
  rw [Bool.and_eq_true, decide_eq_true_iff, decide_eq_true_iff] at h
  exact h
def limB3 (n : Nat) (a b c : Rat) : Bool := limB n a && (limB n b && limB n c)
theorem limB3_ok {n : Nat} {a b c : Rat} (h : limB3 n a b c = true) : LimR n a b c := by
  unfold limB3 at h
  rw [Bool.and_eq_true, Bool.and_eq_true] at h
  exact ⟨limB_ok h.1, limB_ok h.2.1, limB_ok h.2.2⟩
theorem rd_of {b c : Rat} (h : Rdb b c = true) : Rd b c := Rdb_iff.1 h
def rSim (q : Rat) : AV := .tup [(true, [.int (.lit q.num) 6, .int (.lit (q.den : Int)) 6]), (false, [.n .i64 (.lit 0)])]
theorem sim_known {E : Env} {a b q : Rat} (h : ∀ (w : World) (v1 v2 : Value), IsRat w v1 a → IsRat w v2 b → Calls Tryz.prog 86 #[v1, v2] w (RetSim a b w)) (hq : simV a b = q) (hl : LimQ 6 q) : KnownR E 86 (cqs [[a], [b]]) (rSim q) := by
  refine knownL (fun x off e => by cases e) fun w vs hv => ?_
  obtain ⟨v, u, rfl, h1, h2⟩ := argsQ2 hv
  refine (h w v u (qs_rat h1) (qs_rat h2)).mono ?_
  rintro e w' ⟨x, rfl, hx, ex⟩
  rw [hq] at hx
  exact ⟨_, rfl, fun β => ⟨[x, .int .i64 0], rfl, _, _, rfl, one_pair.2 ⟨hx, hl.1, hl.2⟩, _, _, rfl, one_num.2 rfl, rfl⟩, ex⟩
theorem cmp_known {E : Env} {a b c a' b' c' : Rat} {z : Int} (h1 : Rdb b c = true) (h2 : Rdb b' c' = true) (l : LimR 9 a b c) (l' : LimR 9 a' b' c') (hz : cmR a b c a' b' c' = z) : KnownR E 29 (cqs [[a, b, c], [a', b', c']]) (rNq z) := by
  refine knownL (fun x off e => by cases e) fun w vs hv => ?_
  obtain ⟨v, u, rfl, k1, k2⟩ := argsQ2 hv
  refine (radCmp_calls w v u a b c a' b' c' (rd_of h1) (rd_of h2) (qs_root k1) (qs_root k2) l l').mono ?_
  rintro e w' ⟨rfl, ex⟩
  exact ⟨_, rfl, fun β => one_num.2 (by rw [hz]; rfl), ex⟩
theorem cmpRat_known {E : Env} {a b c d : Rat} {z : Int} (h1 : Rdb b c = true) (l : LimR 9 a b c) (l' : LimQ 9 d) (hz : cmR a b c d 0 0 = z) : KnownR E 31 (cqs [[a, b, c], [d]]) (rNq z) := by
  refine knownL (fun x off e => by cases e) fun w vs hv => ?_
  obtain ⟨v, u, rfl, k1, k2⟩ := argsQ2 hv
  refine (radCmpRat_calls w v u a b c d (rd_of h1) (qs_root k1) (qs_rat k2) l l').mono ?_
  rintro e w' ⟨rfl, ex⟩
  exact ⟨_, rfl, fun β => one_num.2 (by rw [hz]; rfl), ex⟩
theorem valid_known {E : Env} {a b c : Rat} (h1 : Rdb b c = true) (l : LimR 9 a b c) : KnownR E 83 (cqs [[a, b, c]]) (rBl true) := by
  refine knownL (fun x off e => by cases e) fun w vs hv => ?_
  obtain ⟨v, rfl, k1⟩ := argsQ1 hv
  refine (p_valid (qs_root k1) (l.mono (by omega))).mono ?_
  rintro e w' ⟨rfl, ex⟩
  exact ⟨_, rfl, fun β => one_bool.2 (by rw [h1]; rfl), ex⟩
noncomputable def tabBw (a b : List Rat) (lo hi q : Rat) (x y : Int) : List (Nat × Con) :=
  (83, kKq (cqs [a]) (rBl true) (kKq (cqs [b]) (rBl true) kNoQ)) :: (29, kKq (cqs [a, b]) (rNq (-1)) kNoQ) :: (86, kKq (cqs [[lo], [hi]]) (rSim q) kNoQ) ::
  (31, kKq (cqs [a, [q]]) (rNq x) (kKq (cqs [b, [q]]) (rNq y) kNoQ)) :: (80, kRNg true) :: (60, kRSc false) :: (53, kRFl) :: (151, kFold kMake) :: []
noncomputable def iBw1 : List (Nat × Func) := [(76, Tryz.f76), (85, Tryz.f85)]
noncomputable def iBw2 : List (Nat × Func) := [(87, Tryz.f87)]
noncomputable def cBw (tab : List (Nat × Con)) : Cfg := cfgI (cfgI (cR tab) (cR tab) iBw1) (cfgI (cR tab) (cR tab) iBw1) iBw2
theorem cBw_ok {E : Env} (hE : QEnv E) {tab : List (Nat × Con)} (h : TabOK Tryz.prog E tab) : CfgOK Tryz.prog E (cBw tab) := by
  have h0 := cR_ok hE h
  have h1 : CfgOK Tryz.prog E (cfgI (cR tab) (cR tab) iBw1) := cfgI_ok mixed h0 h0 (fun _ => trivial) (.cons Tryz.func76 (by decide +kernel) (by kernel_rfl) <| .cons Tryz.func85 (by decide +kernel) (by kernel_rfl) .nil)
  exact cfgI_ok mixed h1 h1 (fun _ => trivial) (.cons Tryz.func87 (by decide +kernel) (by kernel_rfl) .nil)
def lq (q : Rat) : IT2 := (.lit q.num, .lit (q.den : Int))
theorem lq_rep {E : Env} {q : Rat} : RepQ E (lq q) q := ⟨rfl, rfl⟩
def aL3 (a b c : Rat) : AV := .val true (rt (lq a) (lq b) (lq c) 9)
def lfSim (q : Rat) : Tree := .leaf [(true, [.int (.lit q.num) 6, .int (.lit (q.den : Int)) 6]), (false, [.n .i64 (.lit 0)])]
theorem lfSim_out {E E' : Env} {β β' : Nat → Nat} {w : World} {q : Rat} {v : Value} (h : (toAV ((lfSim q).pick E)).holds E β w v) : (rSim q).holds E' β' w v := by
  obtain ⟨vs, rfl, v1, r1, rfl, g1, v2, r2, rfl, g2, g3⟩ := h
  simp only [tupAll] at g3
  subst g3
  have k2 : v2 = .int .i64 0 := one_num.1 g2
  have k1 : IsPair w v1 q.num (q.den : Int) ∧ Lim 6 q.num ∧ Lim 6 (q.den : Int) := one_pair.1 g1
  subst k2
  exact ⟨_, rfl, _, _, rfl, one_pair.2 k1, _, _, rfl, one_num.2 rfl, rfl⟩
theorem between_known {E : Env} {a b c a' b' c' lo hi q : Rat} {x y : Int} (hT : funE (cBw (tabBw [a, b, c] [a', b', c'] lo hi q x y)) Tryz.f37 [] [aL3 a b c, aL3 a' b' c'] = some (lfSim q)) (h1 : Rdb b c = true) (h2 : Rdb b' c' = true) (l : limB3 9 a b c = true) (l' : limB3 9 a' b' c' = true) (l6 : limB 6 q = true) (l9 : limB 9 q = true)
    (hs : ∀ (w : World) (v1 v2 : Value), IsRat w v1 lo → IsRat w v2 hi → Calls Tryz.prog 86 #[v1, v2] w (RetSim lo hi w)) (hq : simV lo hi = q) (e0 : cmR a b c a' b' c' = -1) (ex : cmR a b c q 0 0 = x) (ey : cmR a' b' c' q 0 0 = y) : KnownR E 37 (cqs [[a, b, c], [a', b', c']]) (rSim q) := by
  refine knownL (fun x off e => by cases e) fun w vs hv => ?_
  obtain ⟨v, u, rfl, k1, k2⟩ := argsQ2 hv
  have hE := qE_ok []
  have hTab : TabOK Tryz.prog (qE []) (tabBw [a, b, c] [a', b', c'] lo hi q x y) := by
    refine .cons (kKr_ok (valid_known h1 (limB3_ok l)) (kKr_ok (valid_known h2 (limB3_ok l')) (kNoQ_ok ⟨_, Tryz.func83, by decide +kernel, by kernel_rfl⟩))) <|
      .cons (kKr_ok (cmp_known h1 h2 (limB3_ok l) (limB3_ok l') e0) (kNoQ_ok ⟨_, Tryz.func29, by decide +kernel, by kernel_rfl⟩)) <|
      .cons (kKr_ok (sim_known hs hq (limB_ok l6)) (kNoQ_ok ⟨_, Tryz.func86, by decide +kernel, by kernel_rfl⟩)) <|
      .cons (kKr_ok (cmpRat_known h1 (limB3_ok l) (limB_ok l9) ex) (kKr_ok (cmpRat_known h2 (limB3_ok l') (limB_ok l9) ey) (kNoQ_ok ⟨_, Tryz.func31, by decide +kernel, by kernel_rfl⟩))) <|
      .cons (kRNg_ok hE (fun w v a b c h hr hl => p_neg (h rfl) hr hl) ⟨_, Tryz.func80, by decide +kernel, by kernel_rfl⟩) <|
      .cons (kRSc_ok hE (fun w v u a b c k _ hr hu hl lk => p_scale hr hu hl lk) ⟨_, Tryz.func60, by decide +kernel, by kernel_rfl⟩) <|
      .cons (kRFl_ok hE (fun _ _ _ _ _ R h l => p_floor4 R h l) (fun _ _ _ _ _ R h l => p_floor50 R h l) (fun _ _ _ _ _ R h l => p_floor R h l) ⟨_, Tryz.func53, by decide +kernel, by kernel_rfl⟩) <|
      .cons (kFold_ok (kMake_ok (fun w v u a b h k l1 l2 => make_calls w v u a b h k l1 l2) ⟨_, Tryz.func151, by decide +kernel, by kernel_rfl⟩)) .nil
  refine (fun_sound mixed (cBw_ok hE hTab) no_asm Tryz.func37 (by decide +kernel) hT (show 2 ≤ Tryz.f37.ntmps by decide +kernel) rfl w [v, u] rfl ?_).mono ?_
  · intro i z hz
    match i, hz with
    | 0, hz => injection hz with hz; subst hz; exact ⟨fun _ => 0, v, rfl, (one_root lq_rep lq_rep lq_rep).2 ⟨qs_root k1, limB3_ok l⟩⟩
    | 1, hz => injection hz with hz; subst hz; exact ⟨fun _ => 0, u, rfl, (one_root lq_rep lq_rep lq_rep).2 ⟨qs_root k2, limB3_ok l'⟩⟩
  · rintro e w' ⟨β, z, rfl, hh, ex⟩
    exact ⟨z, rfl, fun β => lfSim_out hh, ex⟩
theorem bw_walk1 : funE (cBw (tabBw [0, 1, 2] [0, 1, 3] (mkRat 92681 65536) (mkRat 14189 8192) (mkRat 3 2) (-1) 1)) Tryz.f37 [] [aL3 0 1 2, aL3 0 1 3] = some (lfSim (mkRat 3 2)) := by kernel_rfl
theorem bw_walk2 : funE (cBw (tabBw [mkRat (-5) 2, 0, 0] [0, 1, 2] (mkRat (-5) 2) (mkRat 46341 32768) 0 (-1) 1)) Tryz.f37 [] [aL3 (mkRat (-5) 2) 0 0, aL3 0 1 2] = some (lfSim 0) := by kernel_rfl
theorem between1 {E : Env} : KnownR E 37 (cqs [[0, 1, 2], [0, 1, 3]]) (rSim (mkRat 3 2)) :=
  between_known bw_walk1 (by decide +kernel) (by decide +kernel) (by decide +kernel) (by decide +kernel) (by decide +kernel) (by decide +kernel) (fun w v1 v2 h1 h2 => prog_sim_pos w v1 v2 _ _ h1 h2 (limB_ok (by decide +kernel)) (limB_ok (by decide +kernel)) (by decide +kernel) (by decide +kernel)) (by decide +kernel) (by decide +kernel) (by decide +kernel) (by decide +kernel)
theorem between2 {E : Env} : KnownR E 37 (cqs [[mkRat (-5) 2, 0, 0], [0, 1, 2]]) (rSim 0) :=
  between_known bw_walk2 (by decide +kernel) (by decide +kernel) (by decide +kernel) (by decide +kernel) (by decide +kernel) (by decide +kernel) (fun w v1 v2 h1 h2 => prog_sim_zero w v1 v2 _ _ h1 h2 (limB_ok (by decide +kernel)) (limB_ok (by decide +kernel)) (by decide +kernel) (by decide +kernel) (by decide +kernel)) (by decide +kernel) (by decide +kernel) (by decide +kernel) (by decide +kernel)
theorem sum_known {E : Env} : KnownR E 35 (cqs [[25], [4], [1], [2]]) (.tup [(false, [.n .i64 (.lit 0)]), (false, [.n .i64 (.lit 0)])]) := by
  refine knownL (fun x off e => by cases e) fun w vs hv => ?_
  obtain ⟨v1, v2, v3, v4, rfl, k1, k2, k3, k4⟩ := argsQ4 hv
  have l : ∀ {q : Rat}, limB 2 q = true → LimQ 2 q := limB_ok
  have key := qsum_calls true w v1 v2 v3 v4 25 4 1 2 (qs_rat k1) (qs_rat k2) (qs_rat k3) (qs_rat k4) (l (by decide +kernel)) (l (by decide +kernel)) (l (by decide +kernel)) (l (by decide +kernel))
  have e : suR 25 4 1 2 = (0, 0) := by decide +kernel
  rw [e] at key
  refine key.mono ?_
  rintro e w' ⟨rfl, ex⟩
  exact ⟨_, rfl, fun β => ⟨[_, _], rfl, _, _, rfl, one_num.2 rfl, _, _, rfl, one_num.2 rfl, rfl⟩, ex⟩
theorem sign_known {E : Env} {A B C D M N : Rat} {z : Int} (l : ([A, B, C, D, M, N].all (limB 40)) = true) (hz : qsg A B C D M N = z) : KnownR E 19 (cqs [[A, B, C, D, M, N]]) (rNq z) := by
  refine knownL (fun x off e => by cases e) fun w vs hv => ?_
  obtain ⟨v, rfl, k1⟩ := argsQ1 hv
  refine (radSign_calls w v _ _ _ _ _ _ k1 (fun q hq => limB_ok (List.all_eq_true.1 l q hq))).mono ?_
  rintro e w' ⟨rfl, ex⟩
  exact ⟨_, rfl, fun β => one_num.2 (by rw [hz]; rfl), ex⟩
theorem equal_known {E : Env} {a b c a' b' c' : Rat} {z : Bool} (h1 : Rdb b c = true) (h2 : Rdb b' c' = true) (l : LimR 9 a b c) (l' : LimR 9 a' b' c') (hz : (cmR a b c a' b' c' == 0) = z) : KnownR E 30 (cqs [[a, b, c], [a', b', c']]) (rBl z) := by
  refine knownL (fun x off e => by cases e) fun w vs hv => ?_
  obtain ⟨v, u, rfl, k1, k2⟩ := argsQ2 hv
  refine (radEqual_calls w v u a b c a' b' c' (rd_of h1) (rd_of h2) (qs_root k1) (qs_root k2) l l').mono ?_
  rintro e w' ⟨rfl, ex⟩
  exact ⟨_, rfl, fun β => one_bool.2 (by rw [hz]; rfl), ex⟩
noncomputable def tabAw5 : List (Nat × Con) :=
  (35, kKq (cqs [[25], [4], [1], [2]]) (.tup [(false, [.n .i64 (.lit 0)]), (false, [.n .i64 (.lit 0)])]) kNoQ) ::
  (37, kKq (cqs [[0, 1, 2], [0, 1, 3]]) (rSim (mkRat 3 2)) (kKq (cqs [[mkRat (-5) 2, 0, 0], [0, 1, 2]]) (rSim 0) kNoQ)) ::
  (19, kKq (cqs [[-3, 1, 1, 0, 2, 3]]) (rNq 1) (kKq (cqs [[5, 0, 0, -2, 2, 3]]) (rNq 1) kNoQ)) ::
  (30, kKq (cqs [[0, 1, 8], [0, 2, 2]]) (rBl true) kNoQ) :: tabT
theorem tabAw5_ok {E : Env} (hE : QEnv E) : TabOK Tryz.prog E tabAw5 :=
  .cons (kKr_ok sum_known (kNoQ_ok ⟨_, Tryz.func35, by decide +kernel, by kernel_rfl⟩)) <|
  .cons (kKr_ok between1 (kKr_ok between2 (kNoQ_ok ⟨_, Tryz.func37, by decide +kernel, by kernel_rfl⟩))) <|
  .cons (kKr_ok (sign_known (by decide +kernel) (by decide +kernel)) (kKr_ok (sign_known (by decide +kernel) (by decide +kernel)) (kNoQ_ok ⟨_, Tryz.func19, by decide +kernel, by kernel_rfl⟩))) <|
  .cons (kKr_ok (equal_known (by decide +kernel) (by decide +kernel) (limB3_ok (by decide +kernel)) (limB3_ok (by decide +kernel)) (by decide +kernel)) (kNoQ_ok ⟨_, Tryz.func30, by decide +kernel, by kernel_rfl⟩)) (tabT_ok hE)
noncomputable def cAw5 : Cfg := cfgT2 tabAw5 [(21, Tryz.f21)] [(62, Tryz.f62)]
theorem cAw5_ok {E : Env} (hE : QEnv E) : CfgOK Tryz.prog E cAw5 := cfgT2_ok mixed (tabAw5_ok hE) (.cons Tryz.func21 (by decide +kernel) (by kernel_rfl) .nil) (.cons Tryz.func62 (by decide +kernel) (by kernel_rfl) .nil)
theorem aw5_walk : okTr (funE cAw5 Tryz.f17 [] []) = true := by kernel_rfl
theorem awake5_calls (w : World) : Calls Tryz.prog 17 #[] w (IsT w) := by
  obtain ⟨T, hT, hall⟩ := okTr_spec aw5_walk
  refine (fun_sound (E := qE []) mixed (cAw5_ok (qE_ok _)) no_asm Tryz.func17 (by decide +kernel) hT (by decide +kernel) rfl w [] rfl (fun i x hx => by simp at hx)).mono ?_
  rintro e w' ⟨β, u, rfl, hh, ex⟩
  rw [allT_out hall hh]
  exact ⟨rfl, ex⟩
end Go.Proofs.YtcgkmnjfkljjlaaGreat
end

section
set_option maxRecDepth 100000
namespace Go.Proofs.YtcgkmnjfkljjlaaGreat
open Go.RowKit
def kV2 : Con
  | [.val true [.raw i, .raw j]], G => if i % 2 == 0 && (j == i + 1 && (G.find (.lt (.lit 2) (.rlen i)) == some false && G.find (.lt (.lit 2) (.rlen j)) == some false)) then some (.val false [.b (.var (i / 2))]) else none
  | _, _ => none
theorem kV2_ok {E : Env} (hE : VEnv E) : ConOK Tryz.prog E 38 kV2 := by
  refine ⟨?_, ?_, ⟨_, Tryz.func38, by decide +kernel, by kernel_rfl⟩⟩
  · intro args As r h hG β w vs hv hlen
    unfold kV2 at h
    split at h
    · rename_i i j
      split at h
      · rename_i hlo
        injection h with h
        subst h
        simp only [Bool.and_eq_true, beq_iff_eq] at hlo
        obtain ⟨hi, rfl, b1, b2⟩ := hlo
        have c1 := of_decide_eq_false (Asm.find_spec hG b1)
        have c2 := of_decide_eq_false (Asm.find_spec hG b2)
        simp only [IT.den] at c1 c2
        obtain ⟨v, rfl, h1⟩ := args1 hv hlen
        refine (rvalid_rat_calls w v _ _ _ _ (one_raw2 h1) (by omega) (by omega)).mono ?_
        rintro e w' ⟨rfl, ex⟩
        exact ⟨_, rfl, one_bool.2 (by rw [← hE i hi]; rfl), ex⟩
      · cases h
    · cases h
  · intro args As r h x off
    unfold kV2 at h
    split at h
    · split at h
      · injection h with h; subst h; intro e; cases e
      · cases h
    · cases h
def fBq (b : Bool) : Tree := .leaf [(false, [.b (.lit b)])]
def tFew : Nat → Nat → Tree
  | _, 0 => fBq true
  | i, n + 1 => .ite (.lt (.lit 2) (.rlen (2 * i))) (fBq false) (.ite (.lt (.lit 2) (.rlen (2 * i + 1))) (fBq false) (.ite (.var i) (tFew (i + 1) n) (fBq false)))
def okw (E : Env) (i : Nat) : Prop := (E.r (2 * i)).2.length ≤ 2 ∧ (E.r (2 * i + 1)).2.length ≤ 2 ∧ E.b i = true
theorem tFew_pick {E : Env} : ∀ (n i : Nat), ∃ b, (tFew i n).pick E = [(false, [.b (.lit b)])] ∧ (b = true ↔ ∀ j, j < n → okw E (i + j))
  | 0, i => ⟨true, rfl, by simp⟩
  | n + 1, i => by
    obtain ⟨b, h1, h2⟩ := tFew_pick (E := E) n (i + 1)
    have c1 : (BT.lt (.lit 2) (.rlen (2 * i))).den E = decide ((E.r (2 * i)).2.length > 2) := by
      show decide ((2 : Int) < ((E.r (2 * i)).2.length : Int)) = _
      rw [decide_eq_decide]; omega
    have c2 : (BT.lt (.lit 2) (.rlen (2 * i + 1))).den E = decide ((E.r (2 * i + 1)).2.length > 2) := by
      show decide ((2 : Int) < ((E.r (2 * i + 1)).2.length : Int)) = _
      rw [decide_eq_decide]; omega
    have c3 : (BT.var i).den E = E.b i := rfl
    have bad : ¬ okw E i → ∃ b, (fBq false).pick E = [(false, [.b (.lit b)])] ∧ (b = true ↔ ∀ j, j < n + 1 → okw E (i + j)) := fun h => ⟨false, rfl, by
      constructor
      · intro h; cases h
      · intro g; exact absurd (g 0 (by omega)) h⟩
    simp only [tFew, Tree.pick, c1, c2, c3, decide_eq_true_eq]
    split
    · exact bad (fun h => by unfold okw at h; omega)
    · split
      · exact bad (fun h => by unfold okw at h; omega)
      · split
        · rename_i g1 g2 g3
          refine ⟨b, h1, ?_⟩
          rw [h2]
          constructor
          · intro h j hj
            match j with
            | 0 =>
              show okw E i
              exact ⟨by omega, by omega, g3⟩
            | j + 1 => have := h j (by omega); rwa [show i + 1 + j = i + (j + 1) by omega] at this
          · intro h j hj
            have := h (j + 1) (by omega)
            rwa [show i + (j + 1) = i + 1 + j by omega] at this
        · rename_i g3
          exact bad (fun h => g3 h.2.2)
def rawW (l : List RI) (i : Nat) : RI := l.getD i (false, [])
theorem okw_sm {l : List RI} {i : Nat} : okw (bE okQ l) i ↔ smN 2 (rawW l (2 * i)) (rawW l (2 * i + 1)) = true := by
  unfold okw smN
  simp only [Bool.and_eq_true, decide_eq_true_iff]
  exact ⟨fun h => ⟨⟨h.1, h.2.1⟩, h.2.2⟩, fun h => ⟨h.1.1, h.1.2, h.2⟩⟩
def rawL (i n : Nat) : List Chunk := (List.range n).map fun k => .raw (i + k)
def fewB (l : List RI) (n : Nat) : Bool := (List.range n).all fun j => smN 2 (rawW l (2 * j)) (rawW l (2 * j + 1))
theorem fewB_iff {l : List RI} {n : Nat} : fewB l n = true ↔ ∀ j, j < n → smN 2 (rawW l (2 * j)) (rawW l (2 * j + 1)) = true := by
  unfold fewB
  rw [List.all_eq_true]
  exact ⟨fun h j hj => h j (List.mem_range.2 hj), fun h j hj => h j (List.mem_range.1 hj)⟩
noncomputable def fewW (n : Nat) : Option Tree := funR (cfgOf [(38, kV2)]) Tryz.f18 [] (rawL 0 (2 * n)) (big + n)
theorem fewW1 : fewW 1 = some (tFew 0 1) := by kernel_rfl
theorem fewW3 : fewW 3 = some (tFew 0 3) := by kernel_rfl
theorem fewW4 : fewW 4 = some (tFew 0 4) := by kernel_rfl
theorem fewW6 : fewW 6 = some (tFew 0 6) := by kernel_rfl
theorem few_row {l : List RI} {n : Nat} (hT : fewW n = some (tFew 0 n)) (h0 : sizes (rawL 0 (2 * n)) ≠ 0) (w : World) (b : Nat) (h : VarAt (bE okQ l) w b (rawL 0 (2 * n))) :
    Calls Tryz.prog 18 #[pv b (big + n)] w (RetBl (fewB l n) w) := by
  refine (row_sound mixed (cfg_ok (.cons (kV2_ok (bE_ok l)) .nil)) no_asm Tryz.func18 (by decide +kernel) hT (by decide +kernel) w b h h0).mono ?_
  rintro e w' ⟨β, v, rfl, hh, ex⟩
  obtain ⟨c, h1, h2⟩ := tFew_pick (E := bE okQ l) n 0
  rw [h1] at hh
  have := one_bool.1 hh
  subst this
  have e : c = fewB l n := by
    rw [Bool.eq_iff_iff, h2, fewB_iff]
    exact ⟨fun h i hi => by have := h i hi; rw [Nat.zero_add] at this; exact okw_sm.1 this, fun h i hi => by rw [Nat.zero_add]; exact okw_sm.2 (h i hi)⟩
  subst e
  exact ⟨rfl, ex⟩
theorem ints_raws2 {E E' : Env} {w : World} {i' l : Nat} : ∀ (n i : Nat) (vs : List Value), chunks E w ((List.range n).map fun k => .int (.var (i + k)) l) vs → (∀ k, k < n → E'.r (i' + k) = (decide (E.i (i + k) < 0), limbs (E.i (i + k)).natAbs)) → chunks E' w (rawL i' n) vs := by
  intro n
  induction n generalizing i' with
  | zero => intro i vs h _; exact h
  | succ n ih =>
    intro i vs h e
    unfold rawL
    rw [List.range_succ_eq_map, List.map_cons, List.map_map] at h ⊢
    obtain ⟨l', r, rfl, h1, h2⟩ := h
    refine ⟨l', r, rfl, int_chunk h1 (e 0 (by omega)), ?_⟩
    have key := ih (i' := i' + 1) (i + 1) r (by
      have : (List.range n).map ((fun k => Chunk.int (.var (i + k)) l) ∘ Nat.succ) = (List.range n).map fun k => Chunk.int (.var (i + 1 + k)) l := List.map_congr_left fun k _ => by simp only [Function.comp]; rw [show i + (k + 1) = i + 1 + k by omega]
      rw [← this]; exact h2) (fun k hk => by
        have := e (k + 1) (by omega)
        rwa [show i + (k + 1) = i + 1 + k by omega, show i' + (k + 1) = i' + 1 + k by omega] at this)
    have : (List.range n).map ((fun k => Chunk.raw (i' + k)) ∘ Nat.succ) = (List.range n).map fun k => Chunk.raw (i' + 1 + k) := List.map_congr_left fun k _ => by simp only [Function.comp]; rw [show i' + (k + 1) = i' + 1 + k by omega]
    rw [this]; exact key
theorem raws_raws2 {E E' : Env} {w : World} : ∀ (n i i' : Nat) (vs : List Value), chunks E w (rawL i n) vs → (∀ k, k < n → E'.r (i' + k) = E.r (i + k)) → chunks E' w (rawL i' n) vs := by
  intro n
  induction n with
  | zero => intro i i' vs h _; exact h
  | succ n ih =>
    intro i i' vs h e
    unfold rawL at h ⊢
    rw [List.range_succ_eq_map, List.map_cons, List.map_map] at h ⊢
    obtain ⟨l', r, rfl, ⟨x, y, rfl, h1⟩, h2⟩ := h
    refine ⟨_, r, rfl, ⟨x, y, rfl, ?_⟩, ?_⟩
    · have := e 0 (by omega)
      rw [this]; exact h1
    · have key := ih (i + 1) (i' + 1) r (by
        have : (List.range n).map ((fun k => Chunk.raw (i + k)) ∘ Nat.succ) = rawL (i + 1) n := List.map_congr_left fun k _ => by simp only [Function.comp]; rw [show i + (k + 1) = i + 1 + k by omega]
        rw [← this]; exact h2) (fun k hk => by
          have := e (k + 1) (by omega)
          rwa [show i + (k + 1) = i + 1 + k by omega, show i' + (k + 1) = i' + 1 + k by omega] at this)
      have : (List.range n).map ((fun k => Chunk.raw (i' + k)) ∘ Nat.succ) = rawL (i' + 1) n := List.map_congr_left fun k _ => by simp only [Function.comp]; rw [show i' + (k + 1) = i' + 1 + k by omega]
      rw [this]; exact key
def isV2 : Nat → List Chunk → Bool
  | _, [] => true
  | i, .int (.var j) l :: cs => (j == i && l == 2) && isV2 (i + 1) cs
  | _, _ => false
theorem isV2_spec : ∀ {cs : List Chunk} {i : Nat}, isV2 i cs = true → cs = (List.range cs.length).map fun m => .int (.var (i + m)) 2
  | [], _, _ => rfl
  | .int (.var j) l :: cs, i, h => by
    simp only [isV2, Bool.and_eq_true, beq_iff_eq] at h
    obtain ⟨⟨rfl, rfl⟩, h⟩ := h
    have := isV2_spec h
    rw [List.length_cons, List.range_succ_eq_map, List.map_cons, List.map_map, Nat.add_zero]
    congr 1
    refine Eq.trans this (List.map_congr_left fun m _ => ?_)
    show Chunk.int _ _ = Chunk.int _ _
    rw [show j + 1 + m = j + (m + 1) by omega]
  | .int (.lit _) _ :: _, _, h | .int (.rlen _) _ :: _, _, h | .int (.slen _) _ :: _, _, h | .int (.a1 _ _) _ :: _, _, h | .int (.a2 _ _ _) _ :: _, _, h | .int (.a4 _ _ _ _ _) _ :: _, _, h => by cases h
  | .b _ :: _, _, h | .n _ _ :: _, _, h | .raw _ :: _, _, h | .mag _ _ :: _, _, h | .rmag _ :: _, _, h | .fn _ :: _, _, h | .nilSlice :: _, _, h | .str _ _ :: _, _, h => by cases h
def oInt (i n : Nat) (cs : List Chunk) (off : Nat) : Option Bool := if isV2 i cs && (cs.length == 2 * n && off == big + n) then some true else none
def oRaw (i n : Nat) (r : Bool) (cs : List Chunk) (off : Nat) : Option Bool := if isRaw i cs && (cs.length == 2 * n && off == big + n) then some r else none
def rawsQ (E : Env) (i n : Nat) : List RI := (List.range n).map fun k => (decide (E.i (i + k) < 0), limbs (E.i (i + k)).natAbs)
theorem getD_range {α : Type} {n k : Nat} (f : Nat → α) (d : α) (h : k < n) : ((List.range n).map f).getD k d = f k := by
  rw [List.getD_eq_getElem?_getD, List.getElem?_map, List.getElem?_range h]
  rfl
theorem oInt_ok {E : Env} {i n : Nat} (hT : fewW n = some (tFew 0 n)) (h0 : sizes (rawL 0 (2 * n)) ≠ 0) (hf : fewB (rawsQ E i (2 * n)) n = true) : RowSm E 18 (oInt i n) := by
  intro cs off c hc w b hv
  unfold oInt at hc
  split at hc
  · rename_i hb
    injection hc with hc
    subst hc
    simp only [Bool.and_eq_true, beq_iff_eq] at hb
    obtain ⟨h1, h2, rfl⟩ := hb
    have hcs := isV2_spec h1
    rw [h2] at hcs
    rw [hcs] at hv
    obtain ⟨vs, hc, hcell⟩ := hv
    have key := few_row (l := rawsQ E i (2 * n)) hT h0 w b ⟨vs, ints_raws2 (2 * n) i vs hc (fun k hk => by
      rw [Nat.zero_add]
      exact getD_range _ _ hk), hcell⟩
    rw [hf] at key
    exact key
  · cases hc
theorem oRaw_ok {E : Env} {i n : Nat} {l : List RI} (hT : fewW n = some (tFew 0 n)) (h0 : sizes (rawL 0 (2 * n)) ≠ 0) (hr : ∀ k, k < 2 * n → E.r (i + k) = rawW l k) : RowSm E 18 (oRaw i n (fewB l n)) := by
  intro cs off c hc w b hv
  unfold oRaw at hc
  split at hc
  · rename_i hb
    injection hc with hc
    subst hc
    simp only [Bool.and_eq_true, beq_iff_eq] at hb
    obtain ⟨h1, h2, rfl⟩ := hb
    have hcs := isRaw_spec h1
    rw [h2] at hcs
    rw [hcs] at hv
    obtain ⟨vs, hc, hcell⟩ := hv
    exact few_row (l := l) hT h0 w b ⟨vs, raws_raws2 (E := E) (2 * n) i 0 vs hc (fun k hk => by
      rw [Nat.zero_add]
      exact (hr k hk).symm), hcell⟩
  · cases hc
theorem smN_rawQ {n : Nat} {w : World} {v : Value} {q : Rat} (h : IsRat w v q) (l : LimQ n q) : smN n (decide (q.num < 0), limbs q.num.natAbs) (decide ((q.den : Int) < 0), limbs (q.den : Int).natAbs) = true := by
  unfold smN
  have l1 : (limbs q.num.natAbs).length ≤ n := l.1
  have l2 : (limbs (q.den : Int).natAbs).length ≤ n := l.2
  rw [(rat_raw h).2, decide_eq_true l1, decide_eq_true l2]
  rfl
theorem rawsQ_at {E : Env} {i n j : Nat} {q : Rat} (hj : j < n) (h : RepQ E (qI (i + 2 * j)) q) : rawW (rawsQ E i (2 * n)) (2 * j) = (decide (q.num < 0), limbs q.num.natAbs) ∧ rawW (rawsQ E i (2 * n)) (2 * j + 1) = (decide ((q.den : Int) < 0), limbs (q.den : Int).natAbs) := by
  have e1 : E.i (i + 2 * j) = q.num := h.1
  have e2 : E.i (i + 2 * j + 1) = (q.den : Int) := h.2
  constructor
  · show ((List.range (2 * n)).map _).getD (2 * j) _ = _
    rw [getD_range _ _ (by omega), e1]
  · show ((List.range (2 * n)).map _).getD (2 * j + 1) _ = _
    rw [getD_range _ _ (by omega), ← Nat.add_assoc, e2]
theorem fewB_ints {E : Env} {i : Nat} {w : World} : ∀ {qs : List Rat} {vs : List Value}, (∀ j q, qs[j]? = some q → RepQ E (qI (i + 2 * j)) q) → RatsQ w vs qs → LimQs 2 qs → fewB (rawsQ E i (2 * qs.length)) qs.length = true := by
  intro qs vs hr hv hl
  rw [fewB_iff]
  intro j hj
  have hq : qs[j]? = some (qs[j]) := List.getElem?_eq_getElem hj
  obtain ⟨e1, e2⟩ := rawsQ_at hj (hr j _ hq)
  rw [e1, e2]
  have : ∀ {qs : List Rat} {vs : List Value} {j : Nat} {q : Rat}, RatsQ w vs qs → qs[j]? = some q → ∃ v, IsRat w v q := by
    intro qs
    induction qs with
    | nil => intro vs j q _ h; cases h
    | cons p qs ih =>
      rintro vs j q ⟨x, r, rfl, h1, h2⟩ hq
      match j, hq with
      | 0, hq => injection hq with hq; subst hq; exact ⟨_, h1⟩
      | j + 1, hq => exact ih h2 hq
  obtain ⟨v, hv'⟩ := this hv hq
  exact smN_rawQ hv' (hl _ (List.mem_of_getElem? hq))
end Go.Proofs.YtcgkmnjfkljjlaaGreat
end

section
set_option maxRecDepth 100000
namespace Go.Proofs.YtcgkmnjfkljjlaaGreat
open Go.RowKit
def sm5 (p1 p2 p3 p4 p5 p6 : RI) : Bool := (smN 2 p1 p2 && (smN 2 p3 p4 && smN 2 p5 p6)) && Rdb (rq p3 p4) (rq p5 p6)
theorem fewB1 (p1 p2 : RI) : fewB [p1, p2] 1 = smN 2 p1 p2 := by
  show (smN 2 p1 p2 && true) = _
  rw [Bool.and_true]
theorem fewB3 (p1 p2 p3 p4 p5 p6 : RI) : fewB [p1, p2, p3, p4, p5, p6] 3 = (smN 2 p1 p2 && (smN 2 p3 p4 && smN 2 p5 p6)) := by
  show (smN 2 p1 p2 && (smN 2 p3 p4 && (smN 2 p5 p6 && true))) = _
  rw [Bool.and_true]
theorem root_rats {w : World} {v : Value} {a b c : Rat} (h : IsRoot w v a b c) : ∃ vs : List Value, v = .agg vs.toArray ∧ RatsQ w vs [a, b, c] := by
  obtain ⟨x, y, z, rfl, h1, h2, h3⟩ := h
  exact ⟨_, rfl, x, _, rfl, h1, y, _, rfl, h2, z, [], by rw [List.append_nil], h3, rfl⟩
theorem qv_reps {a b c : Rat} : ∀ j q, [a, b, c][j]? = some q → RepQ (qE [a, b, c]) (qI (0 + 2 * j)) q := by
  intro j q h
  match j, h with
  | 0, h => injection h with h; subst h; exact ⟨rfl, rfl⟩
  | 1, h => injection h with h; subst h; exact ⟨rfl, rfl⟩
  | 2, h => injection h with h; subst h; exact ⟨rfl, rfl⟩
noncomputable def cSm : Cfg := cfgS 18 (oInt 0 3) (cR tbV)
theorem sm_walk_t : funE cSm Tryz.f24 [sqG true] [aRl 0 2] = some (vaR false) := by kernel_rfl
theorem sm_walk_f : funE cSm Tryz.f24 [sqG false] [aRl 0 2] = some (vaR true) := by kernel_rfl
theorem sm_walk_no : funE (cfgS 18 (oRaw 0 3 false) (cfgOf [])) Tryz.f24 [] [.val true (rwC 0)] = some (lfB (.lit false)) := by kernel_rfl
theorem few_body : ∃ fn, Tryz.prog.funcs[18]? = some fn ∧ fn.name ≠ "runtime.NumGoroutine" ∧ fn.body.isNone = false := ⟨_, Tryz.func18, by decide +kernel, by kernel_rfl⟩
theorem small5_calls (w : World) (v : Value) (p1 p2 p3 p4 p5 p6 : RI) (h : RawR w v p1 p2 p3 p4 p5 p6) : Calls Tryz.prog 24 #[v] w (RetBl (sm5 p1 p2 p3 p4 p5 p6) w) := by
  unfold sm5
  cases hf : (smN 2 p1 p2 && (smN 2 p3 p4 && smN 2 p5 p6)) with
  | true =>
    rw [Bool.true_and]
    have hf' := hf
    rw [Bool.and_eq_true, Bool.and_eq_true] at hf'
    obtain ⟨ir, lr⟩ := h.root hf'.1 hf'.2.1 hf'.2.2
    generalize rq p1 p2 = a at *
    generalize rq p3 p4 = b at *
    generalize rq p5 p6 = c at *
    obtain ⟨vs, rfl, hvs⟩ := root_rats ir
    have hs : RowSm (qE [a, b, c]) 18 (oInt 0 3) := oInt_ok fewW3 (by decide) (fewB_ints (qs := [a, b, c]) qv_reps hvs (fun q hq => by
      simp only [List.mem_cons, List.not_mem_nil, or_false] at hq
      rcases hq with rfl | rfl | rfl
      · exact lr.1
      · exact lr.2.1
      · exact lr.2.2))
    have hC : CfgOK Tryz.prog (qE [a, b, c]) cSm := cfgS_ok (cR_ok (qE_ok _) (tbV_ok (qE_ok _))) hs few_body
    have ar : ∀ (i : Nat) (x : AV), [aRl 0 2][i]? = some x → ∃ β u, [Value.agg vs.toArray][i]? = some u ∧ x.holds (qE [a, b, c]) β w u := by
      intro i x hx
      match i, hx with
      | 0, hx => injection hx with hx; subst hx; exact ⟨fun _ => 0, _, rfl, aRl_holds ir lr⟩
    cases hx : (sqB c.num && sqB (c.den : Int)) with
    | true =>
      refine (fun_sound mixed hC (sqG_holds hx) Tryz.func24 (by decide +kernel) sm_walk_t (by decide +kernel) rfl w _ rfl ar).mono ?_
      rintro e w' ⟨β, y, rfl, hh, ex⟩
      rw [vaR_out (by rw [hx]; rfl) hh]
      exact ⟨rfl, ex⟩
    | false =>
      refine (fun_sound mixed hC (sqG_holds hx) Tryz.func24 (by decide +kernel) sm_walk_f (by decide +kernel) rfl w _ rfl ar).mono ?_
      rintro e w' ⟨β, y, rfl, hh, ex⟩
      rw [vaR_out (by rw [hx]; rfl) hh]
      exact ⟨rfl, ex⟩
  | false =>
    rw [Bool.false_and]
    have hs : RowSm (bE okQ [p1, p2, p3, p4, p5, p6]) 18 (oRaw 0 3 false) := by
      have := oRaw_ok (E := bE okQ [p1, p2, p3, p4, p5, p6]) (i := 0) (n := 3) (l := [p1, p2, p3, p4, p5, p6]) fewW3 (by decide) (fun k _ => by rw [Nat.zero_add]; rfl)
      rw [fewB3, hf] at this
      exact this
    refine (fun_sound mixed (cfgS_ok (cfg_ok .nil) hs few_body) no_asm Tryz.func24 (by decide +kernel) sm_walk_no (by decide +kernel) rfl w [v] rfl ?_).mono ?_
    · intro i x hx
      match i, hx with
      | 0, hx => injection hx with hx; subst hx; exact ⟨fun _ => 0, v, rfl, (one_rwC (i := 0)).2 h⟩
    · rintro e w' ⟨β, y, rfl, hh, ex⟩
      rw [lfB_out hh]
      exact ⟨rfl, ex⟩
def cRw (i : Nat) : List AV → Bool
  | [.val true [.raw a, .raw b, .raw c, .raw d, .raw e, .raw f]] => a == i && (b == i + 1 && (c == i + 2 && (d == i + 3 && (e == i + 4 && f == i + 5))))
  | _ => false
theorem smRaw_known {E : Env} {i : Nat} {z : Bool} (hz : sm5 (E.r i) (E.r (i + 1)) (E.r (i + 2)) (E.r (i + 3)) (E.r (i + 4)) (E.r (i + 5)) = z) : KnownR E 24 (cRw i) (rBl z) := by
  refine ⟨?_, fun x off e => by cases e⟩
  intro args hc β w vs hv hl
  unfold cRw at hc
  split at hc
  · rename_i a b c d e f
    simp only [Bool.and_eq_true, beq_iff_eq] at hc
    obtain ⟨rfl, rfl, rfl, rfl, rfl, rfl⟩ := hc
    obtain ⟨v, rfl, h1⟩ := args1 hv hl
    refine (small5_calls w v _ _ _ _ _ _ ((one_rwC).1 h1)).mono ?_
    rintro e w' ⟨rfl, ex⟩
    exact ⟨_, rfl, fun β => one_bool.2 (by rw [hz]; rfl), ex⟩
  · cases hc
theorem rq_rawQ (q : Rat) : rq (decide (q.num < 0), limbs q.num.natAbs) (decide ((q.den : Int) < 0), limbs (q.den : Int).natAbs) = q := by
  have e3 : sgn (decide (q.num < 0)) (val (limbs q.num.natAbs)) = q.num := by rw [val_limbs]; exact sgn_self q.num
  have e4 : sgn (decide ((q.den : Int) < 0)) (val (limbs (q.den : Int).natAbs)) = (q.den : Int) := by rw [val_limbs]; exact sgn_self (q.den : Int)
  show Rat.divInt _ _ = _
  rw [e3, e4]
  exact Rat.num_divInt_den q
theorem smInt_known {E : Env} {ts : List IT2} {a b c : Rat} (hr : Reps E ts [a, b, c]) (R : Rd b c) (l : LimR 2 a b c) : KnownR E 24 (c6 ts) (rBl true) := by
  refine known3 hr (fun x off e => by cases e) fun w v h => ?_
  obtain ⟨x, y, z, rfl, i1, i2, i3⟩ := h
  have hraw : RawR w (.agg (x ++ (y ++ z)).toArray) (decide (a.num < 0), limbs a.num.natAbs) (decide ((a.den : Int) < 0), limbs (a.den : Int).natAbs) (decide (b.num < 0), limbs b.num.natAbs) (decide ((b.den : Int) < 0), limbs (b.den : Int).natAbs) (decide (c.num < 0), limbs c.num.natAbs) (decide ((c.den : Int) < 0), limbs (c.den : Int).natAbs) := ⟨x, y, z, rfl, (rat_raw i1).1, (rat_raw i2).1, (rat_raw i3).1⟩
  refine (small5_calls w _ _ _ _ _ _ _ hraw).mono ?_
  rintro e w' ⟨rfl, ex⟩
  refine ⟨_, rfl, fun β => one_bool.2 ?_, ex⟩
  unfold sm5
  rw [smN_rawQ i1 l.1, smN_rawQ i2 l.2.1, smN_rawQ i3 l.2.2, rq_rawQ, rq_rawQ, Rdb_iff.2 R]
  rfl
def kAw5 : Con
  | [], _ => some (.val false [.b (.lit true)])
  | _, _ => none
theorem kAw5_ok {E : Env} : ConOK Tryz.prog E 17 kAw5 := by
  refine ⟨?_, ?_, ⟨_, Tryz.func17, by decide +kernel, by kernel_rfl⟩⟩
  · intro args G r h hG β w vs hv hlen
    unfold kAw5 at h
    split at h
    · injection h with h
      subst h
      obtain rfl : vs = [] := by simpa using hlen
      refine (awake5_calls w).mono ?_
      rintro e w' ⟨rfl, ex⟩
      exact ⟨_, rfl, one_bool.2 rfl, ex⟩
    · cases h
  · intro args G r h x off
    unfold kAw5 at h
    split at h
    · injection h with h; subst h; intro e; cases e
    · cases h
theorem lawQ_calls {C : Cfg} {E : Env} (hC : CfgOK Tryz.prog E C) (hw : ∀ w, C.wok w) {G : Asm} (hG : G.holds E) {f : FuncId} {fn : Func} (hf : Tryz.prog.funcs[f]? = some fn) (h4 : fn.results.toList.length ≤ 4) {args : List AV} (hT : okTr (funE C fn G args) = true) (hn : args.length ≤ fn.ntmps) (hp : args.all noPtr = true) (w : World) (vs : List Value) (hl : vs.length = args.length)
    (hv : ∀ (i : Nat) (x : AV), args[i]? = some x → ∃ v, vs[i]? = some v ∧ ∀ β, x.holds E β w v) : Calls Tryz.prog f vs.toArray w (IsT w) := by
  obtain ⟨T, hT, hall⟩ := okTr_spec hT
  refine (fun_sound mixed hC hG hf h4 hT hn hp w vs hl (fun i x hx => ?_) (fun w' _ => hw w')).mono ?_
  · obtain ⟨v, h1, h2⟩ := hv i x hx
    exact ⟨fun _ => 0, v, h1, h2 _⟩
  · rintro e w' ⟨β, v, rfl, hh, ex⟩
    rw [allT_out hall hh]
    exact ⟨rfl, ex⟩
end Go.Proofs.YtcgkmnjfkljjlaaGreat
end

section
set_option maxRecDepth 100000
namespace Go.Proofs.YtcgkmnjfkljjlaaGreat
open Go.RowKit
def cts : List (List IT2) → List AV → Bool
  | [], [] => true
  | l :: ls, .val true cs :: xs => t6 l cs && cts ls xs
  | _, _ => false
def RepsL (E : Env) : List (List IT2) → List (List Rat) → Prop
  | [], [] => True
  | t :: ts, q :: qs => Reps E t q ∧ RepsL E ts qs
  | _, _ => False
theorem cts_holds {E : Env} {β : Nat → Nat} {w : World} : ∀ {ts : List (List IT2)} {ls : List (List Rat)} {args : List AV} {vs : List Value}, RepsL E ts ls → cts ts args = true → (∀ (i : Nat) (x : AV), args[i]? = some x → ∃ v, vs[i]? = some v ∧ x.holds E β w v) → vs.length = args.length → ArgsQ w vs ls
  | [], [], args, vs, _, h, hv, hl => by
    unfold cts at h
    split at h
    · match vs, hl with
      | [], _ => exact trivial
    · contradiction
    · cases h
  | [], _ :: _, _, _, hr, _, _, _ => hr.elim
  | _ :: _, [], _, _, hr, _, _, _ => hr.elim
  | t :: ts, l :: ls, args, vs, hr, h, hv, hl => by
    unfold cts at h
    split at h
    · contradiction
    · rename_i l' ls' cs xs e
      cases e
      rw [Bool.and_eq_true] at h
      obtain ⟨v, h1, h2⟩ := hv 0 _ rfl
      match vs, hl, h1 with
      | u :: us, hl, h1 =>
        injection h1 with h1
        subst h1
        obtain ⟨ys, rfl, hy⟩ := h2
        exact ⟨⟨ys, rfl, t6_holds hr.1 h.1 hy⟩, cts_holds hr.2 h.2 (fun i x hx => hv (i + 1) x hx) (by simpa using hl)⟩
    · cases h
theorem knownT {E : Env} {f : Nat} {ts : List (List IT2)} {ls : List (List Rat)} {r : AV} (hr : RepsL E ts ls) (np : ∀ x off, r ≠ .ptr x off) (h : ∀ (w : World) (vs : List Value), ArgsQ w vs ls → Calls Tryz.prog f vs.toArray w fun e w' => ∃ x, e = .returned x ∧ (∀ β, r.holds E β w' x) ∧ Ext w w') : KnownR E f (cts ts) r :=
  ⟨fun _ hc _ w vs hv hl => h w vs (cts_holds hr hc hv hl), np⟩
def rII (z e : Int) : AV := .tup [(false, [.n .i64 (.lit z)]), (false, [.n .i64 (.lit e)])]
theorem rII_holds {E : Env} {w : World} {z e : Int} : ∀ β, (rII z e).holds E β w (.tuple #[.int .i64 z, .int .i64 e]) := fun _ => ⟨[_, _], rfl, _, _, rfl, one_num.2 rfl, _, _, rfl, one_num.2 rfl, rfl⟩
def RawN (w : World) (v : Value) (n : Nat) (l : List RI) : Prop := ∃ vs : List Value, v = .agg vs.toArray ∧ chunks (bE okQ l) w (rawL 0 (2 * n)) vs
theorem rawL_two (i n : Nat) : rawL i (2 * (n + 1)) = .raw i :: .raw (i + 1) :: rawL (i + 2) (2 * n) := by
  unfold rawL
  rw [show 2 * (n + 1) = 2 * n + 1 + 1 by omega, List.range_succ_eq_map, List.map_cons, List.range_succ_eq_map, List.map_cons, List.map_map, List.map_cons, List.map_map]
  congr 2
  refine List.map_congr_left fun k _ => ?_
  show Chunk.raw (i + (k + 1 + 1)) = Chunk.raw _
  rw [show i + (k + 1 + 1) = i + 2 + k by omega]
theorem raws_rats {E : Env} {w : World} : ∀ (n i : Nat) (vs : List Value), chunks E w (rawL i (2 * n)) vs → (∀ j, j < n → smN 2 (E.r (i + 2 * j)) (E.r (i + 2 * j + 1)) = true) → ∃ qs : List Rat, qs.length = n ∧ RatsQ w vs qs ∧ LimQs 2 qs := by
  intro n
  induction n with
  | zero => intro i vs h _; exact ⟨[], rfl, h, fun q hq => by cases hq⟩
  | succ n ih =>
    intro i vs h hs
    rw [rawL_two] at h
    obtain ⟨x, r, rfl, h1, h2⟩ := two_raws.1 h
    obtain ⟨k1, k2⟩ := smN_rat h1 (hs 0 (by omega))
    obtain ⟨qs, e, h3, h4⟩ := ih (i + 2) r h2 (fun j hj => by
      have := hs (j + 1) (by omega)
      rwa [show i + 2 * (j + 1) = i + 2 + 2 * j by omega] at this)
    refine ⟨_ :: qs, by rw [List.length_cons, e], ⟨x, r, rfl, k1, h3⟩, fun q hq => ?_⟩
    rcases List.mem_cons.1 hq with rfl | hq
    · exact k2
    · exact h4 q hq
theorem RawN.few {w : World} {v : Value} {n : Nat} {l : List RI} (h : RawN w v n l) (hf : fewB l n = true) : ∃ qs : List Rat, qs.length = n ∧ IsQs w v qs ∧ LimQs 2 qs := by
  obtain ⟨vs, rfl, hc⟩ := h
  obtain ⟨qs, e, h1, h2⟩ := raws_rats n 0 vs hc (fun j hj => by rw [Nat.zero_add]; exact fewB_iff.1 hf j hj)
  exact ⟨qs, e, ⟨vs, rfl, h1⟩, h2⟩
theorem len6 {qs : List Rat} (h : qs.length = 6) : ∃ a b c d e f, qs = [a, b, c, d, e, f] := by
  match qs, h with
  | [a, b, c, d, e, f], _ => exact ⟨a, b, c, d, e, f, rfl⟩
theorem len4 {qs : List Rat} (h : qs.length = 4) : ∃ a b c d, qs = [a, b, c, d] := by
  match qs, h with
  | [a, b, c, d], _ => exact ⟨a, b, c, d, rfl⟩
theorem qs_reps (qs : List Rat) : ∀ j q, qs[j]? = some q → RepQ (qE qs) (qI (0 + 2 * j)) q := by
  intro j q h
  have e : qs.getD j 0 = q := by rw [List.getD_eq_getElem?_getD, h]; rfl
  refine ⟨?_, ?_⟩
  · show (if (0 + 2 * j) % 2 = 0 then (qs.getD ((0 + 2 * j) / 2) 0).num else _) = _
    rw [if_pos (by omega), show (0 + 2 * j) / 2 = j by omega, e]
  · show (if (0 + 2 * j + 1) % 2 = 0 then _ else ((qs.getD ((0 + 2 * j + 1) / 2) 0).den : Int)) = _
    rw [if_neg (by omega), show (0 + 2 * j + 1) / 2 = j by omega, e]
theorem few_good {w : World} {v : Value} {qs : List Rat} (hT : fewW qs.length = some (tFew 0 qs.length)) (h0 : sizes (rawL 0 (2 * qs.length)) ≠ 0) (h : IsQs w v qs) (l : LimQs 2 qs) : RowSm (qE qs) 18 (oInt 0 qs.length) := by
  obtain ⟨vs, rfl, hv⟩ := h
  exact oInt_ok hT h0 (fewB_ints (qs_reps qs) hv l)
theorem few_bad {n : Nat} {l : List RI} (hT : fewW n = some (tFew 0 n)) (h0 : sizes (rawL 0 (2 * n)) ≠ 0) (h : fewB l n = false) : RowSm (bE okQ l) 18 (oRaw 0 n false) := by
  have := oRaw_ok (E := bE okQ l) (i := 0) (n := n) (l := l) hT h0 (fun k _ => by rw [Nat.zero_add]; rfl)
  rwa [h] at this
noncomputable def tabA5 : List (Nat × Con) := [(17, kAw5)]
theorem tabA5_ok {E : Env} : TabOK Tryz.prog E tabA5 := .cons kAw5_ok .nil
noncomputable def cBad5 (n : Nat) : Cfg := cfgS 18 (oRaw 0 n false) (cfgAr (cfgOf tabA5) arrQ4)
theorem cBad5_ok {n : Nat} {l : List RI} (hs : RowSm (bE okQ l) 18 (oRaw 0 n false)) : CfgOK Tryz.prog (bE okQ l) (cBad5 n) := cfgS_ok (cfgAr_ok (cfg_ok tabA5_ok) arrQ4_ok) hs few_body
theorem rawArg {w : World} {v : Value} {n : Nat} {l : List RI} (h : RawN w v n l) : ∀ β, (AV.val true (rawL 0 (2 * n))).holds (bE okQ l) β w v := fun _ => h
theorem intArg {w : World} {v : Value} {qs : List Rat} (h : IsQs w v qs) (l : LimQs 2 qs) : ∀ β, (AV.val true (intC 2 0 qs.length)).holds (qE qs) β w v := fun _ => by
  obtain ⟨vs, rfl, hv⟩ := h
  exact ⟨vs, rfl, (qs_chunks qs 0 vs (qs_reps qs)).2 ⟨hv, l⟩⟩
def t6q : List IT2 := [qI 0, qI 2, qI 4, qI 6, qI 8, qI 10]
noncomputable def tabSgL (z : Int) : List (Nat × Con) := (19, kKq (cts [t6q]) (rNq z) kNoQ) :: (20, kKq (cts [t6q]) (rNq z) kNoQ) :: tabA5
noncomputable def cSgL (z : Int) : Cfg := cfgS 18 (oInt 0 6) (cfgOf (tabSgL z))
theorem sgL_walk : (sgs.all fun z => okTr (funE (cSgL z) Tryz.f4 [] [.val true (intC 2 0 6)])) = true := by kernel_rfl
theorem sgL_bad : okTr (funE (cBad5 6) Tryz.f4 [] [.val true (rawL 0 12)]) = true := by kernel_rfl
theorem radicalSign_calls (w : World) (v : Value) (l : List RI) (h : RawN w v 6 l) : Calls Tryz.prog 4 #[v] w (IsT w) := by
  cases hf : fewB l 6 with
  | false => exact lawQ_calls (cBad5_ok (few_bad fewW6 (by decide) hf)) (fun _ => trivial) no_asm Tryz.func4 (by decide +kernel) sgL_bad (by decide +kernel) rfl w [v] rfl (one_arg rfl rfl (rawArg h))
  | true =>
    obtain ⟨qs, e, hq, hl⟩ := h.few hf
    obtain ⟨A, B, C, D, M, N, rfl⟩ := len6 e
    have hr : RepsL (qE [A, B, C, D, M, N]) [t6q] [[A, B, C, D, M, N]] := ⟨⟨⟨rfl, rfl⟩, ⟨rfl, rfl⟩, ⟨rfl, rfl⟩, ⟨rfl, rfl⟩, ⟨rfl, rfl⟩, ⟨rfl, rfl⟩, trivial⟩, trivial⟩
    have l40 : LimQs 40 [A, B, C, D, M, N] := fun q hq => ⟨(hl q hq).1.mono (by omega), (hl q hq).2.mono (by omega)⟩
    have hT : TabOK Tryz.prog (qE [A, B, C, D, M, N]) (tabSgL (qsg A B C D M N)) := by
      refine .cons (kKr_ok (knownT hr (fun x off e => by cases e) fun w vs hv => ?_) (kNoQ_ok ⟨_, Tryz.func19, by decide +kernel, by kernel_rfl⟩)) <|
        .cons (kKr_ok (knownT hr (fun x off e => by cases e) fun w vs hv => ?_) (kNoQ_ok ⟨_, Tryz.func20, by decide +kernel, by kernel_rfl⟩)) tabA5_ok
      · obtain ⟨v, rfl, k1⟩ := argsQ1 hv
        refine (radSign_calls w v _ _ _ _ _ _ k1 l40).mono ?_
        rintro e w' ⟨rfl, ex⟩
        exact ⟨_, rfl, fun β => one_num.2 rfl, ex⟩
      · obtain ⟨v, rfl, k1⟩ := argsQ1 hv
        refine (refSign_calls w v _ _ _ _ _ _ k1 l40).mono ?_
        rintro e w' ⟨rfl, ex⟩
        exact ⟨_, rfl, fun β => one_num.2 rfl, ex⟩
    exact lawQ_calls (cfgS_ok (cfg_ok hT) (few_good fewW6 (show sizes (rawL 0 12) ≠ 0 by decide) hq hl) few_body) (fun _ => trivial) no_asm Tryz.func4 (by decide +kernel) (List.all_eq_true.1 sgL_walk _ (sgs_mem (qsg_range A B C D M N))) (by decide +kernel) rfl w [v] rfl (one_arg rfl rfl (intArg hq hl))
def t4q : List (List IT2) := [[qI 0], [qI 2], [qI 4], [qI 6]]
noncomputable def tabSuL (p : Int × Int) : List (Nat × Con) := (35, kKq (cts t4q) (rII p.1 p.2) kNoQ) :: (36, kKq (cts t4q) (rII p.1 p.2) kNoQ) :: tabA5
noncomputable def cSuL (p : Int × Int) : Cfg := cfgS 18 (oInt 0 4) (cfgAr (cfgOf (tabSuL p)) arrQ4)
def suRs : List (Int × Int) := [(0, 7), (1, 0), (0, 0), (-1, 0)]
theorem suL_walk : (suRs.all fun p => okTr (funE (cSuL p) Tryz.f8 [] [.val true (intC 2 0 4)])) = true := by kernel_rfl
theorem suL_bad : okTr (funE (cBad5 4) Tryz.f8 [] [.val true (rawL 0 8)]) = true := by kernel_rfl
theorem suR_mem (d p q r : Rat) : suR d p q r ∈ suRs := by
  unfold suR
  split
  · simp [suRs]
  · rcases qsg_range (d - p - q - r * r) (-2 * r) (-2 * r) (-2) p q with e | e | e <;> (unfold suZ; rw [e]; simp [suRs])
theorem radicalSum_calls (w : World) (v : Value) (l : List RI) (h : RawN w v 4 l) : Calls Tryz.prog 8 #[v] w (IsT w) := by
  cases hf : fewB l 4 with
  | false => exact lawQ_calls (cBad5_ok (few_bad fewW4 (by decide) hf)) (fun _ => trivial) no_asm Tryz.func8 (by decide +kernel) suL_bad (by decide +kernel) rfl w [v] rfl (one_arg rfl rfl (rawArg h))
  | true =>
    obtain ⟨qs, e, hq, hl⟩ := h.few hf
    obtain ⟨d, p, q, r, rfl⟩ := len4 e
    have hr : RepsL (qE [d, p, q, r]) t4q [[d], [p], [q], [r]] := ⟨⟨⟨rfl, rfl⟩, trivial⟩, ⟨⟨rfl, rfl⟩, trivial⟩, ⟨⟨rfl, rfl⟩, trivial⟩, ⟨⟨rfl, rfl⟩, trivial⟩, trivial⟩
    have ld : LimQ 2 d := hl d (by simp)
    have lp : LimQ 2 p := hl p (by simp)
    have lq : LimQ 2 q := hl q (by simp)
    have lr : LimQ 2 r := hl r (by simp)
    have key : ∀ (f : Bool) (w : World) (vs : List Value), ArgsQ w vs [[d], [p], [q], [r]] → Calls Tryz.prog (if f then 35 else 36) vs.toArray w fun e w' => ∃ x, e = .returned x ∧ (∀ β, (rII (suR d p q r).1 (suR d p q r).2).holds (qE [d, p, q, r]) β w' x) ∧ Ext w w' := by
      intro f w vs hv
      obtain ⟨v1, v2, v3, v4, rfl, k1, k2, k3, k4⟩ := argsQ4 hv
      refine (qsum_calls f w v1 v2 v3 v4 d p q r (qs_rat k1) (qs_rat k2) (qs_rat k3) (qs_rat k4) ld lp lq lr).mono ?_
      rintro e w' ⟨rfl, ex⟩
      exact ⟨_, rfl, rII_holds, ex⟩
    have hT : TabOK Tryz.prog (qE [d, p, q, r]) (tabSuL (suR d p q r)) :=
      .cons (kKr_ok (knownT hr (fun x off e => by cases e) (key true)) (kNoQ_ok ⟨_, Tryz.func35, by decide +kernel, by kernel_rfl⟩)) <|
        .cons (kKr_ok (knownT hr (fun x off e => by cases e) (key false)) (kNoQ_ok ⟨_, Tryz.func36, by decide +kernel, by kernel_rfl⟩)) tabA5_ok
    exact lawQ_calls (cfgS_ok (cfgAr_ok (cfg_ok hT) arrQ4_ok) (few_good fewW4 (show sizes (rawL 0 8) ≠ 0 by decide) hq hl) few_body) (fun _ => trivial) no_asm Tryz.func8 (by decide +kernel) (List.all_eq_true.1 suL_walk _ (suR_mem d p q r)) (by decide +kernel) rfl w [v] rfl (one_arg rfl rfl (intArg hq hl))
end Go.Proofs.YtcgkmnjfkljjlaaGreat
end

section
set_option maxRecDepth 100000
namespace Go.Proofs.YtcgkmnjfkljjlaaGreat
open Go.ChangeShapes Go.WideShapes Go.ChangeAt Go.RowKit Go.Joins
def RawsV (w : World) : List Value → List (RI × RI) → Prop
  | vs, [] => vs = []
  | vs, p :: l => ∃ x r, vs = x ++ r ∧ RawQ w (.agg x.toArray) p.1.1 p.1.2 p.2.1 p.2.2 ∧ RawsV w r l
theorem rawsV_chunks {E : Env} {w : World} : ∀ (ps : List (RI × RI)) (i : Nat) (vs : List Value), RawsV w vs ps → (∀ j p, ps[j]? = some p → E.r (i + 2 * j) = p.1 ∧ E.r (i + 2 * j + 1) = p.2) → chunks E w (rawL i (2 * ps.length)) vs
  | [], _, vs, h, _ => h
  | p :: ps, i, vs, ⟨x, r, e, h1, h2⟩, he => by
    subst e
    rw [List.length_cons, rawL_two]
    obtain ⟨e1, e2⟩ := he 0 p rfl
    rw [Nat.mul_zero, Nat.add_zero] at e1 e2
    refine two_raws.2 ⟨x, r, rfl, by rw [e1, e2]; exact h1, rawsV_chunks ps (i + 2) r h2 fun j q hq => ?_⟩
    have := he (j + 1) q hq
    rwa [show i + 2 * (j + 1) = i + 2 + 2 * j by omega] at this
def flatP : List (RI × RI) → List RI
  | [] => []
  | p :: l => p.1 :: p.2 :: flatP l
theorem flatP_at : ∀ (ps : List (RI × RI)) (j : Nat) (p : RI × RI), ps[j]? = some p → (flatP ps).getD (2 * j) (false, []) = p.1 ∧ (flatP ps).getD (2 * j + 1) (false, []) = p.2
  | [], _, _, h => by cases h
  | q :: ps, 0, p, h => by injection h with h; subst h; exact ⟨rfl, rfl⟩
  | q :: ps, j + 1, p, h => by
    have := flatP_at ps j p h
    rw [show 2 * (j + 1) = 2 * j + 1 + 1 by omega]
    exact this
theorem rawN_of {w : World} {vs : List Value} {ps : List (RI × RI)} (h : RawsV w vs ps) : RawN w (.agg vs.toArray) ps.length (flatP ps) :=
  ⟨vs, rfl, rawsV_chunks ps 0 vs h fun j p hp => by
    rw [Nat.zero_add]
    exact flatP_at ps j p hp⟩
theorem arr24 {cs : Array Value} (h : cs.size = 24) : ∃ a0 a1 a2 a3 b0 b1 b2 b3 c0 c1 c2 c3 d0 d1 d2 d3 e0 e1 e2 e3 f0 f1 f2 f3, cs = #[a0, a1, a2, a3, b0, b1, b2, b3, c0, c1, c2, c3, d0, d1, d2, d3, e0, e1, e2, e3, f0, f1, f2, f3] := by
  obtain ⟨l⟩ := cs
  have h' : l.length = 24 := h
  match l, h' with
  | [a0, a1, a2, a3, b0, b1, b2, b3, c0, c1, c2, c3, d0, d1, d2, d3, e0, e1, e2, e3, f0, f1, f2, f3], _ => exact ⟨a0, a1, a2, a3, b0, b1, b2, b3, c0, c1, c2, c3, d0, d1, d2, d3, e0, e1, e2, e3, f0, f1, f2, f3, rfl⟩
theorem arr16 {cs : Array Value} (h : cs.size = 16) : ∃ a0 a1 a2 a3 b0 b1 b2 b3 c0 c1 c2 c3 d0 d1 d2 d3, cs = #[a0, a1, a2, a3, b0, b1, b2, b3, c0, c1, c2, c3, d0, d1, d2, d3] := by
  obtain ⟨l⟩ := cs
  have h' : l.length = 16 := h
  match l, h' with
  | [a0, a1, a2, a3, b0, b1, b2, b3, c0, c1, c2, c3, d0, d1, d2, d3], _ => exact ⟨a0, a1, a2, a3, b0, b1, b2, b3, c0, c1, c2, c3, d0, d1, d2, d3, rfl⟩
theorem open_quad {H : Type} {enc : TypeId × Value → H} {W : World} {b0 base : Nat} {spare : Nat → Bool} {held : Bool} {r : Reach} {v : Value} {d : DataW H} {p : List MemPlace}
    (hv : Value.okWide Tryz.prog W r b0 43 v) (h : DataW.Trod enc Tryz.prog W base spare held 43 v d p) : ∃ l, RawN W v 6 l := by
  obtain ⟨cs, rfl, hsz⟩ := okWide_struct Tryz.underlying43 hv
  have c24 : Tryz.prog.cellsOf 43 = 24 := by kernel_rfl
  have k4 : Tryz.prog.cellsOf 33 = 4 := by kernel_rfl
  obtain ⟨a0, a1, a2, a3, b0, b1, b2, b3, c0, c1, c2, c3, d0, d1, d2, d3, e0, e1, e2, e3, f0, f1, f2, f3, rfl⟩ := arr24 (hsz.trans c24)
  obtain ⟨fuel, hf⟩ := h
  obtain ⟨xs, n, _, _, _, hlen, hfl⟩ := DataW.trod_struct Tryz.underlying43 hf
  match xs, hlen with
  | [y0, y1, y2, y3, y4, y5], _ =>
    have h0 := hfl 0 _ rfl
    have h1 := hfl 1 _ rfl
    have h2 := hfl 2 _ rfl
    have h3 := hfl 3 _ rfl
    have h4 := hfl 4 _ rfl
    have h5 := hfl 5 _ rfl
    obtain ⟨p1, q1, w1⟩ := open_rat4 (c0 := a0) (c1 := a1) (c2 := a2) (c3 := a3) (y := y0) (by simpa [Value.cells, k4] using h0)
    obtain ⟨p2, q2, w2⟩ := open_rat4 (c0 := b0) (c1 := b1) (c2 := b2) (c3 := b3) (y := y1) (by simpa [Value.cells, k4] using h1)
    obtain ⟨p3, q3, w3⟩ := open_rat4 (c0 := c0) (c1 := c1) (c2 := c2) (c3 := c3) (y := y2) (by simpa [Value.cells, k4] using h2)
    obtain ⟨p4, q4, w4⟩ := open_rat4 (c0 := d0) (c1 := d1) (c2 := d2) (c3 := d3) (y := y3) (by simpa [Value.cells, k4] using h3)
    obtain ⟨p5, q5, w5⟩ := open_rat4 (c0 := e0) (c1 := e1) (c2 := e2) (c3 := e3) (y := y4) (by simpa [Value.cells, k4] using h4)
    obtain ⟨p6, q6, w6⟩ := open_rat4 (c0 := f0) (c1 := f1) (c2 := f2) (c3 := f3) (y := y5) (by simpa [Value.cells, k4] using h5)
    exact ⟨_, rawN_of (vs := [a0, a1, a2, a3, b0, b1, b2, b3, c0, c1, c2, c3, d0, d1, d2, d3, e0, e1, e2, e3, f0, f1, f2, f3]) (ps := [(p1, q1), (p2, q2), (p3, q3), (p4, q4), (p5, q5), (p6, q6)]) ⟨[a0, a1, a2, a3], _, rfl, w1, [b0, b1, b2, b3], _, rfl, w2, [c0, c1, c2, c3], _, rfl, w3, [d0, d1, d2, d3], _, rfl, w4, [e0, e1, e2, e3], _, rfl, w5, [f0, f1, f2, f3], _, rfl, w6, rfl⟩⟩
theorem okWide_arr {W : World} {r : Reach} {b0 : Nat} {t e : TypeId} {n : Nat} {v : Value} (ht : Tryz.prog.underlying t = some (.array n e)) (h : Value.okWide Tryz.prog W r b0 t v) : ∃ cs, v = .agg cs ∧ cs.size = Tryz.prog.cellsOf t := by
  unfold Value.okWide at h
  rw [ht] at h
  obtain ⟨cs, h1, h2, _⟩ := h
  exact ⟨cs, h1, h2⟩
theorem open_f4 {H : Type} {enc : TypeId × Value → H} {W : World} {b0 base : Nat} {spare : Nat → Bool} {held : Bool} {r : Reach} {v : Value} {d : DataW H} {p : List MemPlace}
    (hv : Value.okWide Tryz.prog W r b0 59 v) (h : DataW.Trod enc Tryz.prog W base spare held 59 v d p) : ∃ l, RawN W v 4 l := by
  obtain ⟨cs, rfl, hsz⟩ := okWide_arr Tryz.underlying59 hv
  have c16 : Tryz.prog.cellsOf 59 = 16 := by kernel_rfl
  have k4 : Tryz.prog.cellsOf 33 = 4 := by kernel_rfl
  obtain ⟨a0, a1, a2, a3, b0, b1, b2, b3, c0, c1, c2, c3, d0, d1, d2, d3, rfl⟩ := arr16 (hsz.trans c16)
  obtain ⟨fuel, hf⟩ := h
  obtain ⟨xs, m, _, _, _, hl, hel⟩ := DataW.trod_array Tryz.underlying59 hf
  match xs, hl with
  | [y0, y1, y2, y3], _ =>
    have h0 := hel 0 (by omega)
    have h1 := hel 1 (by omega)
    have h2 := hel 2 (by omega)
    have h3 := hel 3 (by omega)
    obtain ⟨p1, q1, w1⟩ := open_rat4 (c0 := a0) (c1 := a1) (c2 := a2) (c3 := a3) (y := y0) (by simpa [Value.cells, k4] using h0)
    obtain ⟨p2, q2, w2⟩ := open_rat4 (c0 := b0) (c1 := b1) (c2 := b2) (c3 := b3) (y := y1) (by simpa [Value.cells, k4] using h1)
    obtain ⟨p3, q3, w3⟩ := open_rat4 (c0 := c0) (c1 := c1) (c2 := c2) (c3 := c3) (y := y2) (by simpa [Value.cells, k4] using h2)
    obtain ⟨p4, q4, w4⟩ := open_rat4 (c0 := d0) (c1 := d1) (c2 := d2) (c3 := d3) (y := y3) (by simpa [Value.cells, k4] using h3)
    exact ⟨_, rawN_of (vs := [a0, a1, a2, a3, b0, b1, b2, b3, c0, c1, c2, c3, d0, d1, d2, d3]) (ps := [(p1, q1), (p2, q2), (p3, q3), (p4, q4)]) ⟨[a0, a1, a2, a3], _, rfl, w1, [b0, b1, b2, b3], _, rfl, w2, [c0, c1, c2, c3], _, rfl, w3, [d0, d1, d2, d3], _, rfl, w4, rfl⟩⟩
theorem u16_wf {n : Int} (h : (Lit.int .u16 n).wf = true) : 0 ≤ n ∧ n ≤ 65535 := by
  simp only [Lit.wf, Bool.and_eq_true, decide_eq_true_iff] at h
  exact h
end Go.Proofs.YtcgkmnjfkljjlaaGreat
end

section
set_option maxRecDepth 100000
namespace Go.Proofs.YtcgkmnjfkljjlaaGreat
open Go.RowKit
def termC (k : Nat) : List IT2 → List Chunk
  | [] => []
  | t :: ts => .int t.1 k :: .int t.2 k :: termC k ts
theorem termC_holds {E : Env} {w : World} {k : Nat} : ∀ {ts : List IT2} {qs : List Rat} {vs : List Value}, Reps E ts qs → RatsQ w vs qs → LimQs k qs → chunks E w (termC k ts) vs
  | [], [], vs, _, h, _ => h
  | [], _ :: _, _, hr, _, _ => hr.elim
  | _ :: _, [], _, hr, _, _ => hr.elim
  | t :: ts, q :: qs, vs, hr, ⟨x, r, e, h1, h2⟩, hl => by
    subst e
    exact (two_chunks hr.1).2 ⟨x, r, rfl, ⟨h1, (hl q (by simp)).1, (hl q (by simp)).2⟩, termC_holds hr.2 h2 (fun p hp => hl p (by simp [hp]))⟩
theorem roots_args {w : World} {vs : List Value} {a b c a' b' c' : Rat} (h : ArgsQ w vs [[a, b, c], [a', b', c']]) : ∃ v u, vs = [v, u] ∧ IsRoot w v a b c ∧ IsRoot w u a' b' c' := by
  obtain ⟨v, u, rfl, h1, h2⟩ := argsQ2 h
  exact ⟨v, u, rfl, qs_root h1, qs_root h2⟩
theorem LimR.mono9 {a b c : Rat} (l : LimR 2 a b c) : LimR 9 a b c := l.mono (by omega)
theorem cmpT {E : Env} {t u : List IT2} {a b c a' b' c' : Rat} {z : Int} (h1 : Reps E t [a, b, c]) (h2 : Reps E u [a', b', c']) (R : Rd b c) (R' : Rd b' c') (l : LimR 9 a b c) (l' : LimR 9 a' b' c') (hz : cmR a b c a' b' c' = z) : KnownR E 29 (cts [t, u]) (rNq z) := by
  refine knownT (ls := [[a, b, c], [a', b', c']]) ⟨h1, h2, trivial⟩ (fun x off e => by cases e) fun w vs hv => ?_
  obtain ⟨v, u, rfl, k1, k2⟩ := roots_args hv
  refine (radCmp_calls w v u a b c a' b' c' R R' k1 k2 l l').mono ?_
  rintro e w' ⟨rfl, ex⟩
  exact ⟨_, rfl, fun β => one_num.2 (by rw [hz]; rfl), ex⟩
theorem rt_of {E : Env} {β : Nat → Nat} {w : World} {v : Value} {i : Nat} {a b c : Rat} (h1 : RepQ E (qI i) a) (h2 : RepQ E (qI (i + 2)) b) (h3 : RepQ E (qI (i + 4)) c) (h : IsRoot w v a b c) (l : LimR 2 a b c) : (AV.val true (rt (qI i) (qI (i + 2)) (qI (i + 4)) 2)).holds E β w v := (one_root h1 h2 h3).2 ⟨h, l⟩
def aR2 (i : Nat) : AV := .val true (rt (qI i) (qI (i + 2)) (qI (i + 4)) 2)
def aQ2 (i : Nat) : AV := .val true [.int (.var i) 2, .int (.var (i + 1)) 2]
structure Sm5 (w : World) (v : Value) (a b c : Rat) : Prop where
  is : IsRoot w v a b c
  lim : LimR 2 a b c
  rd : Rd b c
theorem sm5_root {w : World} {v : Value} {p1 p2 p3 p4 p5 p6 : RI} (h : RawR w v p1 p2 p3 p4 p5 p6) (hs : sm5 p1 p2 p3 p4 p5 p6 = true) : ∃ a b c, Sm5 w v a b c := by
  unfold sm5 at hs
  simp only [Bool.and_eq_true] at hs
  obtain ⟨⟨h1, h2, h3⟩, h4⟩ := hs
  obtain ⟨k1, k2⟩ := h.root h1 h2 h3
  exact ⟨_, _, _, k1, k2, Rdb_iff.1 h4⟩
noncomputable def tabCmL (z y : Int) : List (Nat × Con) :=
  (24, kKq (c6 rqA) (rBl true) (kKq (c6 rqB) (rBl true) kNoQ)) ::
  (25, kKq (cts [rqA, rqB]) (.val true (termC 40 cmTs)) kNoQ) :: (26, kKq (cts [rqA, rqB]) (.val true (termC 40 cmTs)) kNoQ) ::
  (29, kKq (cts [rqA, rqB]) (rNq z) kNoQ) :: (28, kKq (cts [rqA, rqB]) (rNq z) kNoQ) :: (30, kKq (cts [rqA, rqB]) (rBl (z == 0)) kNoQ) ::
  (31, kKq (cts [rqA, [qI 12]]) (rNq y) kNoQ) :: (32, kKq (cts [rqA, [qI 12]]) (rNq y) kNoQ) :: (tabA5 ++ tabT)
noncomputable def cCmL (z y : Int) : Cfg := cfgS 18 (oInt 12 1) (cfgOf (tabCmL z y))
theorem cmL_walk : (sgs.all fun z => sgs.all fun y => okTr (funE (cCmL z y) Tryz.f6 [] [aR2 0, aR2 6, aQ2 12])) = true := by kernel_rfl
noncomputable def tabCmB (x y : Bool) : List (Nat × Con) := (24, kKq (cRw 0) (rBl x) (kKq (cRw 6) (rBl y) kNoQ)) :: tabA5
noncomputable def cCmB (x y z : Bool) : Cfg := cfgS 18 (oRaw 12 1 z) (cfgOf (tabCmB x y))
theorem cmL_bad : (bools.all fun x => bools.all fun y => bools.all fun z => (x && (y && z)) || okTr (funE (cCmB x y z) Tryz.f6 [] [.val true (rwC 0), .val true (rwC 6), .val true (rawL 12 2)])) = true := by kernel_rfl
theorem three_argsQ {E : Env} {w : World} {x y z : AV} {v u t : Value} (h1 : ∀ β, x.holds E β w v) (h2 : ∀ β, y.holds E β w u) (h3 : ∀ β, z.holds E β w t) : ∀ (i : Nat) (s : AV), [x, y, z][i]? = some s → ∃ r, [v, u, t][i]? = some r ∧ ∀ β, s.holds E β w r := by
  intro i s hs
  match i, hs with
  | 0, hs => injection hs with hs; subst hs; exact ⟨v, rfl, h1⟩
  | 1, hs => injection hs with hs; subst hs; exact ⟨u, rfl, h2⟩
  | 2, hs => injection hs with hs; subst hs; exact ⟨t, rfl, h3⟩
theorem rawQ_chunks {E : Env} {w : World} {i : Nat} {v : Value} (h : RawQ w v (E.r i).1 (E.r i).2 (E.r (i + 1)).1 (E.r (i + 1)).2) : ∀ β, (AV.val true (rawL i 2)).holds E β w v := fun _ => by
  obtain ⟨a, b, c, d, rfl, h1, h2⟩ := h
  exact ⟨[a, b, c, d], rfl, two_raws.2 ⟨[a, b, c, d], [], rfl, ⟨a, b, c, d, rfl, h1, h2⟩, rfl⟩⟩
theorem radicalCmp_calls (w : World) (v u t : Value) (p1 p2 p3 p4 p5 p6 q1 q2 q3 q4 q5 q6 s1 s2 : RI) (h : RawR w v p1 p2 p3 p4 p5 p6) (h' : RawR w u q1 q2 q3 q4 q5 q6) (ht : RawQ w t s1.1 s1.2 s2.1 s2.2) : Calls Tryz.prog 6 #[v, u, t] w (IsT w) := by
  by_cases hg : (sm5 p1 p2 p3 p4 p5 p6 && (sm5 q1 q2 q3 q4 q5 q6 && smN 2 s1 s2)) = true
  · rw [Bool.and_eq_true, Bool.and_eq_true] at hg
    obtain ⟨g1, g2, g3⟩ := hg
    obtain ⟨a, b, c, ⟨i1, l1, R1⟩⟩ := sm5_root h g1
    obtain ⟨a', b', c', ⟨i2, l2, R2⟩⟩ := sm5_root h' g2
    obtain ⟨i3, l3⟩ := smN_rat ht g3
    generalize rq s1 s2 = d at *
    obtain ⟨E, hE⟩ : ∃ E, E = qE [a, b, c, a', b', c', d] := ⟨_, rfl⟩
    have q : Rts E a b c a' b' c' := by rw [hE]; exact rts_mk _ _ _ _ _ _ _
    have rd : RepQ E (qI 12) d := by rw [hE]; exact ⟨rfl, rfl⟩
    have hQ : QEnv E := by rw [hE]; exact qE_ok _
    have rA : Reps E rqA [a, b, c] := ⟨q.r1, q.r2, q.r3, trivial⟩
    have rB : Reps E rqB [a', b', c'] := ⟨q.r4, q.r5, q.r6, trivial⟩
    have hs : RowSm E 18 (oInt 12 1) := by
      obtain ⟨x0, x1, x2, x3, rfl, i31, i32⟩ := i3
      refine oInt_ok fewW1 (by decide) (fewB_ints (qs := [d]) (vs := [x0, x1, x2, x3]) (w := w) (fun j p hj => ?_) ⟨[x0, x1, x2, x3], [], rfl, ⟨x0, x1, x2, x3, rfl, i31, i32⟩, rfl⟩ (fun p hp => ?_))
      · match j, hj with
        | 0, hj => injection hj with hj; subst hj; exact rd
      · rw [List.mem_singleton] at hp; subst hp; exact l3
    have nb : ∀ {f : Nat}, (∃ fn, Tryz.prog.funcs[f]? = some fn ∧ fn.name ≠ "runtime.NumGoroutine" ∧ fn.body.isNone = false) → ConOK Tryz.prog E f kNoQ := fun h => kNoQ_ok h
    have subT : ∀ {f : Nat}, (∀ (w : World) (v u : Value), IsRoot w v a b c → IsRoot w u a' b' c' → Calls Tryz.prog f #[v, u] w (Ret (fun x w' => IsQs w' x [a - a', b, -b', 0, c, c']) w)) → KnownR E f (cts [rqA, rqB]) (.val true (termC 40 cmTs)) := by
      intro f hf
      refine knownT (ls := [[a, b, c], [a', b', c']]) ⟨rA, rB, trivial⟩ (fun x off e => by cases e) fun w vs hv => ?_
      obtain ⟨v, u, rfl, k1, k2⟩ := roots_args hv
      refine (hf w v u k1 k2).mono ?_
      rintro e w' ⟨x, rfl, ⟨ys, rfl, hy⟩, ex⟩
      exact ⟨_, rfl, fun β => ⟨ys, rfl, termC_holds (cm_reps q.r1 q.r2 q.r3 q.r4 q.r5 q.r6) hy (sub_lims l1.mono9 l2.mono9)⟩, ex⟩
    have numT : ∀ {f : Nat} {ls : List (List Rat)} {ts : List (List IT2)} {z : Int}, RepsL E ts ls → (∀ (w : World) (vs : List Value), ArgsQ w vs ls → Calls Tryz.prog f vs.toArray w (RetN z w)) → KnownR E f (cts ts) (rNq z) := by
      intro f ls ts z hr hf
      refine knownT hr (fun x off e => by cases e) fun w vs hv => (hf w vs hv).mono ?_
      rintro e w' ⟨rfl, ex⟩
      exact ⟨_, rfl, fun β => one_num.2 rfl, ex⟩
    have rt2 : ∀ {w : World} {vs : List Value}, ArgsQ w vs [[a, b, c], [d]] → ∃ v u, vs = [v, u] ∧ IsRoot w v a b c ∧ IsRat w u d := by
      intro w vs h
      obtain ⟨v, u, rfl, k1, k2⟩ := argsQ2 h
      exact ⟨v, u, rfl, qs_root k1, qs_rat k2⟩
    have l9 : LimQ 9 d := ⟨l3.1.mono (by omega), l3.2.mono (by omega)⟩
    have hT : TabOK Tryz.prog E (tabCmL (cmR a b c a' b' c') (cmR a b c d 0 0)) := by
      refine .cons (kKr_ok (smInt_known rA R1 l1) (kKr_ok (smInt_known rB R2 l2) (nb ⟨_, Tryz.func24, by decide +kernel, by kernel_rfl⟩))) <|
        .cons (kKr_ok (subT fun w v u k1 k2 => radSub_calls w v u a b c a' b' c' k1 k2 l1.mono9 l2.mono9) (nb ⟨_, Tryz.func25, by decide +kernel, by kernel_rfl⟩)) <|
        .cons (kKr_ok (subT fun w v u k1 k2 => refSub_calls w v u a b c a' b' c' k1 k2 l1.mono9 l2.mono9) (nb ⟨_, Tryz.func26, by decide +kernel, by kernel_rfl⟩)) <|
        .cons (kKr_ok (cmpT rA rB R1 R2 l1.mono9 l2.mono9 rfl) (nb ⟨_, Tryz.func29, by decide +kernel, by kernel_rfl⟩)) <|
        .cons (kKr_ok (numT (ls := [[a, b, c], [a', b', c']]) ⟨rA, rB, trivial⟩ fun w vs hv => ?_) (nb ⟨_, Tryz.func28, by decide +kernel, by kernel_rfl⟩)) <|
        .cons (kKr_ok (knownT (ls := [[a, b, c], [a', b', c']]) ⟨rA, rB, trivial⟩ (fun x off e => by cases e) fun w vs hv => ?_) (nb ⟨_, Tryz.func30, by decide +kernel, by kernel_rfl⟩)) <|
        .cons (kKr_ok (numT (ls := [[a, b, c], [d]]) ⟨rA, ⟨rd, trivial⟩, trivial⟩ fun w vs hv => ?_) (nb ⟨_, Tryz.func31, by decide +kernel, by kernel_rfl⟩)) <|
        .cons (kKr_ok (numT (ls := [[a, b, c], [d]]) ⟨rA, ⟨rd, trivial⟩, trivial⟩ fun w vs hv => ?_) (nb ⟨_, Tryz.func32, by decide +kernel, by kernel_rfl⟩)) (TabOK.app tabA5_ok (tabT_ok hQ))
      · obtain ⟨v, u, rfl, k1, k2⟩ := roots_args hv
        exact refCmp_calls w v u a b c a' b' c' k1 k2 l1.mono9 l2.mono9
      · obtain ⟨v, u, rfl, k1, k2⟩ := roots_args hv
        refine (radEqual_calls w v u a b c a' b' c' R1 R2 k1 k2 l1.mono9 l2.mono9).mono ?_
        rintro e w' ⟨rfl, ex⟩
        exact ⟨_, rfl, fun β => one_bool.2 rfl, ex⟩
      · obtain ⟨v, u, rfl, k1, k2⟩ := rt2 hv
        exact radCmpRat_calls w v u a b c d R1 k1 k2 l1.mono9 l9
      · obtain ⟨v, u, rfl, k1, k2⟩ := rt2 hv
        exact refCmpRat_calls w v u a b c d R1.nonneg k1 k2 l1.mono9 l9
    exact lawQ_calls (cfgS_ok (cfg_ok hT) hs few_body) (fun _ => trivial) no_asm Tryz.func6 (by decide +kernel) (List.all_eq_true.1 (List.all_eq_true.1 cmL_walk _ (cmR_range a b c a' b' c')) _ (cmR_range a b c d 0 0)) (by decide +kernel) rfl w [v, u, t] rfl
      (three_argsQ (fun β => rt_of q.r1 q.r2 q.r3 i1 l1) (fun β => rt_of q.r4 q.r5 q.r6 i2 l2) (fun β => (one_q (A := qI 12) rd).2 ⟨i3, l3.1, l3.2⟩))
  · obtain ⟨L, hL⟩ : ∃ L, L = [p1, p2, p3, p4, p5, p6, q1, q2, q3, q4, q5, q6, s1, s2] := ⟨_, rfl⟩
    have hs : RowSm (bE okQ L) 18 (oRaw 12 1 (smN 2 s1 s2)) := by
      have := oRaw_ok (E := bE okQ L) (i := 12) (n := 1) (l := [s1, s2]) fewW1 (by decide) (fun k hk => by
        subst hL
        match k, hk with
        | 0, _ => rfl
        | 1, _ => rfl)
      rwa [fewB1] at this
    have hT : TabOK Tryz.prog (bE okQ L) (tabCmB (sm5 p1 p2 p3 p4 p5 p6) (sm5 q1 q2 q3 q4 q5 q6)) := by
      subst hL
      exact .cons (kKr_ok (smRaw_known rfl) (kKr_ok (smRaw_known rfl) (kNoQ_ok ⟨_, Tryz.func24, by decide +kernel, by kernel_rfl⟩))) tabA5_ok
    have hW := List.all_eq_true.1 (List.all_eq_true.1 (List.all_eq_true.1 cmL_bad (sm5 p1 p2 p3 p4 p5 p6) (bools_mem _)) (sm5 q1 q2 q3 q4 q5 q6) (bools_mem _)) (smN 2 s1 s2) (bools_mem _)
    rw [Bool.or_eq_true] at hW
    refine lawQ_calls (cfgS_ok (cfg_ok hT) hs few_body) (fun _ => trivial) no_asm Tryz.func6 (by decide +kernel) (hW.resolve_left hg) (by decide +kernel) rfl w [v, u, t] rfl (three_argsQ (fun β => ?_) (fun β => ?_) (rawQ_chunks ?_))
    · subst hL; exact (one_rwC (i := 0)).2 h
    · subst hL; exact (one_rwC (i := 6)).2 h'
    · subst hL; exact ht
end Go.Proofs.YtcgkmnjfkljjlaaGreat
end

section
set_option maxRecDepth 100000
namespace Go.Proofs.YtcgkmnjfkljjlaaGreat
open Go.RowKit
theorem HasSg.add_both {f g : Sq} {s t u : Int} (h : HasSg f s) (k : HasSg g t) (hu : HasSg (fun n => f n + g n) u) : (0 ≤ s → 0 ≤ t → max s t ≤ u) ∧ (s ≤ 0 → t ≤ 0 → u ≤ min s t) := by
  have neg : ∀ {f g : Sq}, PosS (fun n => - f n) → PosS (fun n => - g n) → PosS fun n => - (f n + g n) := fun h k => pos_congr (fun n => by grind) (pos_add h k)
  rcases h with ⟨rfl, h⟩ | ⟨rfl, h⟩ | ⟨rfl, h⟩ <;> rcases k with ⟨rfl, k⟩ | ⟨rfl, k⟩ | ⟨rfl, k⟩
  · have := hu.unique (.inl ⟨rfl, pos_add h k⟩); omega
  · have := hu.unique (.inl ⟨rfl, pos_add_null h k⟩); omega
  · exact ⟨fun _ j => by omega, fun j _ => by omega⟩
  · have := hu.unique (.inl ⟨rfl, pos_congr (fun n => by grind) (pos_add_null k h)⟩); omega
  · have := hu.unique (.inr (.inl ⟨rfl, null_add h k⟩)); omega
  · have := hu.unique (.inr (.inr ⟨rfl, pos_congr (fun n => by grind) (pos_add_null k (null_neg h))⟩)); omega
  · exact ⟨fun j _ => by omega, fun _ j => by omega⟩
  · have := hu.unique (.inr (.inr ⟨rfl, pos_congr (fun n => by grind) (pos_add_null h (null_neg k))⟩)); omega
  · have := hu.unique (.inr (.inr ⟨rfl, neg h k⟩)); omega
theorem cmR_trans {a b c a' b' c' a2 b2 c2 : Rat} (h1 : 0 ≤ c) (h2 : 0 ≤ c') (h3 : 0 ≤ c2) :
    (0 ≤ cmR a b c a' b' c' → 0 ≤ cmR a' b' c' a2 b2 c2 → max (cmR a b c a' b' c') (cmR a' b' c' a2 b2 c2) ≤ cmR a b c a2 b2 c2) ∧ (cmR a b c a' b' c' ≤ 0 → cmR a' b' c' a2 b2 c2 ≤ 0 → cmR a b c a2 b2 c2 ≤ min (cmR a b c a' b' c') (cmR a' b' c' a2 b2 c2)) := by
  obtain ⟨m, hm⟩ := exists_rt h1
  obtain ⟨n, hn⟩ := exists_rt h2
  obtain ⟨k, hk⟩ := exists_rt h3
  exact HasSg.add_both (cmR_sg h1 h2 hm hn) (cmR_sg h2 h3 hn hk) ((cmR_sg h1 h3 hm hk).of_eq fun i => by grind)
theorem cmR_anti {a b c a' b' c' : Rat} (h1 : 0 ≤ c) (h2 : 0 ≤ c') : cmR a' b' c' a b c = - cmR a b c a' b' c' := by
  obtain ⟨m, hm⟩ := exists_rt h1
  obtain ⟨n, hn⟩ := exists_rt h2
  exact (cmR_sg h2 h1 hn hm).unique ((cmR_sg (a := a) (b := b) (a' := a') (b' := b') h1 h2 hm hn).neg.of_eq fun i => by grind)
theorem cmR_shift {a b c a' b' c' k : Rat} (h1 : 0 ≤ c) (h2 : 0 ≤ c') : cmR (a + k) b c (a' + k) b' c' = cmR a b c a' b' c' := by
  obtain ⟨m, hm⟩ := exists_rt h1
  obtain ⟨n, hn⟩ := exists_rt h2
  exact (cmR_sg h1 h2 hm hn).unique ((cmR_sg (a := a) (b := b) (a' := a') (b' := b') h1 h2 hm hn).of_eq fun i => by grind)
theorem bdd_diff {a b c a' b' c' : Rat} {m n : Sq} (h1 : 0 ≤ c) (h2 : 0 ≤ c') (hm : IsRt c m) (hn : IsRt c' n) : Bdd fun k => (a + b * m k) - (a' + b' * n k) := bdd_sub (bdd2 h1 hm) (bdd2 h2 hn)
theorem cmR_mul {a b c a' b' c' k : Rat} (h1 : 0 ≤ c) (h2 : 0 ≤ c') : cmR (a * k) (b * k) c (a' * k) (b' * k) c' = cmR a b c a' b' c' * sgQ' k := by
  obtain ⟨m, hm⟩ := exists_rt h1
  obtain ⟨n, hn⟩ := exists_rt h2
  exact (cmR_sg h1 h2 hm hn).unique (((cmR_sg (a := a) (b := b) (a' := a') (b' := b') h1 h2 hm hn).mul (hasSg_const k) (bdd_diff h1 h2 hm hn) (bdd_const k)).of_eq fun i => by grind)
theorem LimQ.add' {l m k j n : Nat} {a b : Rat} (h1 : Lim l a.num) (h2 : Lim m (a.den : Int)) (h3 : Lim k b.num) (h4 : Lim j (b.den : Int)) (e1 : l + j < n) (e2 : k + m < n) : Lim n (a + b).num ∧ Lim (m + j) ((a + b).den : Int) := by
  have e : a + b = a - (-b) := by grind
  rw [e]
  exact LimQ.sub' h1 h2 (by rw [Rat.neg_num]; exact h3.neg) (show Lim j ((-b).den : Int) from h4) e1 e2
theorem Rd.times {b c k : Rat} (R : Rd b c) (hk : k ≠ 0) : Rd (b * k) c := by
  rcases R with ⟨h1, h2⟩ | ⟨h1, h2⟩
  · exact .inl ⟨by rw [h1]; exact Rat.zero_mul k, h2⟩
  · exact .inr ⟨fun h => by rcases Rat.mul_eq_zero.1 h with h | h <;> contradiction, h2⟩
def rqC : List IT2 := [qI 12, qI 14, qI 16]
def rqS (i : Nat) : List IT2 := [qop 0 (qI i) (qI 12), qI (i + 2), qI (i + 4)]
def rqM (i : Nat) : List IT2 := [qop 2 (qI i) (qI 12), qop 2 (qI (i + 2)) (qI 12), qI (i + 4)]
noncomputable def tabOd (s t u g : Int) : List (Nat × Con) :=
  (24, kKq (c6 rqA) (rBl true) (kKq (c6 rqB) (rBl true) (kKq (c6 rqC) (rBl true) kNoQ))) ::
  (29, kKq (cts [rqA, rqB]) (rNq s) (kKq (cts [rqB, rqC]) (rNq t) (kKq (cts [rqA, rqC]) (rNq u) (kKq (cts [rqB, rqA]) (rNq (-s)) (kKq (cts [rqS 0, rqS 6]) (rNq s) (if g == 0 then kNoQ else kKq (cts [rqM 0, rqM 6]) (rNq (s * g)) kNoQ)))))) ::
  (34, kKq (cts [[qI 12]]) (rNq g) kNoQ) :: (tabA5 ++ tabT)
def okOd (s t u : Int) : Bool := (!(decide (0 ≤ s) && decide (0 ≤ t)) || decide (max s t ≤ u)) && (!(decide (s ≤ 0) && decide (t ≤ 0)) || decide (u ≤ min s t))
theorem od_walk : (sgs.all fun s => sgs.all fun t => sgs.all fun u => sgs.all fun g => !(okOd s t u) || okTr (funE (cfgOf (tabOd s t u g)) Tryz.f7 [] [aR2 0, aR2 6, aR2 12])) = true := by kernel_rfl
noncomputable def tabOB (x y z : Bool) : List (Nat × Con) := (24, kKq (cRw 0) (rBl x) (kKq (cRw 6) (rBl y) (kKq (cRw 12) (rBl z) kNoQ))) :: tabA5
theorem od_bad : (bools.all fun x => bools.all fun y => bools.all fun z => (x && (y && z)) || okTr (funE (cfgOf (tabOB x y z)) Tryz.f7 [] [.val true (rwC 0), .val true (rwC 6), .val true (rwC 12)])) = true := by kernel_rfl
theorem radicalOrder_calls (w : World) (v u t : Value) (p1 p2 p3 p4 p5 p6 q1 q2 q3 q4 q5 q6 s1 s2 s3 s4 s5 s6 : RI) (h : RawR w v p1 p2 p3 p4 p5 p6) (h' : RawR w u q1 q2 q3 q4 q5 q6) (ht : RawR w t s1 s2 s3 s4 s5 s6) : Calls Tryz.prog 7 #[v, u, t] w (IsT w) := by
  by_cases hg : (sm5 p1 p2 p3 p4 p5 p6 && (sm5 q1 q2 q3 q4 q5 q6 && sm5 s1 s2 s3 s4 s5 s6)) = true
  · rw [Bool.and_eq_true, Bool.and_eq_true] at hg
    obtain ⟨g1, g2, g3⟩ := hg
    obtain ⟨a, b, c, ⟨i1, l1, R1⟩⟩ := sm5_root h g1
    obtain ⟨a', b', c', ⟨i2, l2, R2⟩⟩ := sm5_root h' g2
    obtain ⟨k, b2, c2, ⟨i3, l3, R3⟩⟩ := sm5_root ht g3
    obtain ⟨E, hE⟩ : ∃ E, E = qE [a, b, c, a', b', c', k, b2, c2] := ⟨_, rfl⟩
    have q : Rts E a b c a' b' c' := by rw [hE]; exact rts_mk _ _ _ _ _ _ _
    have rk : RepQ E (qI 12) k := by rw [hE]; exact ⟨rfl, rfl⟩
    have rb2 : RepQ E (qI 14) b2 := by rw [hE]; exact ⟨rfl, rfl⟩
    have rc2 : RepQ E (qI 16) c2 := by rw [hE]; exact ⟨rfl, rfl⟩
    have hQ : QEnv E := by rw [hE]; exact qE_ok _
    have rA : Reps E rqA [a, b, c] := ⟨q.r1, q.r2, q.r3, trivial⟩
    have rB : Reps E rqB [a', b', c'] := ⟨q.r4, q.r5, q.r6, trivial⟩
    have rC : Reps E rqC [k, b2, c2] := ⟨rk, rb2, rc2, trivial⟩
    have s : ∀ {p q : IT2} {a b : Rat}, RepQ E p a → RepQ E q b → RepQ E (qop 0 p q) (a + b) := fun h1 h2 => rep_op (f := 0) (by omega) h1 h2
    have m : ∀ {p q : IT2} {a b : Rat}, RepQ E p a → RepQ E q b → RepQ E (qop 2 p q) (a * b) := fun h1 h2 => rep_op (f := 2) (by omega) h1 h2
    have rSA : Reps E (rqS 0) [a + k, b, c] := ⟨s q.r1 rk, q.r2, q.r3, trivial⟩
    have rSB : Reps E (rqS 6) [a' + k, b', c'] := ⟨s q.r4 rk, q.r5, q.r6, trivial⟩
    have rMA : Reps E (rqM 0) [a * k, b * k, c] := ⟨m q.r1 rk, m q.r2 rk, q.r3, trivial⟩
    have rMB : Reps E (rqM 6) [a' * k, b' * k, c'] := ⟨m q.r4 rk, m q.r5 rk, q.r6, trivial⟩
    have lS : ∀ {a b c : Rat}, LimR 2 a b c → LimR 9 (a + k) b c := by
      intro a b c l
      have x := LimQ.add' (n := 5) l.1.1 l.1.2 l3.1.1 l3.1.2 (by omega) (by omega)
      exact ⟨⟨x.1.mono (by omega), x.2.mono (by omega)⟩, l.mono9.2⟩
    have lM : ∀ {a b c : Rat}, LimR 2 a b c → LimR 9 (a * k) (b * k) c := by
      intro a b c l
      have x := LimQ.mul' l.1.1 l.1.2 l3.1.1 l3.1.2
      have y := LimQ.mul' l.2.1.1 l.2.1.2 l3.1.1 l3.1.2
      exact ⟨⟨x.1.mono (by omega), x.2.mono (by omega)⟩, ⟨y.1.mono (by omega), y.2.mono (by omega)⟩, l.mono9.2.2⟩
    have nb : ConOK Tryz.prog E 29 kNoQ := kNoQ_ok ⟨_, Tryz.func29, by decide +kernel, by kernel_rfl⟩
    have n1 := R1.nonneg
    have n2 := R2.nonneg
    have n3 := R3.nonneg
    have hsg : (sgQ' k == 0) = decide (k = 0) := by
      rw [Bool.eq_iff_iff, beq_iff_eq, decide_eq_true_iff, sgQ'_num]
      rw [← Rat.num_eq_zero]
      rcases cmpZ_cases k.num 0 with ⟨j, e⟩ | ⟨j, e⟩ | ⟨j, e⟩ <;> rw [e] <;> omega
    have hT : TabOK Tryz.prog E (tabOd (cmR a b c a' b' c') (cmR a' b' c' k b2 c2) (cmR a b c k b2 c2) (sgQ' k)) := by
      refine .cons (kKr_ok (smInt_known rA R1 l1) (kKr_ok (smInt_known rB R2 l2) (kKr_ok (smInt_known rC R3 l3) (kNoQ_ok ⟨_, Tryz.func24, by decide +kernel, by kernel_rfl⟩)))) <|
        .cons (kKr_ok (cmpT rA rB R1 R2 l1.mono9 l2.mono9 rfl) <| kKr_ok (cmpT rB rC R2 R3 l2.mono9 l3.mono9 rfl) <| kKr_ok (cmpT rA rC R1 R3 l1.mono9 l3.mono9 rfl) <| kKr_ok (cmpT rB rA R2 R1 l2.mono9 l1.mono9 (cmR_anti n1 n2)) <| kKr_ok (cmpT rSA rSB R1 R2 (lS l1) (lS l2) (cmR_shift n1 n2)) ?_) <|
        .cons (kKr_ok (knownT (ls := [[k]]) ⟨⟨rk, trivial⟩, trivial⟩ (fun x off e => by cases e) fun w vs hv => ?_) (kNoQ_ok ⟨_, Tryz.func34, by decide +kernel, by kernel_rfl⟩)) (TabOK.app tabA5_ok (tabT_ok hQ))
      · rw [hsg]
        by_cases hk : k = 0
        · rw [decide_eq_true hk, if_pos rfl]
          exact nb
        · rw [decide_eq_false hk, if_neg (by decide)]
          exact kKr_ok (cmpT rMA rMB (R1.times hk) (R2.times hk) (lM l1) (lM l2) (cmR_mul n1 n2)) nb
      · obtain ⟨v, rfl, k1⟩ := argsQ1 hv
        obtain ⟨x0, x1, x2, x3, rfl, j1, j2⟩ := qs_rat k1
        refine (rsign_rat_calls w _ k.num (k.den : Int) ⟨x0, x1, x2, x3, rfl, j1, j2⟩ (l3.1.1.mono (by omega)) (l3.1.2.mono (by omega))).mono ?_
        rintro e w' ⟨rfl, ex⟩
        exact ⟨_, rfl, fun β => one_num.2 (by rw [sgQ'_num]; rfl), ex⟩
    obtain ⟨t1, t2⟩ := cmR_trans (a := a) (b := b) (a' := a') (b' := b') (a2 := k) (b2 := b2) n1 n2 n3
    have hok : okOd (cmR a b c a' b' c') (cmR a' b' c' k b2 c2) (cmR a b c k b2 c2) = true := by
      unfold okOd
      rw [Bool.and_eq_true, Bool.or_eq_true, Bool.or_eq_true]
      constructor
      · by_cases g : 0 ≤ cmR a b c a' b' c' ∧ 0 ≤ cmR a' b' c' k b2 c2
        · exact .inr (decide_eq_true (t1 g.1 g.2))
        · refine .inl ?_
          rw [Bool.not_eq_true', Bool.and_eq_false_iff, decide_eq_false_iff_not, decide_eq_false_iff_not]
          omega
      · by_cases g : cmR a b c a' b' c' ≤ 0 ∧ cmR a' b' c' k b2 c2 ≤ 0
        · exact .inr (decide_eq_true (t2 g.1 g.2))
        · refine .inl ?_
          rw [Bool.not_eq_true', Bool.and_eq_false_iff, decide_eq_false_iff_not, decide_eq_false_iff_not]
          omega
    have hW := List.all_eq_true.1 (List.all_eq_true.1 (List.all_eq_true.1 (List.all_eq_true.1 od_walk _ (cmR_range a b c a' b' c')) _ (cmR_range a' b' c' k b2 c2)) _ (cmR_range a b c k b2 c2)) (sgQ' k) (sgs_mem (sgQ'_range k))
    rw [hok, Bool.not_true, Bool.false_or] at hW
    exact lawQ_calls (cfg_ok hT) (fun _ => trivial) no_asm Tryz.func7 (by decide +kernel) hW (by decide +kernel) rfl w [v, u, t] rfl
      (three_argsQ (fun β => rt_of q.r1 q.r2 q.r3 i1 l1) (fun β => rt_of q.r4 q.r5 q.r6 i2 l2) (fun β => rt_of rk rb2 rc2 i3 l3))
  · obtain ⟨L, hL⟩ : ∃ L, L = [p1, p2, p3, p4, p5, p6, q1, q2, q3, q4, q5, q6, s1, s2, s3, s4, s5, s6] := ⟨_, rfl⟩
    have hT : TabOK Tryz.prog (bE okQ L) (tabOB (sm5 p1 p2 p3 p4 p5 p6) (sm5 q1 q2 q3 q4 q5 q6) (sm5 s1 s2 s3 s4 s5 s6)) := by
      subst hL
      exact .cons (kKr_ok (smRaw_known rfl) (kKr_ok (smRaw_known rfl) (kKr_ok (smRaw_known rfl) (kNoQ_ok ⟨_, Tryz.func24, by decide +kernel, by kernel_rfl⟩)))) tabA5_ok
    have hW := List.all_eq_true.1 (List.all_eq_true.1 (List.all_eq_true.1 od_bad (sm5 p1 p2 p3 p4 p5 p6) (bools_mem _)) (sm5 q1 q2 q3 q4 q5 q6) (bools_mem _)) (sm5 s1 s2 s3 s4 s5 s6) (bools_mem _)
    rw [Bool.or_eq_true] at hW
    refine lawQ_calls (cfg_ok hT) (fun _ => trivial) no_asm Tryz.func7 (by decide +kernel) (hW.resolve_left hg) (by decide +kernel) rfl w [v, u, t] rfl (three_argsQ (fun β => ?_) (fun β => ?_) (fun β => ?_))
    · subst hL; exact (one_rwC (i := 0)).2 h
    · subst hL; exact (one_rwC (i := 6)).2 h'
    · subst hL; exact (one_rwC (i := 12)).2 ht
end Go.Proofs.YtcgkmnjfkljjlaaGreat
end

section
set_option maxRecDepth 100000
namespace Go.Proofs.YtcgkmnjfkljjlaaGreat
open Go.RowKit
theorem sumSg_left (t d : Int) : sumSg 0 t d = t := rfl
theorem sumSg_right (s d : Int) : sumSg s 0 d = s := by
  unfold sumSg
  split
  · rename_i h; exact h.symm
  · rfl
theorem sg2_root (b m : Rat) : sg2 0 b m = sgQ' b * sgQ' m := by
  unfold sg2
  rw [sgQ'_zero, sumSg_left]
theorem sg2_plain (a m : Rat) : sg2 a 0 m = sgQ' a := by
  unfold sg2
  rw [sgQ'_zero, Int.zero_mul, sumSg_right]
theorem sg2_null (m : Rat) : sg2 0 0 m = 0 := by rw [sg2_plain, sgQ'_zero]
theorem sgQ'_neg' (a : Rat) : sgQ' (-a) = - sgQ' a := by
  have h := sgQ'_mul (-1) a
  rw [show (-1 : Rat) * a = -a by grind, show sgQ' (-1) = -1 from sgQ'_neg (by decide)] at h
  rw [h]; omega
theorem qsg_nn {A B C D M N : Rat} (hM : 0 ≤ M) (hN : 0 ≤ N) : qsg A B C D M N = sg4 A B C D M N := if_neg (by have := Rat.num_nonneg.2 hM; have := Rat.num_nonneg.2 hN; omega)
theorem zero_one {a m n : Rat} (hm : 0 ≤ m) (hn : 0 ≤ n) : qsg 0 a 0 0 (m * n) 0 = sgQ' a * (sgQ' m * sgQ' n) := by
  rw [qsg_nn (Rat.mul_nonneg hm hn) (by decide)]
  unfold sg4
  rw [sg2_null, Int.zero_mul, sumSg_right, sg2_root, sgQ'_mul]
theorem zero_two {a m n : Rat} (hm : 0 ≤ m) (hn : 0 ≤ n) : qsg 0 0 0 (-a) m n = -(sgQ' a * (sgQ' m * sgQ' n)) := by
  rw [qsg_nn hm hn]
  unfold sg4
  rw [sg2_null, sumSg_left, sg2_root, sgQ'_neg', Int.neg_mul, Int.neg_mul, Int.mul_assoc]
theorem zero_three {a m : Rat} (hm : 0 ≤ m) : qsg 0 a (-2 * a) 0 (4 * m) m = 0 := by
  rw [qsg_nn (by grind) hm]
  unfold sg4
  rw [show (0 : Rat) * 0 + a * a * (4 * m) - m * (-2 * a * (-2 * a) + 0 * 0 * (4 * m)) = 0 by grind, show (0 : Rat) * a - m * (-2 * a * 0) + (0 * a - m * (-2 * a * 0)) = 0 by grind, sg2_null, sg2_root, sg2_plain, sgQ'_scale (by decide), show (-2 : Rat) * a = -(2 * a) by grind, sgQ'_neg', sgQ'_scale (by decide), Int.neg_mul]
  generalize sgQ' a * sgQ' m = x
  unfold sumSg
  split
  · omega
  · split
    · omega
    · split
      · omega
      · exact Int.mul_zero _
def zq : IT2 := (.lit 0, .lit 1)
def u1 : IT2 := (.a1 20 (.var 2), .lit 1)
def u2 : IT2 := (.a1 20 (.var 4), .lit 1)
def tz1 : List IT2 := [zq, qI 0, zq, zq, qop 2 u1 u2, zq]
def tz2 : List IT2 := [zq, zq, zq, (.a1 0 (.var 0), .var 1), u1, u2]
def tz3 : List IT2 := [zq, qI 0, qop 2 (.lit (-2), .lit 1) (qI 0), zq, qop 2 (.lit 4, .lit 1) u1, u1]
def gZr : Asm := [(.le (.lit (-9223372036854775808)) (.a1 20 (.var 2)), true), (.le (.a1 20 (.var 2)) (.lit 9223372036854775807), true), (.le (.lit (-9223372036854775808)) (.a1 20 (.var 4)), true), (.le (.a1 20 (.var 4)) (.lit 9223372036854775807), true)]
noncomputable def tabZr (z : Int) : List (Nat × Con) := (19, kKq (cts [tz1]) (rNq z) (kKq (cts [tz2]) (rNq (-z)) (kKq (cts [tz3]) (rNq 0) kNoQ))) :: (tabA5 ++ tabT)
noncomputable def cZr (z : Int) : Cfg := cfgS 18 (oInt 0 1) (cfgI (cfgOf (tabZr z)) (cfgOf (tabZr z)) [(21, Tryz.f21)])
theorem zr_walk : (sgs.all fun z => okTr (funE (cZr z) Tryz.f5 gZr [.val false [.n .u16 (.var 2)], .val false [.n .u16 (.var 4)], aQ2 0])) = true := by kernel_rfl
theorem zr_bad : okTr (funE (cBad5 1) Tryz.f5 [] [.val false [.n .u16 (.var 2)], .val false [.n .u16 (.var 4)], .val true (rawL 0 2)]) = true := by kernel_rfl
theorem radicalZero_calls (w : World) (m n : Int) (hm : 0 ≤ m ∧ m ≤ 65535) (hn : 0 ≤ n ∧ n ≤ 65535) (t : Value) (s1 s2 : RI) (ht : RawQ w t s1.1 s1.2 s2.1 s2.2) : Calls Tryz.prog 5 #[.int .u16 m, .int .u16 n, t] w (IsT w) := by
  cases hf : smN 2 s1 s2 with
  | false =>
    obtain ⟨E, hE⟩ : ∃ E : Env, E = { bE okQ [s1, s2] with i := fun k => if k = 2 then m else n } := ⟨_, rfl⟩
    have hs : RowSm E 18 (oRaw 0 1 false) := by
      have := oRaw_ok (E := E) (i := 0) (n := 1) (l := [s1, s2]) fewW1 (by decide) (fun k hk => by
        subst hE
        match k, hk with
        | 0, _ => rfl
        | 1, _ => rfl)
      rwa [fewB1, hf] at this
    refine lawQ_calls (cfgS_ok (cfgAr_ok (cfg_ok tabA5_ok) arrQ4_ok) hs few_body) (fun _ => trivial) no_asm Tryz.func5 (by decide +kernel) zr_bad (by decide +kernel) rfl w [_, _, t] rfl (three_argsQ (fun β => one_num.2 ?_) (fun β => one_num.2 ?_) (rawQ_chunks ?_))
    · subst hE; rfl
    · subst hE; rfl
    · subst hE; exact ht
  | true =>
    obtain ⟨i3, l3⟩ := smN_rat ht hf
    generalize rq s1 s2 = a at *
    obtain ⟨E, hE⟩ : ∃ E, E = qE [a, (m : Rat), (n : Rat)] := ⟨_, rfl⟩
    have ra : RepQ E (qI 0) a := by rw [hE]; exact ⟨rfl, rfl⟩
    have em : E.i 2 = m := by rw [hE]; exact qE_int (i := 1) rfl
    have en : E.i 4 = n := by rw [hE]; exact qE_int (i := 2) rfl
    have hQ : QEnv E := by rw [hE]; exact qE_ok _
    have wm : (IT.a1 20 (.var 2)).den E = m := by
      show IntKind.i64.wrap (E.i 2) = m
      rw [em]
      exact IntWalk.i64_in _ (by omega)
    have wn : (IT.a1 20 (.var 4)).den E = n := by
      show IntKind.i64.wrap (E.i 4) = n
      rw [en]
      exact IntWalk.i64_in _ (by omega)
    have r1 : RepQ E u1 (m : Rat) := ⟨by show (IT.a1 20 (.var 2)).den E = _; rw [wm, Rat.num_intCast], by show (1 : Int) = _; rw [Rat.den_intCast]; rfl⟩
    have r2 : RepQ E u2 (n : Rat) := ⟨by show (IT.a1 20 (.var 4)).den E = _; rw [wn, Rat.num_intCast], by show (1 : Int) = _; rw [Rat.den_intCast]; rfl⟩
    have rz : RepQ E zq 0 := ⟨rfl, rfl⟩
    have rn : RepQ E (.a1 0 (.var 0), .var 1) (-a) := ⟨by show -(E.i 0) = _; rw [Rat.neg_num, show E.i 0 = a.num from ra.1], ra.2⟩
    have ml : ∀ {p q : IT2} {a b : Rat}, RepQ E p a → RepQ E q b → RepQ E (qop 2 p q) (a * b) := fun h1 h2 => rep_op (f := 2) (by omega) h1 h2
    have rm2 : RepQ E (.lit (-2), .lit 1) (-2) := ⟨rfl, rfl⟩
    have r4 : RepQ E (.lit 4, .lit 1) 4 := ⟨rfl, rfl⟩
    have R1 : Reps E tz1 [0, a, 0, 0, m * n, 0] := ⟨rz, ra, rz, rz, ml r1 r2, rz, trivial⟩
    have R2 : Reps E tz2 [0, 0, 0, -a, m, n] := ⟨rz, rz, rz, rn, r1, r2, trivial⟩
    have R3 : Reps E tz3 [0, a, -2 * a, 0, 4 * m, m] := ⟨rz, ra, ml rm2 ra, rz, ml r4 r1, r1, trivial⟩
    have li : ∀ z : Int, 0 ≤ z → z ≤ 65535 → LimQ 3 ((z : Rat)) := by
      intro z h1 h2
      refine ⟨?_, ?_⟩
      · rw [Rat.num_intCast]; exact lim3 (by omega) (by omega)
      · rw [Rat.den_intCast]; exact lim3 (z := 1) (by decide) (by decide)
    have l1 := li m hm.1 hm.2
    have l2 := li n hn.1 hn.2
    have lz : LimQ 40 (0 : Rat) := limB_ok (by decide +kernel)
    have lc : ∀ {q : Rat}, limB 3 q = true → LimQ 3 q := limB_ok
    have up : ∀ {k : Nat} {q : Rat}, k ≤ 40 → LimQ k q → LimQ 40 q := fun hk h => ⟨h.1.mono hk, h.2.mono hk⟩
    have lmul : ∀ {p q : Rat}, LimQ 3 p → LimQ 3 q → LimQ 40 (p * q) := by
      intro p q h k
      have x := LimQ.mul' h.1 h.2 k.1 k.2
      exact ⟨x.1.mono (by omega), x.2.mono (by omega)⟩
    have la : LimQ 3 a := ⟨l3.1.mono (by omega), l3.2.mono (by omega)⟩
    have m0 : (0 : Rat) ≤ (m : Rat) := Rat.intCast_nonneg.2 hm.1
    have n0 : (0 : Rat) ≤ (n : Rat) := Rat.intCast_nonneg.2 hn.1
    have L1 : LimQs 40 [0, a, 0, 0, (m : Rat) * (n : Rat), 0] := fun q hq => by
      simp only [List.mem_cons, List.not_mem_nil, or_false] at hq
      rcases hq with rfl | rfl | rfl | rfl | rfl | rfl
      · exact lz
      · exact up (by omega) la
      · exact lz
      · exact lz
      · exact lmul l1 l2
      · exact lz
    have L2 : LimQs 40 [0, 0, 0, -a, (m : Rat), (n : Rat)] := fun q hq => by
      simp only [List.mem_cons, List.not_mem_nil, or_false] at hq
      rcases hq with rfl | rfl | rfl | rfl | rfl | rfl
      · exact lz
      · exact lz
      · exact lz
      · exact up (k := 3) (by omega) ⟨by rw [Rat.neg_num]; exact la.1.neg, la.2⟩
      · exact up (by omega) l1
      · exact up (by omega) l2
    have L3 : LimQs 40 [0, a, -2 * a, 0, 4 * (m : Rat), (m : Rat)] := fun q hq => by
      simp only [List.mem_cons, List.not_mem_nil, or_false] at hq
      rcases hq with rfl | rfl | rfl | rfl | rfl | rfl
      · exact lz
      · exact up (by omega) la
      · exact lmul (lc (by decide +kernel)) la
      · exact lz
      · exact lmul (lc (by decide +kernel)) l1
      · exact up (by omega) l1
    have sgT : ∀ {ts : List IT2} {A B C D M N : Rat} {z : Int}, Reps E ts [A, B, C, D, M, N] → LimQs 40 [A, B, C, D, M, N] → qsg A B C D M N = z → KnownR E 19 (cts [ts]) (rNq z) := by
      intro ts A B C D M N z hr hl hz
      refine knownT (ls := [[A, B, C, D, M, N]]) ⟨hr, trivial⟩ (fun x off e => by cases e) fun w vs hv => ?_
      obtain ⟨v, rfl, k1⟩ := argsQ1 hv
      refine (radSign_calls w v _ _ _ _ _ _ k1 hl).mono ?_
      rintro e w' ⟨rfl, ex⟩
      exact ⟨_, rfl, fun β => one_num.2 (by rw [hz]; rfl), ex⟩
    have hT : TabOK Tryz.prog E (tabZr (sgQ' a * (sgQ' m * sgQ' n))) :=
      .cons (kKr_ok (sgT R1 L1 (zero_one m0 n0)) <| kKr_ok (sgT R2 L2 (zero_two m0 n0)) <| kKr_ok (sgT R3 L3 (zero_three m0)) (kNoQ_ok ⟨_, Tryz.func19, by decide +kernel, by kernel_rfl⟩)) (TabOK.app tabA5_ok (tabT_ok hQ))
    have hs : RowSm E 18 (oInt 0 1) := by
      obtain ⟨x0, x1, x2, x3, rfl, i31, i32⟩ := i3
      refine oInt_ok fewW1 (by decide) (fewB_ints (qs := [a]) (vs := [x0, x1, x2, x3]) (w := w) (fun j p hj => ?_) ⟨[x0, x1, x2, x3], [], rfl, ⟨x0, x1, x2, x3, rfl, i31, i32⟩, rfl⟩ (fun p hp => ?_))
      · match j, hj with
        | 0, hj => injection hj with hj; subst hj; exact ra
      · rw [List.mem_singleton] at hp; subst hp; exact l3
    have hC : CfgOK Tryz.prog E (cZr (sgQ' a * (sgQ' m * sgQ' n))) := cfgS_ok (cfgI_ok mixed (cfg_ok hT) (cfg_ok hT) (fun _ => trivial) (.cons Tryz.func21 (by decide +kernel) (by kernel_rfl) .nil)) hs few_body
    have hG : gZr.holds E := le_t (by rw [wm]; show (-9223372036854775808 : Int) ≤ m; omega) <| le_t (by rw [wm]; show m ≤ 9223372036854775807; omega) <| le_t (by rw [wn]; show (-9223372036854775808 : Int) ≤ n; omega) <| le_t (by rw [wn]; show n ≤ 9223372036854775807; omega) no_asm
    exact lawQ_calls hC (fun _ => trivial) hG Tryz.func5 (by decide +kernel) (List.all_eq_true.1 zr_walk _ (sgs_mem (mul_range (sgQ'_range a) (mul_range (sgQ'_range m) (sgQ'_range n))))) (by decide +kernel) rfl w [_, _, t] rfl
      (three_argsQ (fun β => one_num.2 (by rw [show (IT.var 2).den E = m from em])) (fun β => one_num.2 (by rw [show (IT.var 4).den E = n from en])) (fun β => (one_q (A := qI 0) ra).2 ⟨i3, l3.1, l3.2⟩))
end Go.Proofs.YtcgkmnjfkljjlaaGreat
end
