/-
  Texts of this seat, joined.
-/
import Derived.Test.YtdleiiboffkidaaJ7
/- ---- Fsg ---- -/
section
/-
  Package filter: FromRat and Add, what they come to.
-/
set_option maxRecDepth 100000
namespace Go.Proofs.Ytdleiiboffkidaa
open Go.RowKit

theorem floor_mul_den (q : Rat) (n : Int) : (n : Rat) ≤ q * 65536 ↔ n * (q.den : Int) ≤ q.num * 65536 := by
  have hd : (0 : Rat) < (q.den : Rat) := by
    have : ((0 : Nat) : Rat) < (q.den : Rat) := Rat.natCast_lt_natCast.2 q.den_pos
    exact this
  have e := mul_den' q
  rw [← Rat.intCast_le_intCast, Rat.intCast_mul, Rat.intCast_mul, ← e]
  have e2 : (((q.den : Int)) : Rat) = (q.den : Rat) := rfl
  have e3 : ((65536 : Int) : Rat) = 65536 := rfl
  rw [e2, e3]
  constructor
  · intro h
    have : 0 ≤ (q * 65536 - (n : Rat)) * (q.den : Rat) := Rat.mul_nonneg (by grind) (by grind)
    grind
  · intro h
    rcases le_tot (n : Rat) (q * 65536) with k | k
    · exact k
    · by_cases e0 : (n : Rat) = q * 65536
      · grind
      · have : 0 < ((n : Rat) - q * 65536) * (q.den : Rat) := Rat.mul_pos (by grind) hd
        grind
theorem flR_eq (q : Rat) : dq (q.num * 65536) (q.den : Int) = flR q := by
  have hd : 0 < (q.den : Int) := by have := q.den_pos; omega
  rw [dq_pos hd]
  unfold flR
  have h1 : ∀ n : Int, n ≤ (q * 65536).floor ↔ n ≤ q.num * 65536 / (q.den : Int) := fun n => by
    rw [Rat.le_floor_iff, floor_mul_den, Int.le_ediv_iff_mul_le hd]
  have a := (h1 (q * 65536).floor).1 (Int.le_refl _)
  have b := (h1 (q.num * 65536 / (q.den : Int))).2 (Int.le_refl _)
  omega
theorem clR_eq (q : Rat) : -dq (-(q.num * 65536)) (q.den : Int) = clR q := by
  have h := flR_eq (-q)
  rw [Rat.neg_num, Rat.neg_den] at h
  unfold clR
  rw [show -(q.num * 65536) = -q.num * 65536 by omega, h]
  unfold flR
  congr 2
  grind
theorem flR_le_clR (q : Rat) : flR q ≤ clR q := by
  have h1 := Rat.floor_le (q * 65536)
  have h2 := Rat.floor_le (-(q * 65536))
  unfold flR clR
  refine Rat.intCast_le_intCast.1 ?_
  rw [Rat.intCast_neg]
  grind
def frI (q : Rat) : Option (Int × Int) := prI (flR q) (clR q)
def aQf (l : Nat) : AV := .val true [.int (.var 0) l, .int (.var 1) l]
/-- FromRat of the reference. -/
def rLo : IT := .a2 4 (.a4 4 (.var 0) (.var 1) (.lit 65536) (.lit 1)) (.a4 5 (.var 0) (.var 1) (.lit 65536) (.lit 1))
def rHi : IT := .a1 0 (.a2 4 (.a1 0 (.a4 4 (.var 0) (.var 1) (.lit 65536) (.lit 1))) (.a4 5 (.var 0) (.var 1) (.lit 65536) (.lit 1)))
theorem rFrom_walk : ∀ b, funE cRf Try.f12 [(exT rLo rHi, b)] [aQf 40] = some (lfX rLo rHi b) := by
  intro b
  cases b <;> kernel_rfl
theorem ratArg {w : World} {v : Value} {q : Rat} (h : IsRat w v q) (l : LimQ 40 q) : ∀ β, (aQf 40).holds (qE [q]) β w v := fun β => by
  obtain ⟨a, b, c, d, rfl, h1, h2⟩ := h
  exact one_rat.2 ⟨a, b, c, d, rfl, h1, l.1, h2, l.2⟩
theorem rFromRat_calls (w : World) (v : Value) (q : Rat) (h : IsRat w v q) (l : LimQ 40 q) : Calls Try.prog 12 #[v] w (RetIv (frI q) w) := by
  have d4 : (IT.a4 4 (.var 0) (.var 1) (.lit 65536) (.lit 1)).den (qE [q]) = (q * 65536).num := fn4_num (f := 4) rfl q 65536
  have d5 : (IT.a4 5 (.var 0) (.var 1) (.lit 65536) (.lit 1)).den (qE [q]) = ((q * 65536).den : Int) := fn4_den (f := 5) rfl (by omega) q 65536
  have hd : 0 < ((q * 65536).den : Int) := by have := (q * 65536).den_pos; omega
  refine ex_calls (E := qE [q]) (C := cRf) (cRf_ok (qE_ok _)) no_asm Try.func12 (by decide +kernel) rFrom_walk ?_ ?_ (by decide +kernel) (args := [aQf 40]) rfl (fun _ => trivial) w _ rfl (one_arg rfl rfl (ratArg h l))
  · show dq ((IT.a4 4 (.var 0) (.var 1) (.lit 65536) (.lit 1)).den (qE [q])) ((IT.a4 5 (.var 0) (.var 1) (.lit 65536) (.lit 1)).den (qE [q])) = flR q
    rw [d4, d5, dq_pos hd, ← Rat.floor_def]
    rfl
  · show -dq (-((IT.a4 4 (.var 0) (.var 1) (.lit 65536) (.lit 1)).den (qE [q]))) ((IT.a4 5 (.var 0) (.var 1) (.lit 65536) (.lit 1)).den (qE [q])) = clR q
    rw [d4, d5, dq_pos hd]
    unfold clR
    rw [Rat.floor_def (-(q * 65536)), Rat.neg_num, Rat.neg_den]
/-- Add. -/
def adI (x y x' y' : Int) : Option (Int × Int) := prI (x + x') (y + y')
theorem rAdd_walk : ∀ b, funE cRf Try.f61 ((exT sS0 sS1, b) :: (gR (.var 0) ++ (gR (.var 2) ++ (gR (.var 4) ++ gR (.var 6))))) [aIv 0, aIv 2] = some (lfX sS0 sS1 b) := by
  intro b
  cases b <;> kernel_rfl
theorem gR_of {E : Env} {t : IT} {x : Int} (he : t.den E = x) (h : -2305843009213693952 ≤ x ∧ x ≤ 2305843009213693952) : Asm.holds E (gR t) := gR_ok (by rw [he]; omega)
theorem rAdd_calls (w : World) (x y x' y' : Int) (hp : Prp x y) (hp' : Prp x' y') : Calls Try.prog 61 #[.agg #[.int .i64 x, .int .i64 y], .agg #[.int .i64 x', .int .i64 y']] w (RetIv (adI x y x' y') w) := by
  obtain ⟨E, hE⟩ : ∃ E, E = qE [(x : Rat), (y : Rat), (x' : Rat), (y' : Rat)] := ⟨_, rfl⟩
  have e0 : E.i 0 = x := by rw [hE]; exact qE_int (i := 0) rfl
  have e2 : E.i 2 = y := by rw [hE]; exact qE_int (i := 1) rfl
  have e4 : E.i 4 = x' := by rw [hE]; exact qE_int (i := 2) rfl
  have e6 : E.i 6 = y' := by rw [hE]; exact qE_int (i := 3) rfl
  obtain ⟨p1, p2, p3⟩ := hp
  obtain ⟨q1, q2, q3⟩ := hp'
  refine ex_calls (E := E) (C := cRf) (cRf_ok (by rw [hE]; exact qE_ok _)) ?_ Try.func61 (by decide +kernel) rAdd_walk ?_ ?_ (by decide +kernel) (args := [aIv 0, aIv 2]) rfl (fun _ => trivial) w _ rfl (two_args rfl rfl (fun β => by rw [hE]; exact aIv_holds (i := 0) rfl rfl) (fun β => by rw [hE]; exact aIv_holds (i := 2) rfl rfl))
  · exact asm_app (gR_of e0 (by omega)) <| asm_app (gR_of e2 (by omega)) <| asm_app (gR_of e4 (by omega)) (gR_of e6 (by omega))
  · show E.i 0 + E.i 4 = _
    rw [e0, e4]
  · show E.i 2 + E.i 6 = _
    rw [e2, e6]
theorem pAdd_walk : ∀ b, funE cP0 Try.f35 [(exT (.a1 20 sS0) (.a1 20 sS1), b)] [aIv 0, aIv 2] = some (lfX (.a1 20 sS0) (.a1 20 sS1) b) := by
  intro b
  cases b <;> kernel_rfl
theorem pAdd_calls (w : World) (x y x' y' : Int) (hp : Prp x y) (hp' : Prp x' y') : Calls Try.prog 35 #[.agg #[.int .i64 x, .int .i64 y], .agg #[.int .i64 x', .int .i64 y']] w (RetIv (adI x y x' y') w) := by
  obtain ⟨E, hE⟩ : ∃ E, E = qE [(x : Rat), (y : Rat), (x' : Rat), (y' : Rat)] := ⟨_, rfl⟩
  have e0 : E.i 0 = x := by rw [hE]; exact qE_int (i := 0) rfl
  have e2 : E.i 2 = y := by rw [hE]; exact qE_int (i := 1) rfl
  have e4 : E.i 4 = x' := by rw [hE]; exact qE_int (i := 2) rfl
  have e6 : E.i 6 = y' := by rw [hE]; exact qE_int (i := 3) rfl
  obtain ⟨p1, p2, p3⟩ := hp
  obtain ⟨q1, q2, q3⟩ := hp'
  refine ex_calls (E := E) (C := cP0) cP0_ok no_asm Try.func35 (by decide +kernel) pAdd_walk ?_ ?_ (by decide +kernel) (args := [aIv 0, aIv 2]) rfl (fun _ => trivial) w _ rfl (two_args rfl rfl (fun β => by rw [hE]; exact aIv_holds (i := 0) rfl rfl) (fun β => by rw [hE]; exact aIv_holds (i := 2) rfl rfl))
  · show IntKind.i64.wrap (E.i 0 + E.i 4) = _
    rw [e0, e4, IntWalk.i64_in _ (by omega)]
  · show IntKind.i64.wrap (E.i 2 + E.i 6) = _
    rw [e2, e6, IntWalk.i64_in _ (by omega)]
/-- FromRat of the program, for long numbers. -/
def pLo : IT := .a2 4 (.a2 2 (.var 0) (.lit 65536)) (.var 1)
def gLong (b : Bool) : Asm := [(.eq (.a1 1 (.var 1)) (.lit 0), true), (.eq (.var 1) (.lit 0), false), (.eq (.a2 3 (.a2 5 (.a2 2 (.var 0) (.lit 65536)) (.var 1)) (.lit 0)) (.lit 0), b)]
def pHiL : Bool → IT
  | true => pLo
  | false => .a1 20 (.a2 0 pLo (.lit 1))
theorem long_no1 : funE cP0 Try.f40 [(.eq (.a1 1 (.var 1)) (.lit 0), true), (i64R pLo, false)] [aQf 40] = some (.leaf noL) := by kernel_rfl
theorem long_no2 : funE cP0 Try.f40 [(.eq (.a1 1 (.var 1)) (.lit 0), true), (i64R pLo, true), (.lt lP pLo, true)] [aQf 40] = some (.leaf noL) := by kernel_rfl
theorem long_walk : ∀ c b, funE cP0 Try.f40 ((exT pLo (pHiL c), b) :: (i64R pLo, true) :: (.lt lP pLo, false) :: gLong c) [aQf 40] = some (lfX pLo (pHiL c) b) := by
  intro c b
  cases c <;> cases b <;> kernel_rfl
/-- The quotient, rounded down and up. -/
theorem ceil_cases (q : Rat) : (dr (q.num * 65536) (q.den : Int) = 0 ∧ clR q = flR q) ∨ (dr (q.num * 65536) (q.den : Int) ≠ 0 ∧ clR q = flR q + 1) := by
  have hd : 0 < (q.den : Int) := by have := q.den_pos; omega
  have e1 := flR_eq q
  have e2 := clR_eq q
  rw [dq_pos hd] at e1 e2
  have e3 : dr (q.num * 65536) (q.den : Int) = (q.num * 65536) % (q.den : Int) := by
    unfold dr
    rw [if_neg (by omega), Int.fmod_eq_emod_of_nonneg _ (by omega)]
  rw [Int.neg_ediv] at e2
  rw [e3]
  by_cases h : (q.den : Int) ∣ q.num * 65536
  · rw [if_pos h] at e2
    exact .inl ⟨Int.emod_eq_zero_of_dvd h, by omega⟩
  · rw [if_neg h, Int.sign_eq_one_of_pos hd] at e2
    exact .inr ⟨fun k => h (Int.dvd_of_emod_eq_zero k), by omega⟩
end Go.Proofs.Ytdleiiboffkidaa
end

/- ---- Fsh ---- -/
section
/-
  Package filter: FromRat of the program.
-/
set_option maxRecDepth 100000
namespace Go.Proofs.Ytdleiiboffkidaa
open Go.RowKit

theorem i64R_den {E : Env} (t : IT) : (i64R t).den E = decide (-9223372036854775808 ≤ t.den E ∧ t.den E ≤ 9223372036854775807) := by
  show (decide _ && decide _) = _
  rw [Bool.decide_and]
  rfl
theorem i64R_t {E : Env} {t : IT} {G : Asm} (h : -9223372036854775808 ≤ t.den E ∧ t.den E ≤ 9223372036854775807) (k : G.holds E) : Asm.holds E ((i64R t, true) :: G) := asm_c (by rw [i64R_den]; exact decide_eq_true h) k
theorem i64R_f {E : Env} {t : IT} {G : Asm} (h : ¬ (-9223372036854775808 ≤ t.den E ∧ t.den E ≤ 9223372036854775807)) (k : G.holds E) : Asm.holds E ((i64R t, false) :: G) := asm_c (by rw [i64R_den]; exact decide_eq_false h) k
theorem pLo_den {q : Rat} : pLo.den (qE [q]) = flR q := by
  show dq (q.num * 65536) (q.den : Int) = _
  exact flR_eq q
theorem frI_none {q : Rat} (h : ¬ Prp (flR q) (clR q)) : frI q = none := prI_neg h
theorem noArg {w : World} {v : Value} {q : Rat} (h : IsRat w v q) (l : LimQ 40 q) : ∀ (i : Nat) (y : AV), [aQf 40][i]? = some y → ∃ u, [v][i]? = some u ∧ ∀ β, y.holds (qE [q]) β w u := one_arg rfl rfl (ratArg h l)
theorem pLong_calls (w : World) (v : Value) (q : Rat) (h : IsRat w v q) (l : LimQ 40 q) : Calls Try.prog 40 #[v] w (RetIv (frI q) w) := by
  have hd : 0 < (q.den : Int) := by have := q.den_pos; omega
  have hle := flR_le_clR q
  have f0 : (IT.a1 1 (.var 1)).den (qE [q]) = (IT.lit 0).den (qE [q]) := by
    show de (q.den : Int) = 0
    exact if_neg (by omega)
  by_cases h1 : -9223372036854775808 ≤ flR q ∧ flR q ≤ 9223372036854775807
  · by_cases h2 : 2305843009213693952 < flR q
    · rw [frI_none (by unfold Prp; omega)]
      exact no_calls (C := cP0) (E := qE [q]) cP0_ok (eq_t f0 <| i64R_t (by rw [pLo_den]; exact h1) <| lt_t (by rw [pLo_den]; exact h2) no_asm) Try.func40 (by decide +kernel) long_no2 (by decide +kernel) rfl (fun _ => trivial) w _ rfl (noArg h l)
    · obtain ⟨c, hc, hhi⟩ : ∃ c : Bool, (BT.eq (.a2 3 (.a2 5 (.a2 2 (.var 0) (.lit 65536)) (.var 1)) (.lit 0)) (.lit 0)).den (qE [q]) = c ∧ (pHiL c).den (qE [q]) = clR q := by
        refine ⟨_, rfl, ?_⟩
        have hb : (BT.eq (.a2 3 (.a2 5 (.a2 2 (.var 0) (.lit 65536)) (.var 1)) (.lit 0)) (.lit 0)).den (qE [q]) = decide (dr (q.num * 65536) (q.den : Int) = 0) := by
          show (cmpZ (dr (q.num * 65536) (q.den : Int)) 0 == 0) = _
          rw [Bool.eq_iff_iff, beq_iff_eq, decide_eq_true_iff]
          rcases cmpZ_cases (dr (q.num * 65536) (q.den : Int)) 0 with ⟨a, e⟩ | ⟨a, e⟩ | ⟨a, e⟩ <;> rw [e] <;> omega
        rw [hb]
        rcases ceil_cases q with ⟨a, e⟩ | ⟨a, e⟩
        · rw [decide_eq_true a, e]
          exact pLo_den
        · rw [decide_eq_false a, e]
          show IntKind.i64.wrap (pLo.den (qE [q]) + 1) = _
          rw [pLo_den, IntWalk.i64_in _ (by omega)]
      refine ex_calls (C := cP0) (E := qE [q]) cP0_ok ?_ Try.func40 (by decide +kernel) (long_walk c) pLo_den hhi (by decide +kernel) (args := [aQf 40]) rfl (fun _ => trivial) w _ rfl (noArg h l)
      exact i64R_t (by rw [pLo_den]; exact h1) <| lt_f (by rw [pLo_den]; exact h2) <| eq_t f0 <| eq_f (by show ¬ (q.den : Int) = 0; omega) <| asm_c hc no_asm
  · rw [frI_none (by unfold Prp; omega)]
    exact no_calls (C := cP0) (E := qE [q]) cP0_ok (eq_t f0 <| i64R_f (by rw [pLo_den]; exact h1) no_asm) Try.func40 (by decide +kernel) long_no1 (by decide +kernel) rfl (fun _ => trivial) w _ rfl (noArg h l)
/-- FromRat for the walker. -/
def frLo (x y : IT) : IT := .a2 4 (.a2 2 x (.lit 65536)) y
def frHi (x y : IT) : IT := .a1 0 (.a2 4 (.a1 0 (.a2 2 x (.lit 65536))) y)
def kFR : Con
  | [.val true [.int x l, .int y m]], G => if canon x y && (decide (l ≤ 40) && decide (m ≤ 40)) then kEx (frLo x y) (frHi x y) G else none
  | _, _ => none
def nFR : List AV → Asm → Option BT
  | [.val true [.int x _, .int y _]], _ => some (exT (frLo x y) (frHi x y))
  | _, _ => none
theorem kFR_ok {E : Env} (hE : QEnv E) {f : Nat} (hc : ∀ (w : World) (v : Value) (q : Rat), IsRat w v q → LimQ 40 q → Calls Try.prog f #[v] w (RetIv (frI q) w)) (hb : ∃ fn, Try.prog.funcs[f]? = some fn ∧ fn.name ≠ "runtime.NumGoroutine" ∧ fn.body.isNone = false) : ConOK Try.prog E f kFR := by
  refine ⟨?_, ?_, hb⟩
  · intro args G r h hG β w vs hv hlen
    unfold kFR at h
    split at h
    · rename_i x l y m
      split at h
      · rename_i hm
        simp only [Bool.and_eq_true, decide_eq_true_iff] at hm
        obtain ⟨v, rfl, h1⟩ := args1 hv hlen
        obtain ⟨q, _, e1, e2, hq, m1, m2⟩ := one_ratQ hE hm.1 h1
        have k := kEx_holds (β := β) (w := w) hG h
        have d1 : (frLo x y).den E = flR q := by
          show dq (x.den E * 65536) (y.den E) = _
          rw [e1, e2]; exact flR_eq q
        have d2 : (frHi x y).den E = clR q := by
          show -dq (-(x.den E * 65536)) (y.den E) = _
          rw [e1, e2]; exact clR_eq q
        rw [d1, d2] at k
        refine (hc w v q hq ⟨m1.mono hm.2.1, m2.mono hm.2.2⟩).mono ?_
        rintro e w' ⟨rfl, ex⟩
        have k' := kEx_holds (β := β) (w := w') hG h
        rw [d1, d2] at k'
        exact ⟨_, rfl, k', ex⟩
      · cases h
    · cases h
  · intro args G r h
    unfold kFR at h
    split at h
    · split at h
      · exact kEx_nptr h
      · cases h
    · cases h
noncomputable def cPs0 : Cfg := cfgN (cfgOf ((40, kFR) :: tabPf)) [(44, nPr), (39, nI64), (40, nFR)]
theorem cPs0_ok {E : Env} (hE : QEnv E) : CfgOK Try.prog E cPs0 := cfgN_ok (cfg_ok (.cons (kFR_ok hE pLong_calls ⟨_, Try.func40, by decide +kernel, by kernel_rfl⟩) tabPf_ok))
noncomputable def cPs : Cfg := cfgI cPs0 cPs0 [(42, Try.f42), (45, Try.f45)]
theorem cPs_ok {E : Env} (hE : QEnv E) : CfgOK Try.prog E cPs := cfgI_ok mixed (cPs0_ok hE) (cPs0_ok hE) (fun _ => trivial) (.cons Try.func42 (by decide +kernel) (by kernel_rfl) <| .cons Try.func45 (by decide +kernel) (by kernel_rfl) .nil)
theorem fr_long : ∀ s o b, (s && o) = false → funE cPs Try.f11 [(exT (frLo (.var 0) (.var 1)) (frHi (.var 0) (.var 1)), b), (i64R (.var 0), s), (i64R (.var 1), o)] [aQf 40] = some (lfX (frLo (.var 0) (.var 1)) (frHi (.var 0) (.var 1)) b) := by
  intro s o b h
  cases s
  · cases o <;> cases b <;> kernel_rfl
  · cases o
    · cases b <;> kernel_rfl
    · cases h
/-- The terms for short numbers. -/
def sS : Bool → IT
  | true => .a1 21 (.a2 1 (.lit 0) (.a1 21 (.var 0)))
  | false => .a1 21 (.var 0)
def sH (n : Bool) : IT := .a2 19 (sS n) (.lit 65536)
def sL (n : Bool) : IT := .a1 21 (.a2 2 (sS n) (.lit 65536))
def sD : IT := .a1 21 (.var 1)
def sQ (n : Bool) : IT := .a2 16 (twoW (sH n) (sL n)) sD
def sRm (n : Bool) : IT := .a2 15 (twoW (sH n) (sL n)) sD
def sUp (n : Bool) : Bool → IT
  | true => .a1 20 (sQ n)
  | false => .a1 20 (.a2 0 (.a1 20 (sQ n)) (.lit 1))
def sLo (n c : Bool) : IT := if n then .a1 20 (.a2 1 (.lit 0) (sUp n c)) else .a1 20 (sQ n)
def sHi (n c : Bool) : IT := if n then .a1 20 (.a2 1 (.lit 0) (.a1 20 (sQ n))) else sUp n c
def gShort (n : Bool) : Asm := [(i64R (.var 0), true), (i64R (.var 1), true), (.lt (.var 0) (.lit 0), n), (.le (.var 1) (.lit 0), false)]
theorem fr_no1 : ∀ n, funE cPs Try.f11 ((.le sD (sH n), true) :: gShort n) [aQf 40] = some (.leaf noL) := by
  intro n
  cases n <;> kernel_rfl
theorem fr_no2 : ∀ n, funE cPs Try.f11 ((.le sD (sH n), false) :: (.lt (sH n) sD, true) :: (.lt lP (sQ n), true) :: (gU (sH n) ++ gShort n)) [aQf 40] = some (.leaf noL) := by
  intro n
  cases n <;> kernel_rfl
theorem fr_walk : ∀ n c b, funE cPs Try.f11 ((exT (sLo n c) (sHi n c), b) :: (.le sD (sH n), false) :: (.lt (sH n) sD, true) :: (.lt lP (sQ n), false) :: (.eq (sRm n) (.lit 0), c) :: (gU (sH n) ++ gShort n)) [aQf 40] = some (lfX (sLo n c) (sHi n c) b) := by
  intro n c b
  cases n <;> cases c <;> cases b <;> kernel_rfl
end Go.Proofs.Ytdleiiboffkidaa
end

/- ---- Fsi ---- -/
section
/-
  Package filter: FromRat of the program, every number.
-/
set_option maxRecDepth 100000
namespace Go.Proofs.Ytdleiiboffkidaa
open Go.RowKit

/-- A quotient of an absolute value, and its rounding. -/
theorem quot_cases (q : Rat) : ∃ P Q R : Int, P = (q.num.natAbs : Int) * 65536 ∧ Q = P / (q.den : Int) ∧ R = P % (q.den : Int) ∧ 0 ≤ R ∧ R < (q.den : Int) ∧ 0 ≤ Q ∧
    ((0 ≤ q.num ∧ flR q = Q ∧ (R = 0 ∧ clR q = Q ∨ R ≠ 0 ∧ clR q = Q + 1)) ∨ (q.num < 0 ∧ clR q = -Q ∧ (R = 0 ∧ flR q = -Q ∨ R ≠ 0 ∧ flR q = -(Q + 1)))) := by
  have hd : 0 < (q.den : Int) := by have := q.den_pos; omega
  refine ⟨_, _, _, rfl, rfl, rfl, Int.emod_nonneg _ (by omega), Int.emod_lt_of_pos _ hd, Int.ediv_nonneg (by omega) (by omega), ?_⟩
  have e1 := flR_eq q
  have e2 := clR_eq q
  rw [dq_pos hd] at e1 e2
  rcases Int.lt_or_le q.num 0 with h | h
  · refine .inr ⟨h, ?_, ?_⟩
    · rw [← e2, show -(q.num * 65536) = (q.num.natAbs : Int) * 65536 by omega]
    · rw [show q.num * 65536 = -((q.num.natAbs : Int) * 65536) by omega, Int.neg_ediv] at e1
      by_cases k : (q.den : Int) ∣ (q.num.natAbs : Int) * 65536
      · rw [if_pos k] at e1
        exact .inl ⟨Int.emod_eq_zero_of_dvd k, by omega⟩
      · rw [if_neg k, Int.sign_eq_one_of_pos hd] at e1
        exact .inr ⟨fun c => k (Int.dvd_of_emod_eq_zero c), by omega⟩
  · refine .inl ⟨h, ?_, ?_⟩
    · rw [← e1, show q.num * 65536 = (q.num.natAbs : Int) * 65536 by omega]
    · rw [show -(q.num * 65536) = -((q.num.natAbs : Int) * 65536) by omega, Int.neg_ediv] at e2
      by_cases k : (q.den : Int) ∣ (q.num.natAbs : Int) * 65536
      · rw [if_pos k] at e2
        exact .inl ⟨Int.emod_eq_zero_of_dvd k, by omega⟩
      · rw [if_neg k, Int.sign_eq_one_of_pos hd] at e2
        exact .inr ⟨fun c => k (Int.dvd_of_emod_eq_zero c), by omega⟩
theorem pFromRat_calls (w : World) (v : Value) (q : Rat) (h : IsRat w v q) (l : LimQ 40 q) : Calls Try.prog 11 #[v] w (RetIv (frI q) w) := by
  have hd : 0 < (q.den : Int) := by have := q.den_pos; omega
  have hv := noArg h l
  by_cases hs : (-9223372036854775808 ≤ q.num ∧ q.num ≤ 9223372036854775807) ∧ (q.den : Int) ≤ 9223372036854775807
  · obtain ⟨⟨s1, s2⟩, s3⟩ := hs
    obtain ⟨n, hn⟩ : ∃ n : Bool, n = decide (q.num < 0) := ⟨_, rfl⟩
    obtain ⟨P, Q, R, hP, hQ, hR, R0, R1, Q0, hcase⟩ := quot_cases q
    have P0 : 0 ≤ P := by omega
    have P1 : P < 604462909807314587353088 * 1024 := by omega
    have dS : (sS n).den (qE [q]) = (q.num.natAbs : Int) := by
      rw [hn]
      by_cases k : q.num < 0
      · rw [decide_eq_true k]
        show IntKind.u64.wrap (0 - IntKind.u64.wrap q.num) = _
        rw [IntKind.wrap_u64, IntKind.wrap_u64]; omega
      · rw [decide_eq_false k]
        show IntKind.u64.wrap q.num = _
        rw [IntKind.wrap_u64]; omega
    have dH : (sH n).den (qE [q]) = P / 18446744073709551616 := by
      show (sS n).den (qE [q]) * 65536 / 18446744073709551616 = _
      rw [dS, hP]
    have dL : (sL n).den (qE [q]) = P % 18446744073709551616 := by
      show IntKind.u64.wrap ((sS n).den (qE [q]) * 65536) = _
      rw [dS, ← hP, IntKind.wrap_u64]
    have dD : sD.den (qE [q]) = (q.den : Int) := by
      show IntKind.u64.wrap (q.den : Int) = _
      rw [IntKind.wrap_u64]; omega
    have dW : (twoW (sH n) (sL n)).den (qE [q]) = P := by
      show (sH n).den (qE [q]) * 2 ^ (Int.toNat 64) + (sL n).den (qE [q]) = _
      rw [dH, dL, show (2 : Int) ^ (Int.toNat 64) = 18446744073709551616 from rfl]
      omega
    have dQ : (sQ n).den (qE [q]) = Q := by
      show ((twoW (sH n) (sL n)).den (qE [q])).tdiv (sD.den (qE [q])) = _
      rw [dW, dD, hQ, Int.tdiv_eq_ediv_of_nonneg P0]
    have dR : (sRm n).den (qE [q]) = R := by
      show ((twoW (sH n) (sL n)).den (qE [q])).tmod (sD.den (qE [q])) = _
      rw [dW, dD, hR, Int.tmod_eq_emod_of_nonneg P0]
    have big1 : (q.den : Int) ≤ P / 18446744073709551616 → 18446744073709551616 ≤ Q := by
      intro k
      rw [hQ]
      refine (Int.le_ediv_iff_mul_le hd).2 ?_
      have := Int.mul_le_mul_of_nonneg_left k (show (0 : Int) ≤ 18446744073709551616 by omega)
      omega
    have hg : Asm.holds (qE [q]) (gShort n) := i64R_t (t := .var 0) ⟨s1, s2⟩ <| i64R_t (t := .var 1) (by show -9223372036854775808 ≤ (q.den : Int) ∧ (q.den : Int) ≤ 9223372036854775807; omega) <| asm_c hn.symm <| le_f (by show ¬ (q.den : Int) ≤ 0; omega) no_asm
    have hU : Asm.holds (qE [q]) (gU (sH n)) := gU_ok (by rw [dH]; omega)
    by_cases k1 : (q.den : Int) ≤ P / 18446744073709551616
    · have := big1 k1
      rw [frI_none (by unfold Prp; omega)]
      exact no_calls (C := cPs) (E := qE [q]) (cPs_ok (qE_ok _)) (le_t (by rw [dD, dH]; exact k1) hg) Try.func11 (by decide +kernel) (fr_no1 n) (by decide +kernel) rfl (fun _ => trivial) w _ rfl hv
    · have gA : ∀ G : Asm, G.holds (qE [q]) → Asm.holds (qE [q]) ((.le sD (sH n), false) :: (.lt (sH n) sD, true) :: G) := fun G hG => le_f (by rw [dD, dH]; exact k1) <| lt_t (by rw [dD, dH]; omega) hG
      by_cases k2 : 2305843009213693952 < Q
      · rw [frI_none (by unfold Prp; omega)]
        exact no_calls (C := cPs) (E := qE [q]) (cPs_ok (qE_ok _)) (gA _ <| lt_t (by rw [dQ]; exact k2) <| asm_app hU hg) Try.func11 (by decide +kernel) (fr_no2 n) (by decide +kernel) rfl (fun _ => trivial) w _ rfl hv
      · obtain ⟨c, hc⟩ : ∃ c : Bool, c = decide (R = 0) := ⟨_, rfl⟩
        have dq1 : IntKind.i64.wrap ((sQ n).den (qE [q])) = Q := by rw [dQ, IntWalk.i64_in _ (by omega)]
        have dU : (sUp n c).den (qE [q]) = if R = 0 then Q else Q + 1 := by
          rw [hc]
          by_cases k : R = 0
          · rw [decide_eq_true k, if_pos k]
            exact dq1
          · rw [decide_eq_false k, if_neg k]
            show IntKind.i64.wrap (IntKind.i64.wrap ((sQ n).den (qE [q])) + 1) = _
            rw [dq1, IntWalk.i64_in _ (by omega)]
        have dLo : (sLo n c).den (qE [q]) = flR q := by
          unfold sLo
          by_cases k : q.num < 0
          · rw [if_pos (by rw [hn]; exact decide_eq_true k)]
            show IntKind.i64.wrap (0 - (sUp n c).den (qE [q])) = _
            rw [dU]
            by_cases k3 : R = 0
            · rw [if_pos k3, IntWalk.i64_in _ (by omega)]; omega
            · rw [if_neg k3, IntWalk.i64_in _ (by omega)]; omega
          · rw [if_neg (by rw [hn, decide_eq_false k]; decide)]
            show IntKind.i64.wrap ((sQ n).den (qE [q])) = _
            rw [dq1]; omega
        have dHi : (sHi n c).den (qE [q]) = clR q := by
          unfold sHi
          by_cases k : q.num < 0
          · rw [if_pos (by rw [hn]; exact decide_eq_true k)]
            show IntKind.i64.wrap (0 - IntKind.i64.wrap ((sQ n).den (qE [q]))) = _
            rw [dq1, IntWalk.i64_in _ (by omega)]; omega
          · rw [if_neg (by rw [hn, decide_eq_false k]; decide), dU]
            by_cases k3 : R = 0
            · rw [if_pos k3]; omega
            · rw [if_neg k3]; omega
        refine ex_calls (C := cPs) (E := qE [q]) (cPs_ok (qE_ok _)) ?_ Try.func11 (by decide +kernel) (fr_walk n c) dLo dHi (by decide +kernel) (args := [aQf 40]) rfl (fun _ => trivial) w _ rfl hv
        refine gA _ <| lt_f (by rw [dQ]; exact k2) <| asm_c ?_ <| asm_app hU hg
        show ((sRm n).den (qE [q]) == 0) = c
        rw [dR, hc, Bool.eq_iff_iff, beq_iff_eq, decide_eq_true_iff]
  · refine ex_calls (C := cPs) (E := qE [q]) (x := frLo (.var 0) (.var 1)) (y := frHi (.var 0) (.var 1)) (cPs_ok (qE_ok _)) (G := [(i64R (.var 0), decide (-9223372036854775808 ≤ q.num ∧ q.num ≤ 9223372036854775807)), (i64R (.var 1), decide ((q.den : Int) ≤ 9223372036854775807))]) ?_ Try.func11 (by decide +kernel) (fun b => fr_long _ _ b ?_) ?_ ?_ (by decide +kernel) (args := [aQf 40]) rfl (fun _ => trivial) w _ rfl hv
    · refine asm_c (i64R_den _) <| asm_c ?_ no_asm
      rw [i64R_den, decide_eq_decide]
      show (-9223372036854775808 ≤ (q.den : Int) ∧ (q.den : Int) ≤ 9223372036854775807) ↔ _
      omega
    · rw [← Bool.decide_and]
      exact decide_eq_false hs
    · exact flR_eq q
    · exact clR_eq q
end Go.Proofs.Ytdleiiboffkidaa
end

/- ---- Fsj ---- -/
section
/-
  Package filter: Sqrt of the reference, and products of two ends.
-/
set_option maxRecDepth 100000
namespace Go.Proofs.Ytdleiiboffkidaa
open Go.RowKit

def loR (n : Bool) : IT := sqfT (if n then .lit 0 else .var 0)
def hiR (c : Bool) : IT := if c then .a2 0 (sqfT (.var 2)) (.lit 1) else sqfT (.var 2)
def gSqR (n c : Bool) : Asm := [(exT (loR n) (hiR c), true), (.lt (.var 2) (.lit 0), false), (.lt (.var 0) (.lit 0), n), (.lt (.a2 3 (.a2 2 (sqfT (.var 2)) (sqfT (.var 2))) (.a2 2 (.var 2) (.lit 65536))) (.lit 0), c)]
theorem rsq_walk : ∀ n c, funE cRf Try.f22 (gSqR n c ++ (gR (.var 0) ++ gR (.var 2))) [aIv 0] = some (.leaf (ivL (loR n) (hiR c))) := by
  intro n c
  cases n <;> cases c <;> kernel_rfl
theorem rsq_no : funE cRf Try.f22 [(.lt (.var 2) (.lit 0), true)] [aIv 0] = some (.leaf noL) := by kernel_rfl
theorem rSqrt_calls (w : World) (x y : Int) (hp : Prp x y) : Calls Try.prog 22 #[.agg #[.int .i64 x, .int .i64 y]] w (RetIv (sqrI x y) w) := by
  obtain ⟨E, hE⟩ : ∃ E, E = qE [(x : Rat), (y : Rat)] := ⟨_, rfl⟩
  have e0 : E.i 0 = x := by rw [hE]; exact qE_int (i := 0) rfl
  have e2 : E.i 2 = y := by rw [hE]; exact qE_int (i := 1) rfl
  have hQ : QEnv E := by rw [hE]; exact qE_ok _
  have ha := one_arg (E := E) (w := w) (args := [aIv 0]) (vs := [.agg #[.int .i64 x, .int .i64 y]]) rfl rfl (fun β => by rw [hE]; exact aIv_holds (i := 0) rfl rfl)
  unfold sqrI
  split
  · rename_i hn
    exact no_calls (E := E) (cRf_ok hQ) (lt_t (by show E.i 2 < 0; rw [e2]; exact hn) no_asm) Try.func22 (by decide +kernel) rsq_no (by decide +kernel) rfl (fun _ => trivial) w _ rfl ha
  · rename_i hn
    obtain ⟨o1, o2, o3, o4, o5, o6, o7⟩ := sq_order hp (by omega)
    obtain ⟨p1, p2, p3⟩ := hp
    have ds : (sqfT (.var 2)).den E = isq (y * 65536) := by show isq (E.i 2 * 65536) = _; rw [e2]
    have dl : (loR (decide (x < 0))).den E = sqLo x := by
      show isq ((if decide (x < 0) then IT.lit 0 else IT.var 0).den E * 65536) = isq _
      by_cases k : x < 0
      · rw [decide_eq_true k, if_pos rfl, if_neg (by omega)]; rfl
      · rw [decide_eq_false k, if_neg (by decide)]
        show isq (E.i 0 * 65536) = _
        rw [e0]
        by_cases k2 : x > 0
        · rw [if_pos k2]
        · rw [if_neg k2, show x = 0 by omega]
    obtain ⟨c, hc, hd⟩ : ∃ c : Bool, (BT.lt (.a2 3 (.a2 2 (sqfT (.var 2)) (sqfT (.var 2))) (.a2 2 (.var 2) (.lit 65536))) (.lit 0)).den E = c ∧ (hiR c).den E = sqHi y := by
      refine ⟨_, rfl, ?_⟩
      have hb : (BT.lt (.a2 3 (.a2 2 (sqfT (.var 2)) (sqfT (.var 2))) (.a2 2 (.var 2) (.lit 65536))) (.lit 0)).den E = decide (isq (y * 65536) * isq (y * 65536) < y * 65536) := by
        show decide (cmpZ ((sqfT (.var 2)).den E * (sqfT (.var 2)).den E) (E.i 2 * 65536) < 0) = _
        rw [ds, e2, decide_eq_decide]
        rcases cmpZ_cases (isq (y * 65536) * isq (y * 65536)) (y * 65536) with ⟨a, e⟩ | ⟨a, e⟩ | ⟨a, e⟩ <;> rw [e] <;> omega
      rw [hb]
      rcases cmp_root (show 0 ≤ y * 65536 by omega) with ⟨k, q⟩ | ⟨k, q⟩
      · rw [decide_eq_false (by omega)]
        show (sqfT (.var 2)).den E = _
        rw [ds]
        unfold sqHi
        rw [k, Int.add_zero]
      · rw [decide_eq_true q]
        show (sqfT (.var 2)).den E + 1 = _
        rw [ds]
        unfold sqHi
        rw [k]
    refine iv_calls (E := E) (cRf_ok hQ) ?_ Try.func22 (by decide +kernel) (rsq_walk (decide (x < 0)) c) dl hd (by decide +kernel) rfl (fun _ => trivial) w _ rfl ha
    refine asm_app (asm_c ?_ <| lt_f ?_ <| asm_c ?_ <| asm_c hc no_asm) (asm_app (gR_of e0 (by omega)) (gR_of e2 (by omega)))
    · rw [exT_den, dl, hd]
      exact prpB_iff.2 ⟨by omega, by omega, by omega⟩
    · show ¬ E.i 2 < 0
      omega
    · show decide (E.i 0 < 0) = _
      rw [e0]
end Go.Proofs.Ytdleiiboffkidaa
end

/- ---- Fsk ---- -/
section
/-
  Package filter: the product of two ends.
-/
set_option maxRecDepth 100000
namespace Go.Proofs.Ytdleiiboffkidaa
open Go.RowKit

theorem or_term {P : Nat} (h : P / 18446744073709551616 ≤ 8192) : fn2 14 ((P / 18446744073709551616 * 281474976710656 : Nat) : Int) ((P % 18446744073709551616 / 65536 : Nat) : Int) = ((P / 65536 : Nat) : Int) := by
  show IntKind.u64.wrap ((BitVec.ofInt 64 _ ||| BitVec.ofInt 64 _).toNat : Int) = _
  rw [BitVec.ofInt_natCast, BitVec.ofInt_natCast, BitVec.toNat_or, BitVec.toNat_ofNat, BitVec.toNat_ofNat, Nat.mod_eq_of_lt (by omega), Nat.mod_eq_of_lt (by omega), or_shift, IntKind.wrap_u64]
  omega
def mulM (x y : Int) : Option (Int × Int) := if (x.natAbs * y.natAbs) / 18446744073709551616 > 8192 then none else some (fl16 (x * y), cl16 (x * y))
def mS (i : Nat) (n : Bool) : IT := if n then .a1 21 (.a2 1 (.lit 0) (.a1 21 (.var i))) else .a1 21 (.var i)
def mH (n m : Bool) : IT := .a2 19 (mS 0 n) (mS 1 m)
def mL (n m : Bool) : IT := .a1 21 (.a2 2 (mS 0 n) (mS 1 m))
def mQ (n m : Bool) : IT := .a2 14 (.a1 21 (.a2 17 (mH n m) (.lit 48))) (.a2 18 (mL n m) (.lit 16))
def mR (n m : Bool) : IT := .a2 15 (mL n m) (.lit 65536)
def mU (n m c : Bool) : IT := if c then .a1 20 (mQ n m) else .a1 20 (.a2 0 (.a1 20 (mQ n m)) (.lit 1))
def mLo (n m c : Bool) : IT := if n != m then .a1 20 (.a2 1 (.lit 0) (mU n m c)) else .a1 20 (mQ n m)
def mHi (n m c : Bool) : IT := if n != m then .a1 20 (.a2 1 (.lit 0) (.a1 20 (mQ n m))) else mU n m c
noncomputable def cMu0 : Cfg := cfgOf [(41, kMul64)]
theorem cMu0_ok {E : Env} : CfgOK Try.prog E cMu0 := cfg_ok (.cons kMul64_ok .nil)
noncomputable def cMu : Cfg := cfgI cMu0 cMu0 [(42, Try.f42), (45, Try.f45)]
theorem cMu_ok {E : Env} : CfgOK Try.prog E cMu := cfgI_ok mixed cMu0_ok cMu0_ok (fun _ => trivial) (.cons Try.func42 (by decide +kernel) (by kernel_rfl) <| .cons Try.func45 (by decide +kernel) (by kernel_rfl) .nil)
theorem mu_no : ∀ n m, funE cMu Try.f50 [(.lt (.lit 8192) (mH n m), true), (.lt (.var 0) (.lit 0), n), (.lt (.var 1) (.lit 0), m)] [vN .i64 0, vN .i64 1] = some (.leaf noL) := by
  intro n m
  cases n <;> cases m <;> kernel_rfl
theorem mu_walk : ∀ n m c, funE cMu Try.f50 [(.lt (.lit 8192) (mH n m), false), (.eq (mR n m) (.lit 0), c), (.lt (.var 0) (.lit 0), n), (.lt (.var 1) (.lit 0), m)] [vN .i64 0, vN .i64 1] = some (.leaf (ivL (mLo n m c) (mHi n m c))) := by
  intro n m c
  cases n <;> cases m <;> cases c <;> kernel_rfl
theorem mS_den {E : Env} {i : Nat} {x : Int} {n : Bool} (he : E.i i = x) (hn : n = decide (x < 0)) (h : -9223372036854775808 ≤ x ∧ x ≤ 9223372036854775807) : (mS i n).den E = (x.natAbs : Int) := by
  subst he hn
  unfold mS
  by_cases k : E.i i < 0
  · rw [decide_eq_true k, if_pos rfl]
    show IntKind.u64.wrap (0 - IntKind.u64.wrap (E.i i)) = _
    rw [IntKind.wrap_u64, IntKind.wrap_u64]; omega
  · rw [decide_eq_false k, if_neg (by decide)]
    show IntKind.u64.wrap (E.i i) = _
    rw [IntKind.wrap_u64]; omega
theorem prod_cases (x y : Int) : (((decide (x < 0) != decide (y < 0)) = true ∧ x * y = -((x.natAbs * y.natAbs : Nat) : Int)) ∨ ((decide (x < 0) != decide (y < 0)) = false ∧ x * y = ((x.natAbs * y.natAbs : Nat) : Int))) := by
  rw [Int.natCast_mul]
  rcases Int.lt_or_le x 0 with h | h <;> rcases Int.lt_or_le y 0 with k | k
  · refine .inr ⟨by rw [decide_eq_true h, decide_eq_true k]; rfl, ?_⟩
    rw [show (x.natAbs : Int) = -x by omega, show (y.natAbs : Int) = -y by omega, Int.neg_mul_neg]
  · refine .inl ⟨by rw [decide_eq_true h, decide_eq_false (by omega)]; rfl, ?_⟩
    rw [show (x.natAbs : Int) = -x by omega, show (y.natAbs : Int) = y by omega, Int.neg_mul, Int.neg_neg]
  · refine .inl ⟨by rw [decide_eq_false (by omega), decide_eq_true k]; rfl, ?_⟩
    rw [show (x.natAbs : Int) = x by omega, show (y.natAbs : Int) = -y by omega, Int.mul_neg, Int.neg_neg]
  · refine .inr ⟨by rw [decide_eq_false (by omega), decide_eq_false (by omega)]; rfl, ?_⟩
    rw [show (x.natAbs : Int) = x by omega, show (y.natAbs : Int) = y by omega]
theorem multiply_calls (w : World) (x y : Int) (hx : -9223372036854775808 ≤ x ∧ x ≤ 9223372036854775807) (hy : -9223372036854775808 ≤ y ∧ y ≤ 9223372036854775807) : Calls Try.prog 50 #[.int .i64 x, .int .i64 y] w (RetIv (mulM x y) w) := by
  obtain ⟨E, hE⟩ : ∃ E, E = eN [x, y] := ⟨_, rfl⟩
  have e0 : E.i 0 = x := by rw [hE]; rfl
  have e1 : E.i 1 = y := by rw [hE]; rfl
  obtain ⟨n, hn⟩ : ∃ n : Bool, n = decide (x < 0) := ⟨_, rfl⟩
  obtain ⟨m, hm⟩ : ∃ m : Bool, m = decide (y < 0) := ⟨_, rfl⟩
  obtain ⟨P, hP⟩ : ∃ P : Nat, P = x.natAbs * y.natAbs := ⟨_, rfl⟩
  have hv := two_args (E := E) (w := w) (args := [vN .i64 0, vN .i64 1]) (vs := [.int .i64 x, .int .i64 y]) rfl rfl (fun β => by rw [hE]; exact vN_holds rfl) (fun β => by rw [hE]; exact vN_holds rfl)
  have d0 := mS_den (i := 0) e0 hn hx
  have d1 := mS_den (i := 1) e1 hm hy
  have dp : (mS 0 n).den E * (mS 1 m).den E = (P : Int) := by rw [d0, d1, hP, Int.natCast_mul]
  have dH : (mH n m).den E = ((P / 18446744073709551616 : Nat) : Int) := by
    show (mS 0 n).den E * (mS 1 m).den E / 18446744073709551616 = _
    rw [dp]; omega
  have dL : (mL n m).den E = ((P % 18446744073709551616 : Nat) : Int) := by
    show IntKind.u64.wrap ((mS 0 n).den E * (mS 1 m).den E) = _
    rw [dp, IntKind.wrap_u64]; omega
  have f0 : (BT.lt (.var 0) (.lit 0)).den E = n := by show decide (E.i 0 < 0) = n; rw [e0, hn]
  have f1 : (BT.lt (.var 1) (.lit 0)).den E = m := by show decide (E.i 1 < 0) = m; rw [e1, hm]
  unfold mulM
  rw [← hP]
  split
  · rename_i k
    exact no_calls (C := cMu) (E := E) cMu_ok (lt_t (by rw [dH]; show (8192 : Int) < _; omega) <| asm_c f0 <| asm_c f1 no_asm) Try.func50 (by decide +kernel) (mu_no n m) (by decide +kernel) rfl (fun _ => trivial) w _ rfl hv
  · rename_i k
    have k' : P / 18446744073709551616 ≤ 8192 := by omega
    have dQ : (mQ n m).den E = ((P / 65536 : Nat) : Int) := by
      show fn2 14 (IntKind.u64.wrap ((mH n m).den E * 2 ^ (Int.toNat 48))) (((mL n m).den E).fdiv (2 ^ (Int.toNat 16))) = _
      rw [dH, dL, show (2 : Int) ^ (Int.toNat 48) = 281474976710656 from rfl, show (2 : Int) ^ (Int.toNat 16) = 65536 from rfl, ← or_term k']
      congr 1
      · rw [IntKind.wrap_u64]; omega
      · rw [Int.fdiv_eq_ediv_of_nonneg _ (by omega)]; omega
    have dR : (mR n m).den E = ((P % 65536 : Nat) : Int) := by
      show ((mL n m).den E).tmod 65536 = _
      rw [dL, Int.tmod_eq_emod_of_nonneg (by omega)]; omega
    have dq1 : IntKind.i64.wrap ((mQ n m).den E) = ((P / 65536 : Nat) : Int) := by rw [dQ, IntWalk.i64_in _ (by omega)]
    obtain ⟨c, hc⟩ : ∃ c : Bool, c = decide (P % 65536 = 0) := ⟨_, rfl⟩
    have dU : (mU n m c).den E = if P % 65536 = 0 then ((P / 65536 : Nat) : Int) else ((P / 65536 : Nat) : Int) + 1 := by
      unfold mU
      rw [hc]
      by_cases j : P % 65536 = 0
      · rw [decide_eq_true j, if_pos j, if_pos rfl]
        exact dq1
      · rw [decide_eq_false j, if_neg j, if_neg (by decide)]
        show IntKind.i64.wrap (IntKind.i64.wrap ((mQ n m).den E) + 1) = _
        rw [dq1, IntWalk.i64_in _ (by omega)]
    have hpc := prod_cases x y
    rw [← hn, ← hm, ← hP] at hpc
    have dLo : (mLo n m c).den E = fl16 (x * y) := by
      unfold mLo fl16
      rcases hpc with ⟨a, e⟩ | ⟨a, e⟩
      · rw [if_pos a, e]
        show IntKind.i64.wrap (0 - (mU n m c).den E) = _
        rw [dU, IntWalk.i64_in _ (by split <;> omega)]
        split <;> omega
      · rw [if_neg (by rw [a]; decide), e]
        show IntKind.i64.wrap ((mQ n m).den E) = _
        rw [dq1]; omega
    have dHi : (mHi n m c).den E = cl16 (x * y) := by
      unfold mHi cl16
      rcases hpc with ⟨a, e⟩ | ⟨a, e⟩
      · rw [if_pos a, e]
        show IntKind.i64.wrap (0 - IntKind.i64.wrap ((mQ n m).den E)) = _
        rw [dq1, IntWalk.i64_in _ (by omega)]
        omega
      · rw [if_neg (by rw [a]; decide), e, dU]
        split <;> omega
    refine iv_calls (C := cMu) (E := E) cMu_ok ?_ Try.func50 (by decide +kernel) (mu_walk n m c) dLo dHi (by decide +kernel) rfl (fun _ => trivial) w _ rfl hv
    refine lt_f (by rw [dH]; show ¬ (8192 : Int) < _; omega) <| asm_c ?_ <| asm_c f0 <| asm_c f1 no_asm
    show ((mR n m).den E == 0) = c
    rw [dR, hc, Bool.eq_iff_iff, beq_iff_eq, decide_eq_true_iff]; omega
/-- The product of two ends for the walker. -/
def sizeT (t : IT) : IT := .a1 5 t
def muT (x y : IT) : BT := .lt (.lit 8192) (.a2 19 (sizeT x) (sizeT y))
def fl16T (t : IT) : IT := .a2 4 t (.lit 65536)
def ceiT (t : IT) : IT := .a1 0 (.a2 4 (.a1 0 t) (.lit 65536))
theorem fl16T_den {E : Env} (t : IT) : (fl16T t).den E = fl16 (t.den E) := by
  show dq (t.den E) 65536 = _
  rw [dq_pos (by omega)]; rfl
theorem ceiT_den {E : Env} (t : IT) : (ceiT t).den E = cl16 (t.den E) := by
  show -dq (-(t.den E)) 65536 = _
  rw [dq_pos (by omega)]; rfl
def i64G (G : Asm) (t : IT) : Bool := (i64R t).ev G == some true
theorem i64G_spec {E : Env} {G : Asm} (hG : G.holds E) {t : IT} (h : i64G G t = true) : -9223372036854775808 ≤ t.den E ∧ t.den E ≤ 9223372036854775807 := by
  have := BT.ev_spec hG (beq_iff_eq.1 h)
  rw [i64R_den] at this
  exact of_decide_eq_true this
def kMu : Con
  | [.val false [.n .i64 x], .val false [.n .i64 y]], G => if i64G G x && i64G G y then
      match (muT x y).ev G with
      | some true => some tNo
      | some false => some (tIv (fl16T (.a2 2 x y)) (ceiT (.a2 2 x y)))
      | none => none
    else none
  | _, _ => none
def nMu : List AV → Asm → Option BT
  | [.val false [.n .i64 x], .val false [.n .i64 y]], _ => some (muT x y)
  | _, _ => none
theorem kMu_ok {E : Env} : ConOK Try.prog E 50 kMu := by
  refine ⟨?_, ?_, ⟨_, Try.func50, by decide +kernel, by kernel_rfl⟩⟩
  · intro args G r h hG β w vs hv hlen
    unfold kMu at h
    split at h
    · rename_i x y
      split at h
      · rename_i hc
        rw [Bool.and_eq_true] at hc
        have a := i64G_spec hG hc.1
        have b := i64G_spec hG hc.2
        obtain ⟨v, u, rfl, h1, h2⟩ := args2 hv hlen
        rw [one_num.1 h1, one_num.1 h2]
        have hm : (muT x y).den E = decide ((x.den E).natAbs * (y.den E).natAbs / 18446744073709551616 > 8192) := by
          show decide ((8192 : Int) < (((x.den E).natAbs : Int) * ((y.den E).natAbs : Int)) / 18446744073709551616) = _
          rw [decide_eq_decide, ← Int.natCast_mul]; omega
        split at h
        · rename_i he
          injection h with h
          subst h
          have := BT.ev_spec hG he
          rw [hm] at this
          refine (multiply_calls w _ _ a b).mono ?_
          rintro e w' ⟨rfl, ex⟩
          refine ⟨_, rfl, ?_, ex⟩
          unfold mulM
          rw [if_pos (of_decide_eq_true this)]
          exact tNo_holds
        · rename_i he
          injection h with h
          subst h
          have := BT.ev_spec hG he
          rw [hm] at this
          refine (multiply_calls w _ _ a b).mono ?_
          rintro e w' ⟨rfl, ex⟩
          refine ⟨_, rfl, ?_, ex⟩
          unfold mulM
          rw [if_neg (of_decide_eq_false this)]
          exact tIv_holds (fl16T_den _) (ceiT_den _)
        · cases h
      · cases h
    · cases h
  · intro args G r h x off
    unfold kMu at h
    split at h
    · split at h
      · split at h
        · injection h with h; subst h; intro e; cases e
        · injection h with h; subst h; intro e; cases e
        · cases h
      · cases h
    · cases h
end Go.Proofs.Ytdleiiboffkidaa
end

/- ---- Fsl ---- -/
section
/-
  Package filter: Mul of the program, and rows of machine numbers.
-/
set_option maxRecDepth 100000
namespace Go.Proofs.Ytdleiiboffkidaa
open Go.RowKit

/-- More rows, and more zeros. -/
def cfgRw (C : Cfg) (l : List (TypeId × TypeId)) (z : List (TypeId × List Chunk)) : Cfg := { C with
  row := fun t => match findR l t with | some e => some e | none => C.row t
  zero := fun t => match findR z t with | some e => some e | none => C.zero t }
theorem cfgRw_ok {E : Env} {C : Cfg} {l : List (TypeId × TypeId)} {z : List (TypeId × List Chunk)} (h : CfgOK Try.prog E C) (hl : RowOK Try.prog l) (hz : ZeroOK Try.prog z) : CfgOK Try.prog E (cfgRw C l z) := by
  refine ⟨?_, h.ag, h.fld, h.flds, h.bool, ?_, h.arr, h.calls, h.nptr, h.body, h.slc, h.strT, h.cnv, h.apd, h.eq2⟩
  · intro t cs ht
    simp only [cfgRw] at ht
    split at ht
    · rename_i e' he
      injection ht with ht
      subst ht
      intro w
      exact hz.all _ (findR_spec he) E w
    · exact h.zero t cs ht
  · intro t e ht
    simp only [cfgRw] at ht
    split at ht
    · rename_i e' he
      injection ht with ht
      subst ht
      exact hl.all _ (findR_spec he)
    · exact h.row t e ht
def rowI : List (TypeId × TypeId) := [(85, 2)]
theorem rowI_ok : RowOK Try.prog rowI := .cons Try.underlying85 .nil
def zerI : List (TypeId × List Chunk) := [(2, [.n .i64 (.lit 0)])]
theorem zerI_ok : ZeroOK Try.prog zerI := .cons (fun _ w => ⟨_, Try.zeroValue2 w, [_], _, rfl, rfl, rfl⟩) .nil
def mulI (a b c d : Int) : Option (Int × Int) := prI (mulLo a b c d) (mulHi a b c d)
noncomputable def cMp : Cfg := cfgN (cfgOf [(50, kMu), (44, kPr)]) [(50, nMu), (44, nPr)]
theorem cMp_ok {E : Env} : CfgOK Try.prog E cMp := cfgN_ok (cfg_ok (.cons kMu_ok (.cons kPr_ok .nil)))
def pr0 : IT := .a2 2 (.var 0) (.var 4)
def pr1 : IT := .a2 2 (.var 0) (.var 6)
def pr2 : IT := .a2 2 (.var 2) (.var 4)
def pr3 : IT := .a2 2 (.var 2) (.var 6)
def gM4 (a b c d : Bool) : Asm := [(muT (.var 0) (.var 4), a), (muT (.var 0) (.var 6), b), (muT (.var 2) (.var 4), c), (muT (.var 2) (.var 6), d)]
def gV4 : Asm := gR (.var 0) ++ (gR (.var 2) ++ (gR (.var 4) ++ gR (.var 6)))
def pmLo : IT := .a2 12 (.a2 12 (.a2 12 (.a2 12 (.lit 9223372036854775807) (fl16T pr0)) (fl16T pr1)) (fl16T pr2)) (fl16T pr3)
def pmHi : IT := .a2 13 (.a2 13 (.a2 13 (.a2 13 (.lit (-9223372036854775808)) (ceiT pr0)) (ceiT pr1)) (ceiT pr2)) (ceiT pr3)
theorem pmul_walk : ∀ b, funE cMp Try.f16 ((exT pmLo pmHi, b) :: (gM4 false false false false ++ gV4)) [aIv 0, aIv 2] = some (lfX pmLo pmHi b) := by
  intro b
  cases b <;> kernel_rfl
theorem pmul_no : ∀ a b c d, (a || (b || (c || d))) = true → funE cMp Try.f16 (gM4 a b c d ++ gV4) [aIv 0, aIv 2] = some (.leaf noL) := by
  intro a b c d h
  cases a
  · cases b
    · cases c
      · cases d
        · cases h
        · kernel_rfl
      · cases d <;> kernel_rfl
    · cases c <;> cases d <;> kernel_rfl
  · cases b <;> cases c <;> cases d <;> kernel_rfl
theorem muT_den {E : Env} {x y : IT} : (muT x y).den E = decide ((x.den E).natAbs * (y.den E).natAbs / 18446744073709551616 > 8192) := by
  show decide ((8192 : Int) < (((x.den E).natAbs : Int) * ((y.den E).natAbs : Int)) / 18446744073709551616) = _
  rw [decide_eq_decide, ← Int.natCast_mul]; omega
/-- A product that is too great for a machine has no interval. -/
theorem big_out {x y : Int} (h : x.natAbs * y.natAbs / 18446744073709551616 > 8192) : fl16 (x * y) < -2305843009213693952 ∨ 2305843009213693952 < cl16 (x * y) := by
  unfold fl16 cl16
  rcases prod_cases x y with ⟨_, e⟩ | ⟨_, e⟩ <;> rw [e] <;> omega
theorem small_in {x y : Int} (h : ¬ x.natAbs * y.natAbs / 18446744073709551616 > 8192) : -2305843009213693952 * 2 ≤ fl16 (x * y) ∧ fl16 (x * y) ≤ 2305843009213693952 * 2 ∧ -2305843009213693952 * 2 ≤ cl16 (x * y) ∧ cl16 (x * y) ≤ 2305843009213693952 * 2 := by
  unfold fl16 cl16
  rcases prod_cases x y with ⟨_, e⟩ | ⟨_, e⟩ <;> rw [e] <;> omega
theorem pMul_calls (w : World) (a b c d : Int) (hp : Prp a b) (hp' : Prp c d) : Calls Try.prog 16 #[.agg #[.int .i64 a, .int .i64 b], .agg #[.int .i64 c, .int .i64 d]] w (RetIv (mulI a b c d) w) := by
  obtain ⟨E, hE⟩ : ∃ E, E = qE [(a : Rat), (b : Rat), (c : Rat), (d : Rat)] := ⟨_, rfl⟩
  have e0 : E.i 0 = a := by rw [hE]; exact qE_int (i := 0) rfl
  have e2 : E.i 2 = b := by rw [hE]; exact qE_int (i := 1) rfl
  have e4 : E.i 4 = c := by rw [hE]; exact qE_int (i := 2) rfl
  have e6 : E.i 6 = d := by rw [hE]; exact qE_int (i := 3) rfl
  obtain ⟨p1, p2, p3⟩ := hp
  obtain ⟨q1, q2, q3⟩ := hp'
  have hv := two_args (E := E) (w := w) (args := [aIv 0, aIv 2]) (vs := [.agg #[.int .i64 a, .int .i64 b], .agg #[.int .i64 c, .int .i64 d]]) rfl rfl (fun β => by rw [hE]; exact aIv_holds (i := 0) rfl rfl) (fun β => by rw [hE]; exact aIv_holds (i := 2) rfl rfl)
  have hV : gV4.holds E := asm_app (gR_of e0 (by omega)) <| asm_app (gR_of e2 (by omega)) <| asm_app (gR_of e4 (by omega)) (gR_of e6 (by omega))
  have m0 : (muT (.var 0) (.var 4)).den E = decide (a.natAbs * c.natAbs / 18446744073709551616 > 8192) := by rw [muT_den]; show decide ((E.i 0).natAbs * (E.i 4).natAbs / _ > 8192) = _; rw [e0, e4]
  have m1 : (muT (.var 0) (.var 6)).den E = decide (a.natAbs * d.natAbs / 18446744073709551616 > 8192) := by rw [muT_den]; show decide ((E.i 0).natAbs * (E.i 6).natAbs / _ > 8192) = _; rw [e0, e6]
  have m2 : (muT (.var 2) (.var 4)).den E = decide (b.natAbs * c.natAbs / 18446744073709551616 > 8192) := by rw [muT_den]; show decide ((E.i 2).natAbs * (E.i 4).natAbs / _ > 8192) = _; rw [e2, e4]
  have m3 : (muT (.var 2) (.var 6)).den E = decide (b.natAbs * d.natAbs / 18446744073709551616 > 8192) := by rw [muT_den]; show decide ((E.i 2).natAbs * (E.i 6).natAbs / _ > 8192) = _; rw [e2, e6]
  obtain ⟨l1, l2, l3, l4⟩ := mulLo_le a b c d
  obtain ⟨u1, u2, u3, u4⟩ := le_mulHi a b c d
  by_cases hs : ¬ a.natAbs * c.natAbs / 18446744073709551616 > 8192 ∧ ¬ a.natAbs * d.natAbs / 18446744073709551616 > 8192 ∧ ¬ b.natAbs * c.natAbs / 18446744073709551616 > 8192 ∧ ¬ b.natAbs * d.natAbs / 18446744073709551616 > 8192
  · obtain ⟨s0, s1, s2, s3⟩ := hs
    have i0 := small_in s0
    have i1 := small_in s1
    have i2 := small_in s2
    have i3 := small_in s3
    have f0 : (fl16T pr0).den E = fl16 (a * c) := by rw [fl16T_den]; show fl16 (E.i 0 * E.i 4) = _; rw [e0, e4]
    have f1 : (fl16T pr1).den E = fl16 (a * d) := by rw [fl16T_den]; show fl16 (E.i 0 * E.i 6) = _; rw [e0, e6]
    have f2 : (fl16T pr2).den E = fl16 (b * c) := by rw [fl16T_den]; show fl16 (E.i 2 * E.i 4) = _; rw [e2, e4]
    have f3 : (fl16T pr3).den E = fl16 (b * d) := by rw [fl16T_den]; show fl16 (E.i 2 * E.i 6) = _; rw [e2, e6]
    have c0 : (ceiT pr0).den E = cl16 (a * c) := by rw [ceiT_den]; show cl16 (E.i 0 * E.i 4) = _; rw [e0, e4]
    have c1 : (ceiT pr1).den E = cl16 (a * d) := by rw [ceiT_den]; show cl16 (E.i 0 * E.i 6) = _; rw [e0, e6]
    have c2 : (ceiT pr2).den E = cl16 (b * c) := by rw [ceiT_den]; show cl16 (E.i 2 * E.i 4) = _; rw [e2, e4]
    have c3 : (ceiT pr3).den E = cl16 (b * d) := by rw [ceiT_den]; show cl16 (E.i 2 * E.i 6) = _; rw [e2, e6]
    have mn : ∀ x y : IT, (IT.a2 12 x y).den E = min (x.den E) (y.den E) := fun x y => by
      show (if y.den E < x.den E then y.den E else x.den E) = _
      split <;> omega
    have mx : ∀ x y : IT, (IT.a2 13 x y).den E = max (x.den E) (y.den E) := fun x y => by
      show (if y.den E > x.den E then y.den E else x.den E) = _
      split <;> omega
    refine ex_calls (E := E) (C := cMp) cMp_ok (asm_app (asm_c (by rw [m0, decide_eq_false s0]) <| asm_c (by rw [m1, decide_eq_false s1]) <| asm_c (by rw [m2, decide_eq_false s2]) <| asm_c (by rw [m3, decide_eq_false s3]) no_asm) hV) Try.func16 (by decide +kernel) pmul_walk ?_ ?_ (by decide +kernel) (args := [aIv 0, aIv 2]) rfl (fun _ => trivial) w _ rfl hv
    · unfold pmLo
      rw [mn, mn, mn, mn, f0, f1, f2, f3]
      show min (min (min (min (9223372036854775807 : Int) _) _) _) _ = _
      unfold mulLo
      omega
    · unfold pmHi
      rw [mx, mx, mx, mx, c0, c1, c2, c3]
      show max (max (max (max (-9223372036854775808 : Int) _) _) _) _ = _
      unfold mulHi
      omega
  · have hno : mulI a b c d = none := by
      refine prI_neg ?_
      unfold Prp
      by_cases s0 : a.natAbs * c.natAbs / 18446744073709551616 > 8192
      · have := big_out s0; omega
      by_cases s1 : a.natAbs * d.natAbs / 18446744073709551616 > 8192
      · have := big_out s1; omega
      by_cases s2 : b.natAbs * c.natAbs / 18446744073709551616 > 8192
      · have := big_out s2; omega
      by_cases s3 : b.natAbs * d.natAbs / 18446744073709551616 > 8192
      · have := big_out s3; omega
      · exact absurd ⟨s0, s1, s2, s3⟩ hs
    rw [hno]
    refine no_calls (E := E) (C := cMp) cMp_ok (asm_app (asm_c m0 <| asm_c m1 <| asm_c m2 <| asm_c m3 no_asm) hV) Try.func16 (by decide +kernel) (pmul_no _ _ _ _ ?_) (by decide +kernel) rfl (fun _ => trivial) w _ rfl hv
    rw [← Bool.decide_or, ← Bool.decide_or, ← Bool.decide_or, decide_eq_true_iff]
    omega
end Go.Proofs.Ytdleiiboffkidaa
end

/- ---- Fsm ---- -/
section
/-
  Package filter: Mul of the reference.
-/
set_option maxRecDepth 100000
namespace Go.Proofs.Ytdleiiboffkidaa
open Go.RowKit

def isIv (x y : IT) : Tree → Bool
  | .leaf [(true, [.n .i64 a, .n .i64 b]), (false, [.b (.lit true)])] => a.beq x && b.beq y
  | .leaf _ => false
  | .ite _ t e => isIv x y t && isIv x y e
theorem isIv_pick {E : Env} {x y : IT} : ∀ {T : Tree}, isIv x y T = true → T.pick E = ivL x y := by
  intro T
  induction T with
  | leaf l =>
    intro h
    unfold isIv at h
    split at h
    · rename_i a b e
      injection e with e
      subst e
      rw [Bool.and_eq_true] at h
      rw [IT.eq_of_beq h.1, IT.eq_of_beq h.2]
      rfl
    · cases h
    · rename_i e; cases e
  | ite c t e iht ihe =>
    intro h
    simp only [isIv, Bool.and_eq_true] at h
    simp only [Tree.pick]
    split
    · exact iht h.1
    · exact ihe h.2
def isNo : Tree → Bool
  | .leaf [(true, [.n .i64 (.lit 0), .n .i64 (.lit 0)]), (false, [.b (.lit false)])] => true
  | .leaf _ => false
  | .ite _ t e => isNo t && isNo e
theorem isNo_pick {E : Env} : ∀ {T : Tree}, isNo T = true → T.pick E = noL := by
  intro T
  induction T with
  | leaf l =>
    intro h
    unfold isNo at h
    split at h
    · rename_i e
      cases e
      rfl
    · cases h
    · rename_i e
      cases e
  | ite c t e iht ihe =>
    intro h
    simp only [isNo, Bool.and_eq_true] at h
    simp only [Tree.pick]
    split
    · exact iht h.1
    · exact ihe h.2
def isEx (x y : IT) (b : Bool) : Option Tree → Bool
  | some T => if b then isIv x y T else isNo T
  | none => false
theorem exs_calls {C : Cfg} {E : Env} (hC : CfgOK Try.prog E C) {G : Asm} (hG : G.holds E) {f : FuncId} {fn : Func} (hf : Try.prog.funcs[f]? = some fn) (h4 : fn.results.toList.length ≤ 4) {args : List AV} {x y : IT} (hT : ∀ b, isEx x y b (funE C fn ((exT x y, b) :: G) args) = true) {a b : Int} (hx : x.den E = a) (hy : y.den E = b) (hn : args.length ≤ fn.ntmps) (hp : args.all noPtr = true) (hw : ∀ w, C.wok w) (w : World) (vs : List Value) (hl : vs.length = args.length)
    (hv : ∀ (i : Nat) (x : AV), args[i]? = some x → ∃ v, vs[i]? = some v ∧ ∀ β, x.holds E β w v) : Calls Try.prog f vs.toArray w (RetIv (prI a b) w) := by
  have h := hT (prpB (x.den E) (y.den E))
  unfold isEx at h
  split at h
  · rename_i T hT'
    refine pick_calls hC (asm_c (t := exT x y) (b := prpB (x.den E) (y.den E)) rfl hG) hf h4 hT' hx hy ?_ hn hp hw w vs hl hv
    by_cases k : Prp (x.den E) (y.den E)
    · refine .inl ⟨k, ?_⟩
      rw [prpB_iff.2 k, if_pos rfl] at h
      exact isIv_pick h
    · refine .inr ⟨k, ?_⟩
      rw [show prpB (x.den E) (y.den E) = false from Bool.eq_false_iff.2 fun e => k (prpB_iff.1 e), if_neg (by decide)] at h
      exact isNo_pick h
  · cases h
noncomputable def cRm0 : Cfg := cfgRw cR0 rowI zerI
theorem cRm0_ok {E : Env} (hE : QEnv E) : CfgOK Try.prog E cRm0 := cfgRw_ok (cR0_ok hE) rowI_ok zerI_ok
noncomputable def cRm : Cfg := cfgI cRm0 cRm0 [(49, Try.f49)]
theorem cRm_ok {E : Env} (hE : QEnv E) : CfgOK Try.prog E cRm := cfgI_ok mixed (cRm0_ok hE) (cRm0_ok hE) (fun _ => trivial) (.cons Try.func49 (by decide +kernel) (by kernel_rfl) .nil)
def scT : IT2 := (.a2 7 (.lit 1) (.lit 65536), .a2 8 (.lit 1) (.lit 65536))
def xT (i k : Nat) : IT2 := qop 2 (qop 2 (.var i, .lit 1) (.var k, .lit 1)) scT
def dT (i k : Nat) : IT := .a2 4 (xT i k).1 (xT i k).2
def uT (i k : Nat) : IT := .a1 0 (.a2 4 (.a1 0 (xT i k).1) (xT i k).2)
theorem floor_16 (p : Int) : ((p : Rat) * Rat.divInt 1 65536).floor = fl16 p := by
  have e : (p : Rat) * Rat.divInt 1 65536 = (p : Rat) / 65536 := by
    rw [Rat.divInt_eq_div]
    have : ((1 : Int) : Rat) = 1 := rfl
    have : ((65536 : Int) : Rat) = 65536 := rfl
    grind
  rw [e]
  have h1 : ∀ n : Int, n ≤ ((p : Rat) / 65536).floor ↔ n ≤ p / 65536 := fun n => by
    rw [Rat.le_floor_iff]
    constructor
    · intro h
      have : ((n * 65536 : Int) : Rat) ≤ (p : Rat) := by
        rw [Rat.intCast_mul]
        have : ((65536 : Int) : Rat) = 65536 := rfl
        grind
      have := Rat.intCast_le_intCast.1 this
      omega
    · intro h
      have h' : n * 65536 ≤ p := by omega
      have := Rat.intCast_le_intCast.2 h'
      rw [Rat.intCast_mul] at this
      have : ((65536 : Int) : Rat) = 65536 := rfl
      grind
  have a := (h1 ((p : Rat) / 65536).floor).1 (Int.le_refl _)
  have b := (h1 (p / 65536)).2 (Int.le_refl _)
  unfold fl16
  omega
theorem xT_rep {E : Env} {i k : Nat} {x y : Int} (hx : E.i i = x) (hy : E.i k = y) : RepQ E (xT i k) (((x * y : Int) : Rat) * Rat.divInt 1 65536) := by
  have r1 : RepQ E (.var i, .lit 1) (x : Rat) := ⟨hx, rfl⟩
  have r2 : RepQ E (.var k, .lit 1) (y : Rat) := ⟨hy, rfl⟩
  have r3 : RepQ E scT (Rat.divInt 1 65536) := ⟨rfl, rfl⟩
  have := rep_op (f := 2) (by omega) (rep_op (f := 2) (by omega) r1 r2) r3
  rw [Rat.intCast_mul]
  exact this
theorem dT_den {E : Env} {i k : Nat} {x y : Int} (hx : E.i i = x) (hy : E.i k = y) : (dT i k).den E = fl16 (x * y) := by
  obtain ⟨r1, r2⟩ := xT_rep hx hy
  show dq ((xT i k).1.den E) ((xT i k).2.den E) = _
  rw [r1, r2, dq_pos (by have := (((x * y : Int) : Rat) * Rat.divInt 1 65536).den_pos; omega), ← Rat.floor_def, floor_16]
theorem uT_den {E : Env} {i k : Nat} {x y : Int} (hx : E.i i = x) (hy : E.i k = y) : (uT i k).den E = cl16 (x * y) := by
  obtain ⟨r1, r2⟩ := xT_rep hx hy
  show -dq (-((xT i k).1.den E)) ((xT i k).2.den E) = _
  have e : -(((x * y : Int) : Rat) * Rat.divInt 1 65536) = ((-(x * y) : Int) : Rat) * Rat.divInt 1 65536 := by rw [Rat.intCast_neg]; grind
  rw [r1, r2, dq_pos (by have := (((x * y : Int) : Rat) * Rat.divInt 1 65536).den_pos; omega), ← Rat.neg_num, ← Rat.neg_den, ← Rat.floor_def, e, floor_16]
  rfl
def dI : Nat → IT
  | 0 => dT 0 4
  | 1 => dT 0 6
  | 2 => dT 2 4
  | _ => dT 2 6
def uI : Nat → IT
  | 0 => uT 0 4
  | 1 => uT 0 6
  | 2 => uT 2 4
  | _ => uT 2 6
def ltD (i j : Nat) (b : Bool) : BT × Bool := (.lt (.a2 3 (dI i) (dI j)) (.lit 0), b)
def ltU (i j : Nat) (b : Bool) : BT × Bool := (.lt (.lit 0) (.a2 3 (uI i) (uI j)), b)
def gD : Nat → Asm
  | 0 => [ltD 1 0 false, ltD 2 0 false, ltD 3 0 false]
  | 1 => [ltD 1 0 true, ltD 2 1 false, ltD 3 1 false]
  | 2 => [ltD 2 0 true, ltD 2 1 true, ltD 3 2 false]
  | _ => [ltD 3 0 true, ltD 3 1 true, ltD 3 2 true]
def gUp : Nat → Asm
  | 0 => [ltU 1 0 false, ltU 2 0 false, ltU 3 0 false]
  | 1 => [ltU 1 0 true, ltU 2 1 false, ltU 3 1 false]
  | 2 => [ltU 2 0 true, ltU 2 1 true, ltU 3 2 false]
  | _ => [ltU 3 0 true, ltU 3 1 true, ltU 3 2 true]
noncomputable def rOK (i j : Nat) (b : Bool) : Bool := isEx (dI i) (uI j) b (funE cRm Try.f18 ((exT (dI i) (uI j), b) :: (gD i ++ (gUp j ++ gV4))) [aIv 0, aIv 2])
noncomputable def rAll : Bool := (List.range 4).all fun i => (List.range 4).all fun j => rOK i j true && rOK i j false
theorem rAll_ok : rAll = true := by kernel_rfl
theorem rmul_walk {i j : Nat} (hi : i < 4) (hj : j < 4) (b : Bool) : isEx (dI i) (uI j) b (funE cRm Try.f18 ((exT (dI i) (uI j), b) :: (gD i ++ (gUp j ++ gV4))) [aIv 0, aIv 2]) = true := by
  have h := List.all_eq_true.1 (List.all_eq_true.1 rAll_ok i (List.mem_range.2 hi)) j (List.mem_range.2 hj)
  rw [Bool.and_eq_true] at h
  cases b
  · exact h.2
  · exact h.1
theorem cmp_ltz {x y : Int} : cmpZ x y < 0 ↔ x < y := by rcases cmpZ_cases x y with ⟨a, e⟩ | ⟨a, e⟩ | ⟨a, e⟩ <;> rw [e] <;> omega
theorem cmp_gtz {x y : Int} : 0 < cmpZ x y ↔ y < x := by rcases cmpZ_cases x y with ⟨a, e⟩ | ⟨a, e⟩ | ⟨a, e⟩ <;> rw [e] <;> omega
theorem ltD_t {E : Env} {i j : Nat} {G : Asm} (h : (dI i).den E < (dI j).den E) (k : G.holds E) : Asm.holds E (ltD i j true :: G) := lt_t (x := .a2 3 (dI i) (dI j)) (y := .lit 0) (cmp_ltz.2 h) k
theorem ltD_f {E : Env} {i j : Nat} {G : Asm} (h : ¬ (dI i).den E < (dI j).den E) (k : G.holds E) : Asm.holds E (ltD i j false :: G) := lt_f (x := .a2 3 (dI i) (dI j)) (y := .lit 0) (fun q => h (cmp_ltz.1 q)) k
theorem ltU_t {E : Env} {i j : Nat} {G : Asm} (h : (uI j).den E < (uI i).den E) (k : G.holds E) : Asm.holds E (ltU i j true :: G) := lt_t (x := .lit 0) (y := .a2 3 (uI i) (uI j)) (cmp_gtz.2 h) k
theorem ltU_f {E : Env} {i j : Nat} {G : Asm} (h : ¬ (uI j).den E < (uI i).den E) (k : G.holds E) : Asm.holds E (ltU i j false :: G) := lt_f (x := .lit 0) (y := .a2 3 (uI i) (uI j)) (fun q => h (cmp_gtz.1 q)) k
theorem first_min (E : Env) : ∃ i, i < 4 ∧ (gD i).holds E ∧ (dI i).den E = min (min ((dI 0).den E) ((dI 1).den E)) (min ((dI 2).den E) ((dI 3).den E)) := by
  by_cases h0 : (dI 0).den E ≤ (dI 1).den E ∧ (dI 0).den E ≤ (dI 2).den E ∧ (dI 0).den E ≤ (dI 3).den E
  · exact ⟨0, by omega, ltD_f (by omega) <| ltD_f (by omega) <| ltD_f (by omega) no_asm, by omega⟩
  by_cases h1 : (dI 1).den E < (dI 0).den E ∧ (dI 1).den E ≤ (dI 2).den E ∧ (dI 1).den E ≤ (dI 3).den E
  · exact ⟨1, by omega, ltD_t (by omega) <| ltD_f (by omega) <| ltD_f (by omega) no_asm, by omega⟩
  by_cases h2 : (dI 2).den E < (dI 0).den E ∧ (dI 2).den E < (dI 1).den E ∧ (dI 2).den E ≤ (dI 3).den E
  · exact ⟨2, by omega, ltD_t (by omega) <| ltD_t (by omega) <| ltD_f (by omega) no_asm, by omega⟩
  · exact ⟨3, by omega, ltD_t (by omega) <| ltD_t (by omega) <| ltD_t (by omega) no_asm, by omega⟩
theorem first_max (E : Env) : ∃ i, i < 4 ∧ (gUp i).holds E ∧ (uI i).den E = max (max ((uI 0).den E) ((uI 1).den E)) (max ((uI 2).den E) ((uI 3).den E)) := by
  by_cases h0 : (uI 1).den E ≤ (uI 0).den E ∧ (uI 2).den E ≤ (uI 0).den E ∧ (uI 3).den E ≤ (uI 0).den E
  · exact ⟨0, by omega, ltU_f (by omega) <| ltU_f (by omega) <| ltU_f (by omega) no_asm, by omega⟩
  by_cases h1 : (uI 0).den E < (uI 1).den E ∧ (uI 2).den E ≤ (uI 1).den E ∧ (uI 3).den E ≤ (uI 1).den E
  · exact ⟨1, by omega, ltU_t (by omega) <| ltU_f (by omega) <| ltU_f (by omega) no_asm, by omega⟩
  by_cases h2 : (uI 0).den E < (uI 2).den E ∧ (uI 1).den E < (uI 2).den E ∧ (uI 3).den E ≤ (uI 2).den E
  · exact ⟨2, by omega, ltU_t (by omega) <| ltU_t (by omega) <| ltU_f (by omega) no_asm, by omega⟩
  · exact ⟨3, by omega, ltU_t (by omega) <| ltU_t (by omega) <| ltU_t (by omega) no_asm, by omega⟩
theorem rMul_calls (w : World) (a b c d : Int) (hp : Prp a b) (hp' : Prp c d) : Calls Try.prog 18 #[.agg #[.int .i64 a, .int .i64 b], .agg #[.int .i64 c, .int .i64 d]] w (RetIv (mulI a b c d) w) := by
  obtain ⟨E, hE⟩ : ∃ E, E = qE [(a : Rat), (b : Rat), (c : Rat), (d : Rat)] := ⟨_, rfl⟩
  have e0 : E.i 0 = a := by rw [hE]; exact qE_int (i := 0) rfl
  have e2 : E.i 2 = b := by rw [hE]; exact qE_int (i := 1) rfl
  have e4 : E.i 4 = c := by rw [hE]; exact qE_int (i := 2) rfl
  have e6 : E.i 6 = d := by rw [hE]; exact qE_int (i := 3) rfl
  obtain ⟨p1, p2, p3⟩ := hp
  obtain ⟨q1, q2, q3⟩ := hp'
  have hv := two_args (E := E) (w := w) (args := [aIv 0, aIv 2]) (vs := [.agg #[.int .i64 a, .int .i64 b], .agg #[.int .i64 c, .int .i64 d]]) rfl rfl (fun β => by rw [hE]; exact aIv_holds (i := 0) rfl rfl) (fun β => by rw [hE]; exact aIv_holds (i := 2) rfl rfl)
  have hV : gV4.holds E := asm_app (gR_of e0 (by omega)) <| asm_app (gR_of e2 (by omega)) <| asm_app (gR_of e4 (by omega)) (gR_of e6 (by omega))
  obtain ⟨i, hi, gi, mi⟩ := first_min E
  obtain ⟨j, hj, gj, mj⟩ := first_max E
  refine exs_calls (E := E) (C := cRm) (cRm_ok (by rw [hE]; exact qE_ok _)) (asm_app gi (asm_app gj hV)) Try.func18 (by decide +kernel) (rmul_walk hi hj) ?_ ?_ (by decide +kernel) rfl (fun _ => trivial) w _ rfl hv
  · rw [mi]
    show min (min ((dT 0 4).den E) ((dT 0 6).den E)) (min ((dT 2 4).den E) ((dT 2 6).den E)) = _
    rw [dT_den e0 e4, dT_den e0 e6, dT_den e2 e4, dT_den e2 e6]
    rfl
  · rw [mj]
    show max (max ((uT 0 4).den E) ((uT 0 6).den E)) (max ((uT 2 4).den E) ((uT 2 6).den E)) = _
    rw [uT_den e0 e4, uT_den e0 e6, uT_den e2 e4, uT_den e2 e6]
    rfl
end Go.Proofs.Ytdleiiboffkidaa
end

/- ---- Fsn ---- -/
section
/-
  Package filter: its functions, and those of the reference, for the walker.
-/
set_option maxRecDepth 100000
namespace Go.Proofs.Ytdleiiboffkidaa
open Go.RowKit

def pG1 (G : Asm) (a b : IT) : Bool := (exT a b).ev G == some true
def pG (G : Asm) (a b : IT) : Bool := pG1 G a b || (match a, b with | .a1 0 b', .a1 0 a' => pG1 G a' b' | _, _ => false)
theorem pG1_spec {E : Env} {G : Asm} (hG : G.holds E) {a b : IT} (h : pG1 G a b = true) : Prp (a.den E) (b.den E) := by
  have := BT.ev_spec hG (beq_iff_eq.1 h)
  rw [exT_den] at this
  exact prpB_iff.1 this
theorem pG_spec {E : Env} {G : Asm} (hG : G.holds E) {a b : IT} (h : pG G a b = true) : Prp (a.den E) (b.den E) := by
  unfold pG at h
  rw [Bool.or_eq_true] at h
  rcases h with h | h
  · exact pG1_spec hG h
  · split at h
    · rename_i a' b'
      obtain ⟨h1, h2, h3⟩ := pG1_spec hG h
      show Prp (-_) (-_)
      unfold Prp
      omega
    · cases h
/-- Two intervals make one. -/
def kI2 (lo hi : IT → IT → IT → IT → IT) : Con
  | [.val true [.n .i64 a, .n .i64 b], .val true [.n .i64 c, .n .i64 d]], G => if pG G a b && pG G c d then kEx (lo a b c d) (hi a b c d) G else none
  | _, _ => none
def nI2 (lo hi : IT → IT → IT → IT → IT) : List AV → Asm → Option BT
  | [.val true [.n .i64 a, .n .i64 b], .val true [.n .i64 c, .n .i64 d]], _ => some (exT (lo a b c d) (hi a b c d))
  | _, _ => none
theorem kI2_ok {E : Env} {lo hi : IT → IT → IT → IT → IT} {L H : Int → Int → Int → Int → Int} (hL : ∀ a b c d, (lo a b c d).den E = L (a.den E) (b.den E) (c.den E) (d.den E)) (hH : ∀ a b c d, (hi a b c d).den E = H (a.den E) (b.den E) (c.den E) (d.den E)) {f : Nat}
    (hc : ∀ (w : World) (a b c d : Int), Prp a b → Prp c d → Calls Try.prog f #[.agg #[.int .i64 a, .int .i64 b], .agg #[.int .i64 c, .int .i64 d]] w (RetIv (prI (L a b c d) (H a b c d)) w)) (hb : ∃ fn, Try.prog.funcs[f]? = some fn ∧ fn.name ≠ "runtime.NumGoroutine" ∧ fn.body.isNone = false) : ConOK Try.prog E f (kI2 lo hi) := by
  refine ⟨?_, ?_, hb⟩
  · intro args G r h hG β w vs hv hlen
    unfold kI2 at h
    split at h
    · rename_i a b c d
      split at h
      · rename_i hm
        rw [Bool.and_eq_true] at hm
        obtain ⟨v, u, rfl, h1, h2⟩ := args2 hv hlen
        rw [show v = _ from agg_out h1, show u = _ from agg_out h2]
        refine (hc w _ _ _ _ (pG_spec hG hm.1) (pG_spec hG hm.2)).mono ?_
        rintro e w' ⟨rfl, ex⟩
        refine ⟨_, rfl, ?_, ex⟩
        rw [← hL, ← hH]
        exact kEx_holds hG h
      · cases h
    · cases h
  · intro args G r h
    unfold kI2 at h
    split at h
    · split at h
      · exact kEx_nptr h
      · cases h
    · cases h
def muLo (a b c d : IT) : IT := .a2 12 (.a2 12 (fl16T (.a2 2 a c)) (fl16T (.a2 2 a d))) (.a2 12 (fl16T (.a2 2 b c)) (fl16T (.a2 2 b d)))
def muHi (a b c d : IT) : IT := .a2 13 (.a2 13 (ceiT (.a2 2 a c)) (ceiT (.a2 2 a d))) (.a2 13 (ceiT (.a2 2 b c)) (ceiT (.a2 2 b d)))
theorem min_den {E : Env} (x y : IT) : (IT.a2 12 x y).den E = min (x.den E) (y.den E) := by
  show (if y.den E < x.den E then y.den E else x.den E) = _
  split <;> omega
theorem max_den {E : Env} (x y : IT) : (IT.a2 13 x y).den E = max (x.den E) (y.den E) := by
  show (if y.den E > x.den E then y.den E else x.den E) = _
  split <;> omega
theorem muLo_den {E : Env} (a b c d : IT) : (muLo a b c d).den E = mulLo (a.den E) (b.den E) (c.den E) (d.den E) := by
  unfold muLo
  rw [min_den, min_den, min_den, fl16T_den, fl16T_den, fl16T_den, fl16T_den]
  rfl
theorem muHi_den {E : Env} (a b c d : IT) : (muHi a b c d).den E = mulHi (a.den E) (b.den E) (c.den E) (d.den E) := by
  unfold muHi
  rw [max_den, max_den, max_den, ceiT_den, ceiT_den, ceiT_den, ceiT_den]
  rfl
def adLo (a _ c _ : IT) : IT := .a2 0 a c
def adHi (_ b _ d : IT) : IT := .a2 0 b d
/-- Square roots. -/
def sqLoT (a : IT) : IT := sqfT (.a2 13 (.lit 0) a)
def sqHiT (b : IT) : IT := .a2 0 (sqfT b) (.a2 3 (.a2 2 b (.lit 65536)) (.a2 2 (sqfT b) (sqfT b)))
def kSqV : Con
  | [.val true [.n .i64 a, .n .i64 b]], G => if pG G a b then
      match (BT.lt b (.lit 0)).ev G with
      | some true => some tNo
      | some false => kEx (sqLoT a) (sqHiT b) G
      | none => none
    else none
  | _, _ => none
def nSqV : List AV → Asm → Option BT
  | [.val true [.n .i64 a, .n .i64 b]], G => match (BT.lt b (.lit 0)).ev G with
    | some _ => some (exT (sqLoT a) (sqHiT b))
    | none => some (.lt b (.lit 0))
  | _, _ => none
theorem kSqV_ok {E : Env} {f : Nat} (hc : ∀ (w : World) (x y : Int), Prp x y → Calls Try.prog f #[.agg #[.int .i64 x, .int .i64 y]] w (RetIv (sqrI x y) w)) (hb : ∃ fn, Try.prog.funcs[f]? = some fn ∧ fn.name ≠ "runtime.NumGoroutine" ∧ fn.body.isNone = false) : ConOK Try.prog E f kSqV := by
  refine ⟨?_, ?_, hb⟩
  · intro args G r h hG β w vs hv hlen
    unfold kSqV at h
    split at h
    · rename_i a b
      split at h
      · rename_i hm
        have hp := pG_spec hG hm
        obtain ⟨v, rfl, h1⟩ := args1 hv hlen
        rw [show v = _ from agg_out h1]
        refine (hc w _ _ hp).mono ?_
        rintro e w' ⟨rfl, ex⟩
        refine ⟨_, rfl, ?_, ex⟩
        unfold sqrI
        split at h
        · rename_i he
          have : b.den E < 0 := of_decide_eq_true (BT.ev_spec hG he)
          injection h with h
          subst h
          rw [if_pos this]
          exact tNo_holds
        · rename_i he
          have hn : ¬ b.den E < 0 := of_decide_eq_false (BT.ev_spec hG he)
          rw [if_neg hn]
          have k := kEx_holds (β := β) (w := w') hG h
          obtain ⟨o1, o2, o3, o4, o5, o6, o7⟩ := sq_order hp (by omega)
          have d1 : (sqLoT a).den E = sqLo (a.den E) := by
            show isq ((if a.den E > 0 then a.den E else 0) * 65536) = _
            rfl
          have d2 : (sqHiT b).den E = sqHi (b.den E) := rfl
          rw [d1, d2, prI_pos ⟨by omega, by omega, by omega⟩] at k
          exact k
        · cases h
      · cases h
    · cases h
  · intro args G r h
    unfold kSqV at h
    split at h
    · split at h
      · split at h
        · injection h with h; subst h; intro x off e; cases e
        · exact kEx_nptr h
        · cases h
      · cases h
    · cases h
/-- Opposite intervals. -/
def kNegI : Con
  | [.val true [.n .i64 a, .n .i64 b]], G => if pG G a b then some (.val true [.n .i64 (.a1 0 b), .n .i64 (.a1 0 a)]) else none
  | _, _ => none
theorem neg_walkP : funE (cfgOf []) Try.f63 [] [aIv 0] = some (.leaf [(true, [.n .i64 (.a1 20 (.a2 1 (.lit 0) (.var 2))), .n .i64 (.a1 20 (.a2 1 (.lit 0) (.var 0)))])]) := by kernel_rfl
theorem neg_walkR : funE (cfgOf []) Try.f65 [] [aIv 0] = some (.leaf [(true, [.n .i64 (.a1 20 (.a2 1 (.lit 0) (.var 2))), .n .i64 (.a1 20 (.a2 1 (.lit 0) (.var 0)))])]) := by kernel_rfl
theorem neg_gen {f : Nat} {fn : Func} (hf : Try.prog.funcs[f]? = some fn) (h4 : fn.results.toList.length ≤ 4) (h1 : 1 ≤ fn.ntmps) (hT : funE (cfgOf []) fn [] [aIv 0] = some (.leaf [(true, [.n .i64 (.a1 20 (.a2 1 (.lit 0) (.var 2))), .n .i64 (.a1 20 (.a2 1 (.lit 0) (.var 0)))])])) (w : World) (x y : Int) (hp : Prp x y) : Calls Try.prog f #[.agg #[.int .i64 x, .int .i64 y]] w fun e w' => e = .returned (.agg #[.int .i64 (-y), .int .i64 (-x)]) ∧ Ext w w' := by
  obtain ⟨E, hE⟩ : ∃ E, E = qE [(x : Rat), (y : Rat)] := ⟨_, rfl⟩
  have e0 : E.i 0 = x := by rw [hE]; exact qE_int (i := 0) rfl
  have e2 : E.i 2 = y := by rw [hE]; exact qE_int (i := 1) rfl
  obtain ⟨p1, p2, p3⟩ := hp
  refine (fun_leaf (E := E) (C := cfgOf []) (cfg_ok .nil) no_asm hf h4 hT h1 rfl (fun _ => trivial) w [.agg #[.int .i64 x, .int .i64 y]] rfl (one_arg rfl rfl fun β => by rw [hE]; exact aIv_holds (i := 0) rfl rfl)).mono ?_
  rintro e w' ⟨β, v, rfl, hh, ex⟩
  have := agg_out hh
  rw [this]
  refine ⟨?_, ex⟩
  have a1 : (IT.a1 20 (.a2 1 (.lit 0) (.var 2))).den E = -y := by
    show IntKind.i64.wrap (0 - E.i 2) = _
    rw [e2, IntWalk.i64_in _ (by omega)]; omega
  have a2 : (IT.a1 20 (.a2 1 (.lit 0) (.var 0))).den E = -x := by
    show IntKind.i64.wrap (0 - E.i 0) = _
    rw [e0, IntWalk.i64_in _ (by omega)]; omega
  rw [a1, a2]
theorem kNegI_ok {E : Env} {f : Nat} (hc : ∀ (w : World) (x y : Int), Prp x y → Calls Try.prog f #[.agg #[.int .i64 x, .int .i64 y]] w fun e w' => e = .returned (.agg #[.int .i64 (-y), .int .i64 (-x)]) ∧ Ext w w') (hb : ∃ fn, Try.prog.funcs[f]? = some fn ∧ fn.name ≠ "runtime.NumGoroutine" ∧ fn.body.isNone = false) : ConOK Try.prog E f kNegI := by
  refine ⟨?_, ?_, hb⟩
  · intro args G r h hG β w vs hv hlen
    unfold kNegI at h
    split at h
    · rename_i a b
      split at h
      · rename_i hm
        injection h with h
        subst h
        obtain ⟨v, rfl, h1⟩ := args1 hv hlen
        rw [show v = _ from agg_out h1]
        refine (hc w _ _ (pG_spec hG hm)).mono ?_
        rintro e w' ⟨rfl, ex⟩
        exact ⟨_, rfl, ⟨[_, _], rfl, [_], _, rfl, rfl, [_], [], rfl, rfl, rfl⟩, ex⟩
      · cases h
    · cases h
  · intro args G r h x off
    unfold kNegI at h
    split at h
    · split at h
      · injection h with h; subst h; intro e; cases e
      · cases h
    · cases h
end Go.Proofs.Ytdleiiboffkidaa
end

/- ---- Fso ---- -/
section
/-
  Package filter: what the laws call.
-/
set_option maxRecDepth 100000
namespace Go.Proofs.Ytdleiiboffkidaa
open Go.RowKit

noncomputable def tabFl4 : List (Nat × Con) := [(9, kTruF), (11, kFR), (12, kFR), (16, kI2 muLo muHi), (18, kI2 muLo muHi), (35, kI2 adLo adHi), (61, kI2 adLo adHi), (21, kSqV), (22, kSqV), (63, kNegI), (65, kNegI), (59, kIn fun x => .a2 3 x (.lit 0)), (51, kIIn (.a2 3))]
theorem tabFl4_ok {E : Env} (hE : QEnv E) : TabOK Try.prog E tabFl4 :=
  .cons kAwF_ok <| .cons (kFR_ok hE pFromRat_calls ⟨_, Try.func11, by decide +kernel, by kernel_rfl⟩) <| .cons (kFR_ok hE rFromRat_calls ⟨_, Try.func12, by decide +kernel, by kernel_rfl⟩) <|
  .cons (kI2_ok muLo_den muHi_den pMul_calls ⟨_, Try.func16, by decide +kernel, by kernel_rfl⟩) <| .cons (kI2_ok muLo_den muHi_den rMul_calls ⟨_, Try.func18, by decide +kernel, by kernel_rfl⟩) <|
  .cons (kI2_ok (L := fun a _ c _ => a + c) (H := fun _ b _ d => b + d) (fun _ _ _ _ => rfl) (fun _ _ _ _ => rfl) pAdd_calls ⟨_, Try.func35, by decide +kernel, by kernel_rfl⟩) <| .cons (kI2_ok (L := fun a _ c _ => a + c) (H := fun _ b _ d => b + d) (fun _ _ _ _ => rfl) (fun _ _ _ _ => rfl) rAdd_calls ⟨_, Try.func61, by decide +kernel, by kernel_rfl⟩) <|
  .cons (kSqV_ok pSqrt_calls ⟨_, Try.func21, by decide +kernel, by kernel_rfl⟩) <| .cons (kSqV_ok rSqrt_calls ⟨_, Try.func22, by decide +kernel, by kernel_rfl⟩) <|
  .cons (kNegI_ok (neg_gen Try.func63 (by decide +kernel) (by decide +kernel) neg_walkP) ⟨_, Try.func63, by decide +kernel, by kernel_rfl⟩) <| .cons (kNegI_ok (neg_gen Try.func65 (by decide +kernel) (by decide +kernel) neg_walkR) ⟨_, Try.func65, by decide +kernel, by kernel_rfl⟩) <|
  .cons (kIn_ok (cmpZ · 0) (fun _ => rfl) (fun w v1 z1 h1 => sign_calls w v1 z1 h1) ⟨_, Try.func59, by decide +kernel, by kernel_rfl⟩) <|
  .cons (kIIn_ok cmpZ (fun _ _ => rfl) (fun w v1 v2 z1 z2 h1 h2 => rcmp_calls w v1 v2 z1 z2 h1 h2) ⟨_, Try.func51, by decide +kernel, by kernel_rfl⟩) .nil
def needLw : List (Nat × (List AV → Asm → Option BT)) := [(11, nFR), (12, nFR), (16, nI2 muLo muHi), (18, nI2 muLo muHi), (35, nI2 adLo adHi), (61, nI2 adLo adHi), (21, nSqV), (22, nSqV)]
/-- More arrays. -/
def cfgAr (C : Cfg) (l : List (TypeId × Nat × TypeId)) : Cfg := { C with arr := fun t => match findR l t with | some e => some e | none => C.arr t }
theorem cfgAr_ok {E : Env} {C : Cfg} {l : List (TypeId × Nat × TypeId)} (h : CfgOK Try.prog E C) (hl : ArrOK Try.prog l) : CfgOK Try.prog E (cfgAr C l) := by
  refine ⟨h.zero, h.ag, h.fld, h.flds, h.bool, h.row, ?_, h.calls, h.nptr, h.body, h.slc, h.strT, h.cnv, h.apd, h.eq2⟩
  intro t n e ht
  simp only [cfgAr] at ht
  split at ht
  · rename_i e' he
    injection ht with ht
    subst ht
    exact hl.all _ (findR_spec he)
  · exact h.arr t n e ht
def arrW : List (TypeId × Nat × TypeId) := [(40, 2, 5), (68, 4, 67)]
theorem arrW_ok : ArrOK Try.prog arrW := .cons Try.underlying40 (.cons Try.underlying68 .nil)
noncomputable def cLw0 : Cfg := cfgAr (cfgN (cfgOf (tabFl4 ++ (tabR1 ++ tabT))) needLw) arrW
theorem cLw0_ok {E : Env} (hE : QEnv E) : CfgOK Try.prog E cLw0 := cfgAr_ok (cfgN_ok (cfg_ok (TabOK.app (tabFl4_ok hE) (TabOK.app tabR1_ok (tabT_ok hE))))) arrW_ok
noncomputable def lL1 : List (Nat × Func) := [(15, Try.f15), (17, Try.f17), (28, Try.f28), (66, Try.f66), (13, Try.f13), (24, Try.f24), (36, Try.f36), (34, Try.f34), (29, Try.f29), (60, Try.f60)]
theorem lL1_ok : InlOK Try.prog lL1 :=
  .cons Try.func15 (by decide +kernel) (by kernel_rfl) <| .cons Try.func17 (by decide +kernel) (by kernel_rfl) <| .cons Try.func28 (by decide +kernel) (by kernel_rfl) <| .cons Try.func66 (by decide +kernel) (by kernel_rfl) <| .cons Try.func13 (by decide +kernel) (by kernel_rfl) <| .cons Try.func24 (by decide +kernel) (by kernel_rfl) <| .cons Try.func36 (by decide +kernel) (by kernel_rfl) <| .cons Try.func34 (by decide +kernel) (by kernel_rfl) <| .cons Try.func29 (by decide +kernel) (by kernel_rfl) <| .cons Try.func60 (by decide +kernel) (by kernel_rfl) .nil
noncomputable def lL2 : List (Nat × Func) := [(14, Try.f14), (20, Try.f20), (26, Try.f26), (27, Try.f27)]
theorem lL2_ok : InlOK Try.prog lL2 :=
  .cons Try.func14 (by decide +kernel) (by kernel_rfl) <| .cons Try.func20 (by decide +kernel) (by kernel_rfl) <| .cons Try.func26 (by decide +kernel) (by kernel_rfl) <| .cons Try.func27 (by decide +kernel) (by kernel_rfl) .nil
noncomputable def lL3 : List (Nat × Func) := [(62, Try.f62), (64, Try.f64)]
theorem lL3_ok : InlOK Try.prog lL3 := .cons Try.func62 (by decide +kernel) (by kernel_rfl) <| .cons Try.func64 (by decide +kernel) (by kernel_rfl) .nil
noncomputable def lL4 : List (Nat × Func) := [(30, Try.f30), (31, Try.f31)]
theorem lL4_ok : InlOK Try.prog lL4 := .cons Try.func30 (by decide +kernel) (by kernel_rfl) <| .cons Try.func31 (by decide +kernel) (by kernel_rfl) .nil
noncomputable def cLw1 : Cfg := cfgI cLw0 cLw0 lL1
noncomputable def cLw2 : Cfg := cfgI cLw1 cLw1 lL2
noncomputable def cLw3 : Cfg := cfgI cLw2 cLw2 lL3
noncomputable def cLw : Cfg := cfgI cLw3 cLw3 lL4
theorem cLw1_ok {E : Env} (hE : QEnv E) : CfgOK Try.prog E cLw1 := cfgI_ok mixed (cLw0_ok hE) (cLw0_ok hE) (fun _ => trivial) lL1_ok
theorem cLw2_ok {E : Env} (hE : QEnv E) : CfgOK Try.prog E cLw2 := cfgI_ok mixed (cLw1_ok hE) (cLw1_ok hE) (fun _ => trivial) lL2_ok
theorem cLw3_ok {E : Env} (hE : QEnv E) : CfgOK Try.prog E cLw3 := cfgI_ok mixed (cLw2_ok hE) (cLw2_ok hE) (fun _ => trivial) lL3_ok
theorem cLw_ok {E : Env} (hE : QEnv E) : CfgOK Try.prog E cLw := cfgI_ok mixed (cLw3_ok hE) (cLw3_ok hE) (fun _ => trivial) lL4_ok
end Go.Proofs.Ytdleiiboffkidaa
end

/- ---- Fsp ---- -/
section
/-
  FilterMul.
-/
set_option maxRecDepth 100000
namespace Go.Proofs.Ytdleiiboffkidaa
open Go.RowKit

/-- A law comes out true by its walk. -/
theorem law_calls {E : Env} (hE : QEnv E) {G : Asm} (hG : G.holds E) {f : FuncId} {fn : Func} (hf : Try.prog.funcs[f]? = some fn) (h4 : fn.results.toList.length ≤ 4) {args : List AV} (hT : okTr (funE cLw fn G args) = true) (hn : args.length ≤ fn.ntmps) (hp : args.all noPtr = true) (w : World) (vs : List Value) (hl : vs.length = args.length)
    (hv : ∀ (i : Nat) (x : AV), args[i]? = some x → ∃ v, vs[i]? = some v ∧ ∀ β, x.holds E β w v) : Calls Try.prog f vs.toArray w (IsT w) := by
  obtain ⟨T, hT, hall⟩ := okTr_spec hT
  refine (fun_sound mixed (cLw_ok hE) hG hf h4 hT hn hp w vs hl (fun i x hx => ?_) (fun w' _ => trivial)).mono ?_
  · obtain ⟨v, h1, h2⟩ := hv i x hx
    exact ⟨fun _ => 0, v, h1, h2 _⟩
  · rintro e w' ⟨β, v, rfl, hh, ex⟩
    rw [allT_out hall hh]
    exact ⟨rfl, ex⟩
def izT (t : IT) : IT2 := (t, .lit 1)
def shT (k : Nat) : IT2 := (.a2 7 (.a1 20 (.var k)) (.lit 255), .a2 8 (.a1 20 (.var k)) (.lit 255))
def btT (i j k : Nat) : IT2 := qop 2 (qop 0 (izT (.var i)) (qop 2 (qop 1 (izT (.var j)) (izT (.var i))) (shT k))) scT
def btV (x y s : Int) : Rat := ((x : Rat) + ((y : Rat) - (x : Rat)) * Rat.divInt s 255) * Rat.divInt 1 65536
theorem izT_rep {E : Env} {t : IT} {x : Int} (h : t.den E = x) : RepQ E (izT t) (x : Rat) := ⟨h, rfl⟩
theorem btT_rep {E : Env} {i j k : Nat} {x y s : Int} (hx : E.i i = x) (hy : E.i j = y) (hs : E.i k = s) (h : 0 ≤ s ∧ s ≤ 255) : RepQ E (btT i j k) (btV x y s) := by
  have e : (IT.a1 20 (.var k)).den E = s := by
    show IntKind.i64.wrap (E.i k) = s
    rw [hs, IntWalk.i64_in _ (by omega)]
  have r : RepQ E (shT k) (Rat.divInt s 255) := by
    constructor
    · show (Rat.divInt ((IT.a1 20 (.var k)).den E) 255).num = _
      rw [e]
    · show ((Rat.divInt ((IT.a1 20 (.var k)).den E) 255).den : Int) = _
      rw [e]
  exact rep_op (f := 2) (by omega) (rep_op (f := 0) (by omega) (izT_rep hx) (rep_op (f := 2) (by omega) (rep_op (f := 1) (by omega) (izT_rep hy) (izT_rep hx)) r)) ⟨rfl, rfl⟩
theorem btV_between {x y s : Int} (hxy : x ≤ y) (h : 0 ≤ s ∧ s ≤ 255) : (x : Rat) ≤ btV x y s * 65536 ∧ btV x y s * 65536 ≤ (y : Rat) := by
  have e1 : Rat.divInt 1 65536 = 1 / 65536 := by rw [Rat.divInt_eq_div]; rfl
  have e2 : Rat.divInt s 255 = (s : Rat) / 255 := by rw [Rat.divInt_eq_div]; rfl
  have h1 := Rat.intCast_le_intCast.2 hxy
  have h2 := Rat.intCast_le_intCast.2 h.1
  have h3 := Rat.intCast_le_intCast.2 h.2
  have z : ((0 : Int) : Rat) = 0 := rfl
  have z2 : ((255 : Int) : Rat) = 255 := rfl
  rw [z] at h2
  rw [z2] at h3
  have k1 : 0 ≤ ((y : Rat) - x) * ((s : Rat) / 255) := Rat.mul_nonneg (by grind) (by grind)
  have k2 : 0 ≤ ((y : Rat) - x) * (1 - (s : Rat) / 255) := Rat.mul_nonneg (by grind) (by grind)
  unfold btV
  rw [e1, e2]
  constructor <;> grind
theorem le0_t {E : Env} {p q : IT2} {a b : Rat} {G : Asm} (hp : RepQ E p a) (hq : RepQ E q b) (h : a ≤ b) (k : G.holds E) : Asm.holds E ((.le (qcmp p q) (.lit 0), true) :: G) := by
  refine le_t ?_ k
  rw [rep_cmp hp hq]
  show sgQ (a - b) ≤ 0
  rcases sgQ_cases (a - b) with ⟨c, e⟩ | ⟨c, e⟩ | ⟨c, e⟩ <;> rw [e] <;> first | omega | grind
def mlT : IT := muLo (.var 0) (.var 2) (.var 4) (.var 6)
def mhT : IT := muHi (.var 0) (.var 2) (.var 4) (.var 6)
def inT : IT2 := qop 2 (qop 2 (btT 0 2 8) (btT 4 6 10)) (izT (.lit 65536))
def gEx (i j : Nat) : Asm := [(.le (.var i) (.var j), true), (.le lM (.var i), true), (.le (.var j) lP, true)]
def aU8 (i : Nat) : Chunk := .n .u8 (.var i)
def aAt : AV := .val true [aU8 8, aU8 10]
theorem fmul_no : okTr (funE cLw Try.f4 ((exT mlT mhT, false) :: (gEx 0 2 ++ (gEx 4 6 ++ gV4))) [aIv 0, aIv 2, aAt]) = true := by kernel_rfl
theorem fmul_walk : okTr (funE cLw Try.f4 ((.le (qcmp (izT mlT) inT) (.lit 0), true) :: (.le (qcmp inT (izT mhT)) (.lit 0), true) :: (exT mlT mhT, true) :: (gEx 0 2 ++ (gEx 4 6 ++ (gV4 ++ (gR (.a1 20 (.var 8)) ++ (gR (.a1 20 (.var 10)) ++ (gR mlT ++ gR mhT))))))) [aIv 0, aIv 2, aAt]) = true := by kernel_rfl
theorem fmul_np : ∀ p1 p2 p3 q1 q2 q3 : Bool, (p1 && (p2 && (p3 && (q1 && (q2 && q3))))) = false → okTr (funE cLw Try.f4 (gP 0 p1 p2 p3 ++ gP 2 q1 q2 q3) [aIv 0, aIv 2, aAt]) = true := by
  intro p1 p2 p3 q1 q2 q3 h
  cases p1
  · cases p2 <;> cases p3 <;> cases q1 <;> cases q2 <;> cases q3 <;> kernel_rfl
  cases p2
  · cases p3 <;> cases q1 <;> cases q2 <;> cases q3 <;> kernel_rfl
  cases p3
  · cases q1 <;> cases q2 <;> cases q3 <;> kernel_rfl
  cases q1
  · cases q2 <;> cases q3 <;> kernel_rfl
  cases q2
  · cases q3 <;> kernel_rfl
  cases q3
  · kernel_rfl
  · cases h
theorem gEx_ok {E : Env} {i j : Nat} {x y : Int} (hx : E.i i = x) (hy : E.i j = y) (h : Prp x y) : (gEx i j).holds E := by
  obtain ⟨h1, h2, h3⟩ := h
  exact le_t (by show E.i i ≤ E.i j; omega) <| le_t (by show -2305843009213693952 ≤ E.i i; omega) <| le_t (by show E.i j ≤ 2305843009213693952; omega) no_asm
theorem three_args {E : Env} {w : World} {args : List AV} {vs : List Value} {x x' x'' : AV} {v v' v'' : Value} (ha : args = [x, x', x'']) (hv : vs = [v, v', v'']) (h : ∀ β, x.holds E β w v) (h' : ∀ β, x'.holds E β w v') (h'' : ∀ β, x''.holds E β w v'') : ∀ (i : Nat) (y : AV), args[i]? = some y → ∃ u, vs[i]? = some u ∧ ∀ β, y.holds E β w u := by
  subst ha hv
  intro i y hy
  match i, hy with
  | 0, hy => injection hy with hy; subst hy; exact ⟨v, rfl, h⟩
  | 1, hy => injection hy with hy; subst hy; exact ⟨v', rfl, h'⟩
  | 2, hy => injection hy with hy; subst hy; exact ⟨v'', rfl, h''⟩
theorem filterMul_calls (w : World) (v v' v'' : Value) (x y x' y' s t : Int) (hv : v = .agg #[.int .i64 x, .int .i64 y]) (hv' : v' = .agg #[.int .i64 x', .int .i64 y']) (hv'' : v'' = .agg #[.int .u8 s, .int .u8 t]) (hs : 0 ≤ s ∧ s ≤ 255) (ht : 0 ≤ t ∧ t ≤ 255) :
    Calls Try.prog 4 #[v, v', v''] w (IsT w) := by
  subst hv hv' hv''
  obtain ⟨E, hE⟩ : ∃ E, E = qE [(x : Rat), (y : Rat), (x' : Rat), (y' : Rat), (s : Rat), (t : Rat)] := ⟨_, rfl⟩
  have e0 : E.i 0 = x := by rw [hE]; exact qE_int (i := 0) rfl
  have e2 : E.i 2 = y := by rw [hE]; exact qE_int (i := 1) rfl
  have e4 : E.i 4 = x' := by rw [hE]; exact qE_int (i := 2) rfl
  have e6 : E.i 6 = y' := by rw [hE]; exact qE_int (i := 3) rfl
  have e8 : E.i 8 = s := by rw [hE]; exact qE_int (i := 4) rfl
  have e10 : E.i 10 = t := by rw [hE]; exact qE_int (i := 5) rfl
  have hQ : QEnv E := by rw [hE]; exact qE_ok _
  have hv := three_args (E := E) (w := w) (args := [aIv 0, aIv 2, aAt]) (vs := [.agg #[.int .i64 x, .int .i64 y], .agg #[.int .i64 x', .int .i64 y'], .agg #[.int .u8 s, .int .u8 t]]) rfl rfl (fun β => by rw [hE]; exact aIv_holds (i := 0) rfl rfl) (fun β => by rw [hE]; exact aIv_holds (i := 2) rfl rfl)
    (fun β => ⟨[_, _], rfl, [_], _, rfl, by show [Value.int .u8 s] = [Value.int .u8 (E.i 8)]; rw [e8], [_], [], rfl, by show [Value.int .u8 t] = [Value.int .u8 (E.i 10)]; rw [e10], rfl⟩)
  by_cases hp : Prp x y ∧ Prp x' y'
  · obtain ⟨p, q⟩ := hp
    have hp := p
    have hq := q
    obtain ⟨p1, p2, p3⟩ := p
    obtain ⟨q1, q2, q3⟩ := q
    have hV : gV4.holds E := asm_app (gR_of e0 (by omega)) <| asm_app (gR_of e2 (by omega)) <| asm_app (gR_of e4 (by omega)) (gR_of e6 (by omega))
    have dl : mlT.den E = mulLo x y x' y' := by unfold mlT; rw [muLo_den]; show mulLo (E.i 0) (E.i 2) (E.i 4) (E.i 6) = _; rw [e0, e2, e4, e6]
    have dh : mhT.den E = mulHi x y x' y' := by unfold mhT; rw [muHi_den]; show mulHi (E.i 0) (E.i 2) (E.i 4) (E.i 6) = _; rw [e0, e2, e4, e6]
    by_cases hm : Prp (mulLo x y x' y') (mulHi x y x' y')
    · obtain ⟨m1, m2, m3⟩ := hm
      have w8 : (IT.a1 20 (.var 8)).den E = s := by show IntKind.i64.wrap (E.i 8) = s; rw [e8, IntWalk.i64_in _ (by omega)]
      have w10 : (IT.a1 20 (.var 10)).den E = t := by show IntKind.i64.wrap (E.i 10) = t; rw [e10, IntWalk.i64_in _ (by omega)]
      have rI : RepQ E inT (btV x y s * btV x' y' t * ((65536 : Int) : Rat)) := rep_op (f := 2) (by omega) (rep_op (f := 2) (by omega) (btT_rep e0 e2 e8 hs) (btT_rep e4 e6 e10 ht)) (izT_rep rfl)
      have hin := (IvIn.mul (f := fun _ => btV x y s) (g := fun _ => btV x' y' t) (fun _ => btV_between p1 hs) (fun _ => btV_between q1 ht)) 0
      refine law_calls (E := E) hQ ?_ Try.func4 (by decide +kernel) fmul_walk (by decide +kernel) rfl w _ rfl hv
      refine le0_t (izT_rep dl) rI hin.1 <| le0_t rI (izT_rep dh) hin.2 <| asm_c (by rw [exT_den, dl, dh]; exact prpB_iff.2 ⟨m1, m2, m3⟩) <| asm_app (gEx_ok e0 e2 hp) <| asm_app (gEx_ok e4 e6 hq) <| asm_app hV <| asm_app (gR_of w8 (by omega)) <| asm_app (gR_of w10 (by omega)) <| asm_app (gR_of dl (by omega)) (gR_of dh (by omega))
    · refine law_calls (E := E) hQ ?_ Try.func4 (by decide +kernel) fmul_no (by decide +kernel) rfl w _ rfl hv
      exact asm_c (by rw [exT_den, dl, dh]; exact Bool.eq_false_iff.2 fun k => hm (prpB_iff.1 k)) <| asm_app (gEx_ok e0 e2 hp) <| asm_app (gEx_ok e4 e6 hq) hV
  · refine law_calls (E := E) hQ (G := gP 0 (decide (x ≤ y)) (decide (-2305843009213693952 ≤ x)) (decide (y ≤ 2305843009213693952)) ++ gP 2 (decide (x' ≤ y')) (decide (-2305843009213693952 ≤ x')) (decide (y' ≤ 2305843009213693952)))
      (asm_app (gP_ok (i := 0) e0 e2 rfl rfl rfl) (gP_ok (i := 2) e4 e6 rfl rfl rfl)) Try.func4 (by decide +kernel) (fmul_np _ _ _ _ _ _ ?_) (by decide +kernel) rfl w _ rfl hv
    rw [Bool.eq_false_iff]
    intro h
    simp only [Bool.and_eq_true, decide_eq_true_iff] at h
    exact hp ⟨⟨h.1, h.2.1, h.2.2.1⟩, h.2.2.2.1, h.2.2.2.2.1, h.2.2.2.2.2⟩
end Go.Proofs.Ytdleiiboffkidaa
end

/- ---- Fsq ---- -/
section
/-
  FilterSqrt.
-/
set_option maxRecDepth 100000
namespace Go.Proofs.Ytdleiiboffkidaa
open Go.RowKit

def nqT : IT2 := qop 2 (btT 0 2 4) (qop 2 (izT (.lit 65536)) (izT (.lit 65536)))
def slT : IT := sqLoT (.var 0)
def shiT : IT := sqHiT (.var 2)
def sgbT : BT := .lt (.a2 3 (btT 0 2 4).1 (.lit 0)) (.lit 0)
def gSl : Asm := gEx 0 2 ++ (gR (.var 0) ++ (gR (.var 2) ++ gR (.a1 20 (.var 4))))
theorem fsqr_no : okTr (funE cLw Try.f5 ((.lt (.var 2) (.lit 0), true) :: gSl) [aIv 0, .val false [aU8 4]]) = true := by kernel_rfl
theorem fsqr_neg : okTr (funE cLw Try.f5 ((.lt (.var 2) (.lit 0), false) :: (exT slT shiT, true) :: (sgbT, true) :: (gR slT ++ (gR shiT ++ gSl))) [aIv 0, .val false [aU8 4]]) = true := by kernel_rfl
theorem fsqr_walk : okTr (funE cLw Try.f5 ((.le (qcmp (qop 2 (izT slT) (izT slT)) nqT) (.lit 0), true) :: (.le (qcmp nqT (qop 2 (izT shiT) (izT shiT))) (.lit 0), true) :: (.lt (.var 2) (.lit 0), false) :: (exT slT shiT, true) :: (sgbT, false) :: (gR slT ++ (gR shiT ++ gSl))) [aIv 0, .val false [aU8 4]]) = true := by kernel_rfl
theorem fsqr_np : ∀ p1 p2 p3 : Bool, (p1 && (p2 && p3)) = false → okTr (funE cLw Try.f5 (gP 0 p1 p2 p3) [aIv 0, .val false [aU8 4]]) = true := by
  intro p1 p2 p3 h
  cases p1
  · cases p2 <;> cases p3 <;> kernel_rfl
  cases p2
  · cases p3 <;> kernel_rfl
  cases p3
  · kernel_rfl
  · cases h
theorem castm (a b : Int) : ((a * b : Int) : Rat) = (a : Rat) * (b : Rat) := Rat.intCast_mul a b
theorem sq_in {x y : Int} {p : Rat} (hy : 0 ≤ y) (h1 : (x : Rat) ≤ p * 65536) (h2 : p * 65536 ≤ (y : Rat)) (h0 : 0 ≤ p) : (sqLo x : Rat) * (sqLo x : Rat) ≤ p * (65536 * 65536) ∧ p * (65536 * 65536) ≤ (sqHi y : Rat) * (sqHi y : Rat) := by
  have a := Rat.intCast_le_intCast.2 (sqLo_spec x).2
  have b := Rat.intCast_le_intCast.2 (sqHi_spec hy).2
  have z : ((65536 : Int) : Rat) = 65536 := rfl
  rw [castm, castm, z] at a b
  constructor
  · rcases Int.le_total 0 x with q | q
    · rw [Int.max_eq_right q] at a
      grind
    · rw [Int.max_eq_left q] at a
      have z0 : ((0 : Int) : Rat) = 0 := rfl
      rw [z0] at a
      grind
  · grind
theorem filterSqrt_calls (w : World) (v v' : Value) (x y s : Int) (hv : v = .agg #[.int .i64 x, .int .i64 y]) (hv' : v' = .int .u8 s) (hs : 0 ≤ s ∧ s ≤ 255) :
    Calls Try.prog 5 #[v, v'] w (IsT w) := by
  subst hv hv'
  obtain ⟨E, hE⟩ : ∃ E, E = qE [(x : Rat), (y : Rat), (s : Rat)] := ⟨_, rfl⟩
  have e0 : E.i 0 = x := by rw [hE]; exact qE_int (i := 0) rfl
  have e2 : E.i 2 = y := by rw [hE]; exact qE_int (i := 1) rfl
  have e4 : E.i 4 = s := by rw [hE]; exact qE_int (i := 2) rfl
  have hQ : QEnv E := by rw [hE]; exact qE_ok _
  have hv := two_args (E := E) (w := w) (args := [aIv 0, .val false [aU8 4]]) (vs := [.agg #[.int .i64 x, .int .i64 y], .int .u8 s]) rfl rfl (fun β => by rw [hE]; exact aIv_holds (i := 0) rfl rfl) (fun β => one_num.2 (by show _ = Value.int .u8 (E.i 4); rw [e4]))
  by_cases hp : Prp x y
  · have hp' := hp
    obtain ⟨p1, p2, p3⟩ := hp
    have w4 : (IT.a1 20 (.var 4)).den E = s := by show IntKind.i64.wrap (E.i 4) = s; rw [e4, IntWalk.i64_in _ (by omega)]
    have hS : gSl.holds E := asm_app (gEx_ok e0 e2 hp') <| asm_app (gR_of e0 (by omega)) <| asm_app (gR_of e2 (by omega)) (gR_of w4 (by omega))
    by_cases hy : y < 0
    · exact law_calls (E := E) hQ (lt_t (by show E.i 2 < 0; omega) hS) Try.func5 (by decide +kernel) fsqr_no (by decide +kernel) rfl w _ rfl hv
    · obtain ⟨o1, o2, o3, o4, o5, o6, o7⟩ := sq_order hp' (by omega)
      have dl : slT.den E = sqLo x := by show isq ((if E.i 0 > 0 then E.i 0 else 0) * 65536) = _; rw [e0]; rfl
      have dh : shiT.den E = sqHi y := by show isq (E.i 2 * 65536) + cmpZ (E.i 2 * 65536) (isq (E.i 2 * 65536) * isq (E.i 2 * 65536)) = _; rw [e2]; rfl
      have rB := btT_rep e0 e2 e4 hs
      have ex : (exT slT shiT).den E = true := by rw [exT_den, dl, dh]; exact prpB_iff.2 ⟨by omega, by omega, by omega⟩
      have hr : Asm.holds E (gR slT ++ (gR shiT ++ gSl)) := asm_app (gR_of dl (by omega)) <| asm_app (gR_of dh (by omega)) hS
      have sg : sgbT.den E = decide ((btV x y s).num < 0) := by
        show decide (cmpZ ((btT 0 2 4).1.den E) 0 < 0) = _
        rw [rB.1, decide_eq_decide]
        exact cmp_ltz
      by_cases hn : (btV x y s).num < 0
      · exact law_calls (E := E) hQ (lt_f (by show ¬ E.i 2 < 0; omega) <| asm_c ex <| asm_c (by rw [sg, decide_eq_true hn]) hr) Try.func5 (by decide +kernel) fsqr_neg (by decide +kernel) rfl w _ rfl hv
      · have h0 : 0 ≤ btV x y s := Rat.num_nonneg.1 (by omega)
        obtain ⟨b1, b2⟩ := btV_between p1 hs
        obtain ⟨q1, q2⟩ := sq_in (by omega) b1 b2 h0
        have rN : RepQ E nqT (btV x y s * (((65536 : Int) : Rat) * ((65536 : Int) : Rat))) := rep_op (f := 2) (by omega) rB (rep_op (f := 2) (by omega) (izT_rep rfl) (izT_rep rfl))
        refine law_calls (E := E) hQ ?_ Try.func5 (by decide +kernel) fsqr_walk (by decide +kernel) rfl w _ rfl hv
        exact le0_t (rep_op (f := 2) (by omega) (izT_rep dl) (izT_rep dl)) rN q1 <| le0_t rN (rep_op (f := 2) (by omega) (izT_rep dh) (izT_rep dh)) q2 <| lt_f (by show ¬ E.i 2 < 0; omega) <| asm_c ex <| asm_c (by rw [sg, decide_eq_false hn]) hr
  · refine law_calls (E := E) hQ (G := gP 0 (decide (x ≤ y)) (decide (-2305843009213693952 ≤ x)) (decide (y ≤ 2305843009213693952))) (gP_ok (i := 0) e0 e2 rfl rfl rfl) Try.func5 (by decide +kernel) (fsqr_np _ _ _ ?_) (by decide +kernel) rfl w _ rfl hv
    rw [Bool.eq_false_iff]
    intro h
    simp only [Bool.and_eq_true, decide_eq_true_iff] at h
    exact hp ⟨h.1, h.2.1, h.2.2⟩
end Go.Proofs.Ytdleiiboffkidaa
end

/- ---- Fsr ---- -/
section
/-
  FilterParts.
-/
set_option maxRecDepth 100000
namespace Go.Proofs.Ytdleiiboffkidaa
open Go.RowKit

def aCut : AV := .val true [.n .u32 (.var 8), .n .u32 (.var 10), .n .u32 (.var 12), .n .u32 (.var 14)]
def cuT (k : Nat) : IT := .a1 20 (.var k)
def cuS (k l : Nat) : IT := .a1 20 (.a2 0 (cuT k) (cuT l))
def cuB (i j k l : Nat) : BT := .lt (.lit 0) (.a2 3 (cuS k l) (.a2 1 (.var j) (.var i)))
def cLo (c : Bool) (i k : Nat) : IT := if c then .var i else .a1 20 (.a2 0 (.var i) (cuT k))
def cHi (c : Bool) (j l : Nat) : IT := if c then .var j else .a1 20 (.a2 1 (.var j) (cuT l))
def gTx (x y : IT) : Asm := [(.le x y, true), (.le lM x, true), (.le y lP, true)]
def gPt (c : Bool) (i j k l : Nat) : Asm := (cuB i j k l, c) :: (gR (cuS k l) ++ (gTx (cLo c i k) (cHi c j l)))
/-- One interval lies within another. -/
def gWi (lo hi lo' hi' : IT) : Asm := [(.le lo' lo, true), (.le hi hi', true)]
def paLo (f : IT → IT → IT → IT → IT) (c d : Bool) : IT := f (cLo c 0 8) (cHi c 2 10) (cLo d 4 12) (cHi d 6 14)
def paOf (f : IT → IT → IT → IT → IT) : IT := f (.var 0) (.var 2) (.var 4) (.var 6)
def gAd (c d e : Bool) : Asm := if e then (exT (paOf adLo) (paOf adHi), true) :: (exT (paLo adLo c d) (paLo adHi c d), true) :: gWi (paLo adLo c d) (paLo adHi c d) (paOf adLo) (paOf adHi) else [(exT (paOf adLo) (paOf adHi), false)]
def gMuP (c d e : Bool) : Asm := if e then (exT (paOf muLo) (paOf muHi), true) :: (exT (paLo muLo c d) (paLo muHi c d), true) :: gWi (paLo muLo c d) (paLo muHi c d) (paOf muLo) (paOf muHi) else [(exT (paOf muLo) (paOf muHi), false)]
def gSqP (c : Bool) : Nat → Asm
  | 0 => [(.lt (.var 2) (.lit 0), true)]
  | 1 => [(.lt (.var 2) (.lit 0), false), (exT (sqLoT (.var 0)) (sqHiT (.var 2)), true), (.lt (cHi c 2 10) (.lit 0), true)]
  | _ => (.lt (.var 2) (.lit 0), false) :: (exT (sqLoT (.var 0)) (sqHiT (.var 2)), true) :: (.lt (cHi c 2 10) (.lit 0), false) :: (exT (sqLoT (cLo c 0 8)) (sqHiT (cHi c 2 10)), true) :: gWi (sqLoT (cLo c 0 8)) (sqHiT (cHi c 2 10)) (sqLoT (.var 0)) (sqHiT (.var 2))
def gPa (c d e m : Bool) (n : Nat) : Asm := gPt c 0 2 8 10 ++ (gPt d 4 6 12 14 ++ (gAd c d e ++ (gMuP c d m ++ (gSqP c n ++ (gEx 0 2 ++ (gEx 4 6 ++ gV4))))))
noncomputable def paOK (c d e m : Bool) (n : Nat) : Bool := okTr (funE cLw Try.f8 (gPa c d e m n) [aIv 0, aIv 2, aCut])
def bools : List Bool := [true, false]
noncomputable def paAll : Bool := bools.all fun c => bools.all fun d => bools.all fun e => bools.all fun m => (List.range 3).all fun n => (c && n == 1) || paOK c d e m n
theorem paAll_ok : paAll = true := by kernel_rfl
theorem bools_mem (b : Bool) : b ∈ bools := by cases b <;> decide
theorem pa_walk (c d e m : Bool) {n : Nat} (hn : n < 3) (hc : (c && n == 1) = false) : okTr (funE cLw Try.f8 (gPa c d e m n) [aIv 0, aIv 2, aCut]) = true := by
  have h := List.all_eq_true.1 (List.all_eq_true.1 (List.all_eq_true.1 (List.all_eq_true.1 (List.all_eq_true.1 paAll_ok c (bools_mem c)) d (bools_mem d)) e (bools_mem e)) m (bools_mem m)) n (List.mem_range.2 hn)
  rw [hc, Bool.false_or] at h
  exact h
theorem pa_np : ∀ p1 p2 p3 q1 q2 q3 : Bool, (p1 && (p2 && (p3 && (q1 && (q2 && q3))))) = false → okTr (funE cLw Try.f8 (gP 0 p1 p2 p3 ++ gP 2 q1 q2 q3) [aIv 0, aIv 2, aCut]) = true := by
  intro p1 p2 p3 q1 q2 q3 h
  cases p1
  · cases p2 <;> cases p3 <;> cases q1 <;> cases q2 <;> cases q3 <;> kernel_rfl
  cases p2
  · cases p3 <;> cases q1 <;> cases q2 <;> cases q3 <;> kernel_rfl
  cases p3
  · cases q1 <;> cases q2 <;> cases q3 <;> kernel_rfl
  cases q1
  · cases q2 <;> cases q3 <;> kernel_rfl
  cases q2
  · cases q3 <;> kernel_rfl
  cases q3
  · kernel_rfl
  · cases h
theorem gTx_ok {E : Env} {x y : IT} {a b : Int} (hx : x.den E = a) (hy : y.den E = b) (h : Prp a b) : (gTx x y).holds E := by
  subst hx hy
  obtain ⟨h1, h2, h3⟩ := h
  exact le_t h1 <| le_t h2 <| le_t h3 no_asm
/-- What part returns. -/
theorem part_facts {E : Env} {i j k l : Nat} {x y s t : Int} (hx : E.i i = x) (hy : E.i j = y) (hs : E.i k = s) (ht : E.i l = t) (hp : Prp x y) (bs : 0 ≤ s ∧ s ≤ 4294967295) (bt : 0 ≤ t ∧ t ≤ 4294967295) :
    ∃ (c : Bool) (x' y' : Int), (gPt c i j k l).holds E ∧ (cLo c i k).den E = x' ∧ (cHi c j l).den E = y' ∧ x ≤ x' ∧ x' ≤ y' ∧ y' ≤ y := by
  obtain ⟨p1, p2, p3⟩ := hp
  have wk : (cuT k).den E = s := by show IntKind.i64.wrap (E.i k) = s; rw [hs, IntWalk.i64_in _ (by omega)]
  have wl : (cuT l).den E = t := by show IntKind.i64.wrap (E.i l) = t; rw [ht, IntWalk.i64_in _ (by omega)]
  have ws : (cuS k l).den E = s + t := by show IntKind.i64.wrap ((cuT k).den E + (cuT l).den E) = _; rw [wk, wl, IntWalk.i64_in _ (by omega)]
  have hb : (cuB i j k l).den E = decide (s + t > y - x) := by
    show decide (0 < cmpZ ((cuS k l).den E) (E.i j - E.i i)) = _
    rw [ws, hx, hy, decide_eq_decide]
    exact cmp_gtz
  by_cases h : s + t > y - x
  · refine ⟨true, x, y, asm_c (by rw [hb, decide_eq_true h]) (asm_app (gR_of ws (by omega)) (gTx_ok hx hy ⟨p1, p2, p3⟩)), hx, hy, by omega, by omega, by omega⟩
  · have dl : (cLo false i k).den E = x + s := by show IntKind.i64.wrap (E.i i + (cuT k).den E) = _; rw [hx, wk, IntWalk.i64_in _ (by omega)]
    have dh : (cHi false j l).den E = y - t := by show IntKind.i64.wrap (E.i j - (cuT l).den E) = _; rw [hy, wl, IntWalk.i64_in _ (by omega)]
    exact ⟨false, x + s, y - t, asm_c (by rw [hb, decide_eq_false h]) (asm_app (gR_of ws (by omega)) (gTx_ok dl dh ⟨by omega, by omega, by omega⟩)), dl, dh, by omega, by omega, by omega⟩
theorem gWi_ok {E : Env} {lo hi lo' hi' : IT} {a b c d : Int} (h1 : lo.den E = a) (h2 : hi.den E = b) (h3 : lo'.den E = c) (h4 : hi'.den E = d) (k1 : c ≤ a) (k2 : b ≤ d) : (gWi lo hi lo' hi').holds E := by
  subst h1 h2 h3 h4
  exact le_t k1 <| le_t k2 no_asm
theorem sqHi_mono {a b : Int} (ha : 0 ≤ a) (h : a ≤ b) : sqHi a ≤ sqHi b := by
  obtain ⟨h1, h2⟩ := sqHi_spec (show 0 ≤ b by omega)
  have m := isq_mono (show 0 ≤ a * 65536 by omega) (show a * 65536 ≤ b * 65536 by omega)
  have e : sqHi a = isq (a * 65536) + cmpZ (a * 65536) (isq (a * 65536) * isq (a * 65536)) := rfl
  rcases cmp_root (show 0 ≤ a * 65536 by omega) with ⟨c, q⟩ | ⟨c, q⟩
  · rw [e, c]
    have : isq (b * 65536) ≤ sqHi b := by
      unfold sqHi
      rcases cmp_root (show 0 ≤ b * 65536 by omega) with ⟨c', _⟩ | ⟨c', _⟩ <;> rw [c'] <;> omega
    omega
  · rw [e, c]
    have a0 := (isq_bd (show 0 ≤ a * 65536 by omega)).1
    refine Decidable.byContradiction fun k => ?_
    have g1 : sqHi b ≤ isq (a * 65536) := by omega
    have g2 : 0 ≤ (isq (a * 65536) - sqHi b) * (isq (a * 65536) + sqHi b) := Int.mul_nonneg (by omega) (by omega)
    grind
theorem sqLo_mono {a b : Int} (h : a ≤ b) : sqLo a ≤ sqLo b := by
  unfold sqLo
  refine isq_mono (by split <;> omega) (by split <;> split <;> omega)
theorem sqLoT_den {E : Env} {t : IT} {x : Int} (h : t.den E = x) : (sqLoT t).den E = sqLo x := by
  subst h; rfl
theorem sqHiT_den {E : Env} {t : IT} {x : Int} (h : t.den E = x) : (sqHiT t).den E = sqHi x := by
  subst h; rfl
theorem prpB_f {x y : Int} (h : ¬ Prp x y) : prpB x y = false := Bool.eq_false_iff.2 fun k => h (prpB_iff.1 k)
theorem filterParts_calls (w : World) (v v' v'' : Value) (x y x' y' s t s' t' : Int) (hv : v = .agg #[.int .i64 x, .int .i64 y]) (hv' : v' = .agg #[.int .i64 x', .int .i64 y']) (hv'' : v'' = .agg #[.int .u32 s, .int .u32 t, .int .u32 s', .int .u32 t'])
    (hs : 0 ≤ s ∧ s ≤ 4294967295) (ht : 0 ≤ t ∧ t ≤ 4294967295) (hs' : 0 ≤ s' ∧ s' ≤ 4294967295) (ht' : 0 ≤ t' ∧ t' ≤ 4294967295) :
    Calls Try.prog 8 #[v, v', v''] w (IsT w) := by
  subst hv hv' hv''
  obtain ⟨E, hE⟩ : ∃ E, E = qE [(x : Rat), (y : Rat), (x' : Rat), (y' : Rat), (s : Rat), (t : Rat), (s' : Rat), (t' : Rat)] := ⟨_, rfl⟩
  have e0 : E.i 0 = x := by rw [hE]; exact qE_int (i := 0) rfl
  have e2 : E.i 2 = y := by rw [hE]; exact qE_int (i := 1) rfl
  have e4 : E.i 4 = x' := by rw [hE]; exact qE_int (i := 2) rfl
  have e6 : E.i 6 = y' := by rw [hE]; exact qE_int (i := 3) rfl
  have e8 : E.i 8 = s := by rw [hE]; exact qE_int (i := 4) rfl
  have e10 : E.i 10 = t := by rw [hE]; exact qE_int (i := 5) rfl
  have e12 : E.i 12 = s' := by rw [hE]; exact qE_int (i := 6) rfl
  have e14 : E.i 14 = t' := by rw [hE]; exact qE_int (i := 7) rfl
  have hQ : QEnv E := by rw [hE]; exact qE_ok _
  have hv := three_args (E := E) (w := w) (args := [aIv 0, aIv 2, aCut]) (vs := [.agg #[.int .i64 x, .int .i64 y], .agg #[.int .i64 x', .int .i64 y'], .agg #[.int .u32 s, .int .u32 t, .int .u32 s', .int .u32 t']]) rfl rfl (fun β => by rw [hE]; exact aIv_holds (i := 0) rfl rfl) (fun β => by rw [hE]; exact aIv_holds (i := 2) rfl rfl)
    (fun β => ⟨[_, _, _, _], rfl, [_], _, rfl, by show [Value.int .u32 s] = [Value.int .u32 (E.i 8)]; rw [e8], [_], _, rfl, by show [Value.int .u32 t] = [Value.int .u32 (E.i 10)]; rw [e10], [_], _, rfl, by show [Value.int .u32 s'] = [Value.int .u32 (E.i 12)]; rw [e12], [_], [], rfl, by show [Value.int .u32 t'] = [Value.int .u32 (E.i 14)]; rw [e14], rfl⟩)
  by_cases hp : Prp x y ∧ Prp x' y'
  · obtain ⟨hp, hq⟩ := hp
    obtain ⟨c, a, b, gc, da, db, c1, c2, c3⟩ := part_facts e0 e2 e8 e10 hp hs ht
    obtain ⟨d, a', b', gd, da', db', d1, d2, d3⟩ := part_facts e4 e6 e12 e14 hq hs' ht'
    have hp' := hp
    have hq' := hq
    obtain ⟨p1, p2, p3⟩ := hp
    obtain ⟨q1, q2, q3⟩ := hq
    have hV : gV4.holds E := asm_app (gR_of e0 (by omega)) <| asm_app (gR_of e2 (by omega)) <| asm_app (gR_of e4 (by omega)) (gR_of e6 (by omega))
    -- sums
    have al : (paOf adLo).den E = x + x' := by show E.i 0 + E.i 4 = _; rw [e0, e4]
    have ah : (paOf adHi).den E = y + y' := by show E.i 2 + E.i 6 = _; rw [e2, e6]
    have al' : (paLo adLo c d).den E = a + a' := by show (cLo c 0 8).den E + (cLo d 4 12).den E = _; rw [da, da']
    have ah' : (paLo adHi c d).den E = b + b' := by show (cHi c 2 10).den E + (cHi d 6 14).den E = _; rw [db, db']
    obtain ⟨e, he⟩ : ∃ e, (gAd c d e).holds E := by
      by_cases k : Prp (x + x') (y + y')
      · refine ⟨true, asm_c (by rw [exT_den, al, ah]; exact prpB_iff.2 k) <| asm_c (by rw [exT_den, al', ah']; exact prpB_iff.2 (by unfold Prp at *; omega)) <| gWi_ok al' ah' al ah (by omega) (by omega)⟩
      · exact ⟨false, asm_c (by rw [exT_den, al, ah]; exact prpB_f k) no_asm⟩
    -- products
    have ml : (paOf muLo).den E = mulLo x y x' y' := by unfold paOf; rw [muLo_den]; show mulLo (E.i 0) (E.i 2) (E.i 4) (E.i 6) = _; rw [e0, e2, e4, e6]
    have mh : (paOf muHi).den E = mulHi x y x' y' := by unfold paOf; rw [muHi_den]; show mulHi (E.i 0) (E.i 2) (E.i 4) (E.i 6) = _; rw [e0, e2, e4, e6]
    have ml' : (paLo muLo c d).den E = mulLo a b a' b' := by unfold paLo; rw [muLo_den, da, db, da', db']
    have mh' : (paLo muHi c d).den E = mulHi a b a' b' := by unfold paLo; rw [muHi_den, da, db, da', db']
    have hmm := mulParts c1 c2 c3 d1 d2 d3
    have hml := mulLo_le_mulHi a b a' b'
    obtain ⟨m, hm⟩ : ∃ m, (gMuP c d m).holds E := by
      by_cases k : Prp (mulLo x y x' y') (mulHi x y x' y')
      · refine ⟨true, asm_c (by rw [exT_den, ml, mh]; exact prpB_iff.2 k) <| asm_c (by rw [exT_den, ml', mh']; exact prpB_iff.2 (by unfold Prp at *; omega)) <| gWi_ok ml' mh' ml mh (by omega) (by omega)⟩
      · exact ⟨false, asm_c (by rw [exT_den, ml, mh]; exact prpB_f k) no_asm⟩
    -- roots
    obtain ⟨n, hn, hnc, hs3⟩ : ∃ n, n < 3 ∧ (c && n == 1) = false ∧ (gSqP c n).holds E := by
      by_cases k : y < 0
      · exact ⟨0, by omega, by cases c <;> rfl, lt_t (by show E.i 2 < 0; omega) no_asm⟩
      · have sl : (sqLoT (.var 0)).den E = sqLo x := sqLoT_den e0
        have sh : (sqHiT (.var 2)).den E = sqHi y := sqHiT_den e2
        obtain ⟨o1, o2, o3, o4, o5, o6, o7⟩ := sq_order hp' (by omega)
        have ex : (exT (sqLoT (.var 0)) (sqHiT (.var 2))).den E = true := by rw [exT_den, sl, sh]; exact prpB_iff.2 ⟨by omega, by omega, by omega⟩
        by_cases k2 : b < 0
        · have hc : c = false := by
            cases c
            · rfl
            · have : E.i 2 = b := db
              omega
          exact ⟨1, by omega, by rw [hc]; rfl, lt_f (by show ¬ E.i 2 < 0; omega) <| asm_c ex <| lt_t (by rw [db]; exact k2) no_asm⟩
        · have sl' : (sqLoT (cLo c 0 8)).den E = sqLo a := sqLoT_den da
          have sh' : (sqHiT (cHi c 2 10)).den E = sqHi b := sqHiT_den db
          obtain ⟨o1', o2', o3', o4', o5', o6', o7'⟩ := sq_order (x := a) (y := b) ⟨c2, by omega, by omega⟩ (by omega)
          have ex' : (exT (sqLoT (cLo c 0 8)) (sqHiT (cHi c 2 10))).den E = true := by rw [exT_den, sl', sh']; exact prpB_iff.2 ⟨by omega, by omega, by omega⟩
          exact ⟨2, by omega, by cases c <;> rfl, lt_f (by show ¬ E.i 2 < 0; omega) <| asm_c ex <| lt_f (by rw [db]; exact k2) <| asm_c ex' <| gWi_ok sl' sh' sl sh (sqLo_mono c1) (sqHi_mono (by omega) c3)⟩
    refine law_calls (E := E) hQ ?_ Try.func8 (by decide +kernel) (pa_walk c d e m hn hnc) (by decide +kernel) rfl w _ rfl hv
    exact asm_app gc <| asm_app gd <| asm_app he <| asm_app hm <| asm_app hs3 <| asm_app (gEx_ok e0 e2 hp') <| asm_app (gEx_ok e4 e6 hq') hV
  · refine law_calls (E := E) hQ (G := gP 0 (decide (x ≤ y)) (decide (-2305843009213693952 ≤ x)) (decide (y ≤ 2305843009213693952)) ++ gP 2 (decide (x' ≤ y')) (decide (-2305843009213693952 ≤ x')) (decide (y' ≤ 2305843009213693952)))
      (asm_app (gP_ok (i := 0) e0 e2 rfl rfl rfl) (gP_ok (i := 2) e4 e6 rfl rfl rfl)) Try.func8 (by decide +kernel) (pa_np _ _ _ _ _ _ ?_) (by decide +kernel) rfl w _ rfl hv
    rw [Bool.eq_false_iff]
    intro h
    simp only [Bool.and_eq_true, decide_eq_true_iff] at h
    exact hp ⟨⟨h.1, h.2.1, h.2.2.1⟩, h.2.2.2.1, h.2.2.2.2.1, h.2.2.2.2.2⟩
end Go.Proofs.Ytdleiiboffkidaa
end

/- ---- Rta ---- -/
section
/-
  Numbers a + b sqrt(c): signs, products, roundings, over rational numbers.
-/
set_option maxRecDepth 100000
namespace Go.Proofs.Ytdleiiboffkidaa
open Go.RowKit

/-- A radicand in reduced form. -/
def Rd (b c : Rat) : Prop := (b = 0 ∧ c = 0) ∨ (b ≠ 0 ∧ 0 < c ∧ ∀ q : Rat, q * q ≠ c)
theorem sqz_sqB {z : Int} (h : 0 ≤ z) : sqz z = sqB z := by
  unfold sqz sqB isqE
  rw [if_neg (by omega)]
  show _ = (true && _)
  rw [Bool.true_and, Bool.eq_iff_iff, beq_iff_eq, beq_iff_eq]
  rcases cmpZ_cases (isq z * isq z) z with ⟨h, e⟩ | ⟨h, e⟩ | ⟨h, e⟩ <;> rw [e] <;> omega
theorem sq_of_root {c : Rat} (hc : 0 < c) (h : sqz c.num = true) (k : sqz (c.den : Int) = true) : ∃ q : Rat, q * q = c := by
  have hn := (num_pos_iff c).2 hc
  rw [sqz_sqB (by omega)] at h
  rw [sqz_sqB (by omega)] at k
  obtain ⟨s, s1, s2⟩ := root_rat h k
  refine ⟨s, ?_⟩
  obtain ⟨m1, m2⟩ := mul_self_parts s
  refine Rat.ext ?_ ?_
  · rw [m1, s1, sqB_spec h]
  · have : ((s.den * s.den : Nat) : Int) = (c.den : Int) := by rw [Int.natCast_mul, s2, sqB_spec k]
    rw [m2]; omega
theorem root_of_sq {c q : Rat} (h : q * q = c) : sqz c.num = true ∧ sqz (c.den : Int) = true := by
  obtain ⟨m1, m2⟩ := mul_self_parts q
  rw [h] at m1 m2
  obtain ⟨i1, j1⟩ := isq_self q.num
  obtain ⟨i2, j2⟩ := isq_self (q.den : Int)
  refine ⟨?_, ?_⟩
  · unfold sqz
    rw [m1, i1, beq_iff_eq]
    exact Int.natAbs_mul_self
  · unfold sqz
    rw [m2, Int.natCast_mul, i2, beq_iff_eq]
    exact Int.natAbs_mul_self
theorem Rdb_iff {b c : Rat} : Rdb b c = true ↔ Rd b c := by
  have n1 : b.num = 0 ↔ b = 0 := Rat.num_eq_zero
  have n2 : c.num = 0 ↔ c = 0 := Rat.num_eq_zero
  have n3 := num_pos_iff c
  unfold Rdb Rd
  simp only [Bool.or_eq_true, Bool.and_eq_true, beq_iff_eq, bne_iff_ne, decide_eq_true_iff, Bool.not_eq_true', Bool.and_eq_false_iff]
  constructor
  · rintro (⟨h1, h2⟩ | ⟨h1, h2, h3⟩)
    · exact .inl ⟨n1.1 h1, n2.1 h2⟩
    · refine .inr ⟨fun e => h1 (n1.2 e), n3.1 h2, fun q hq => ?_⟩
      obtain ⟨k1, k2⟩ := root_of_sq hq
      rcases h3 with h3 | h3
      · rw [k1] at h3; cases h3
      · rw [k2] at h3; cases h3
  · rintro (⟨h1, h2⟩ | ⟨h1, h2, h3⟩)
    · exact .inl ⟨n1.2 h1, n2.2 h2⟩
    · refine .inr ⟨fun e => h1 (n1.1 e), n3.2 h2, ?_⟩
      cases k1 : sqz c.num with
      | false => exact .inl rfl
      | true =>
        cases k2 : sqz (c.den : Int) with
        | false => exact .inr rfl
        | true =>
          obtain ⟨q, hq⟩ := sq_of_root h2 k1 k2
          exact absurd hq (h3 q)
def rC (b c : Rat) : Rat := if b.num = 0 then 0 else c
def rN (b c : Rat) : Rat := if b.num = 0 then c else 0
def sq2 (b c : Rat) : Rat := if b.num < 0 then - (b * b * c) else b * b * c
theorem rC_zero (c : Rat) : rC 0 c = 0 := rfl
theorem rC_ne {b : Rat} (h : b ≠ 0) (c : Rat) : rC b c = c := if_neg (fun e => h (Rat.num_eq_zero.1 e))
theorem rN_zero (c : Rat) : rN 0 c = c := rfl
theorem rN_ne {b : Rat} (h : b ≠ 0) (c : Rat) : rN b c = 0 := if_neg (fun e => h (Rat.num_eq_zero.1 e))
theorem sq_pos {b : Rat} (h : b ≠ 0) : 0 < b * b := by
  rcases (by grind : b < 0 ∨ 0 < b) with k | k
  · have := Rat.mul_pos (a := -b) (b := -b) (by grind) (by grind)
    grind
  · exact Rat.mul_pos k k
theorem sq_nonneg (b : Rat) : 0 ≤ b * b := by
  by_cases h : b = 0
  · subst h; grind
  · have := sq_pos h; grind
/-- The greater square decides. -/
theorem sgQ_add {u v : Rat} (h : v * v < u * u) : sgQ (u + v) = sgQ u := by
  have e : u * u - v * v = (u - v) * (u + v) := by grind
  rcases sgQ_cases u with ⟨k, e1⟩ | ⟨k, e1⟩ | ⟨k, e1⟩
  · rw [e1]
    refine sgQ_neg' ?_
    refine Decidable.byContradiction fun hn => ?_
    have h1 : u - v < 0 := by grind
    by_cases h0 : u + v = 0
    · rw [h0] at e; grind
    · have := Rat.mul_pos (a := -(u - v)) (b := u + v) (by grind) (by grind)
      grind
  · rw [k] at h; have := sq_nonneg v; grind
  · rw [e1]
    refine sgQ_pos ?_
    refine Decidable.byContradiction fun hn => ?_
    have h1 : 0 < u - v := by grind
    by_cases h0 : u + v = 0
    · rw [h0] at e; grind
    · have := Rat.mul_pos (a := u - v) (b := -(u + v)) (by grind) (by grind)
      grind
def nrm (a b c : Rat) : Rat := a * a - b * b * c
/-- The sign of a + b sqrt(c). -/
def sgN (a b c : Rat) : Int := if 0 < nrm a b c then sgQ a else if nrm a b c < 0 then sgQ b else 0
theorem sgN_pos {a b c : Rat} (h : 0 < nrm a b c) : sgN a b c = sgQ a := if_pos h
theorem sgN_neg {a b c : Rat} (h : nrm a b c < 0) : sgN a b c = sgQ b := by unfold sgN; rw [if_neg (by grind), if_pos h]
theorem sgN_zero {a b c : Rat} (h : nrm a b c = 0) : sgN a b c = 0 := by unfold sgN; rw [if_neg (by grind), if_neg (by grind)]
theorem nrm_mul (a b a' b' c : Rat) : nrm (a * a' + b * b' * c) (a * b' + b * a') c = nrm a b c * nrm a' b' c := by unfold nrm; grind
theorem sgN_mul {a b a' b' c : Rat} (hc : 0 ≤ c) : sgN (a * a' + b * b' * c) (a * b' + b * a') c = sgN a b c * sgN a' b' c := by
  have hm := nrm_mul a b a' b' c
  have lt_mul : ∀ {x y x' y' : Rat}, 0 ≤ x → x < y → 0 ≤ x' → x' < y' → x * x' < y * y' := by
    intro x y x' y' h1 h2 h3 h4
    have e1 := Rat.mul_pos (a := y) (b := y' - x') (by grind) (by grind)
    have e2 : 0 ≤ (y - x) * x' := Rat.mul_nonneg (by grind) h3
    grind
  have bb : ∀ x : Rat, 0 ≤ x * x * c := fun x => Rat.mul_nonneg (sq_nonneg x) hc
  rcases (by grind : nrm a b c < 0 ∨ nrm a b c = 0 ∨ 0 < nrm a b c) with h | h | h <;> rcases (by grind : nrm a' b' c < 0 ∨ nrm a' b' c = 0 ∨ 0 < nrm a' b' c) with k | k | k
  · have hp : 0 < nrm (a * a' + b * b' * c) (a * b' + b * a') c := by
      have := Rat.mul_pos (a := -(nrm a b c)) (b := -(nrm a' b' c)) (by grind) (by grind)
      grind
    rw [sgN_pos hp, sgN_neg h, sgN_neg k]
    unfold nrm at h k
    have := lt_mul (sq_nonneg a) (show a * a < b * b * c by grind) (sq_nonneg a') (show a' * a' < b' * b' * c by grind)
    rw [show a * a' + b * b' * c = b * b' * c + a * a' by grind, sgQ_add (by grind), sgQ_mul, sgQ_mul]
    have hcp : 0 < c := by
      refine Decidable.byContradiction fun hn => ?_
      have : c = 0 := by grind
      rw [this] at h
      have := sq_nonneg a
      grind
    rw [sgQ_pos hcp, Int.mul_one]
  · rw [k, Rat.mul_zero] at hm
    rw [sgN_zero hm, sgN_zero k, Int.mul_zero]
  · have hp : nrm (a * a' + b * b' * c) (a * b' + b * a') c < 0 := by
      have := Rat.mul_pos (a := -(nrm a b c)) (b := nrm a' b' c) (by grind) (by grind)
      grind
    rw [sgN_neg hp, sgN_neg h, sgN_pos k]
    unfold nrm at h k
    have := lt_mul (sq_nonneg a) (show a * a < b * b * c by grind) (bb b') (show b' * b' * c < a' * a' by grind)
    have hcp : 0 < c := by
      refine Decidable.byContradiction fun hn => ?_
      have : c = 0 := by grind
      rw [this] at h
      have := sq_nonneg a
      grind
    have h2 : a * b' * (a * b') < b * a' * (b * a') := by
      refine Decidable.byContradiction fun hn => ?_
      have : 0 ≤ (a * b' * (a * b') - b * a' * (b * a')) * c := Rat.mul_nonneg (by grind) hc
      grind
    rw [show a * b' + b * a' = b * a' + a * b' by grind, sgQ_add h2, sgQ_mul]
  · rw [h, Rat.zero_mul] at hm
    rw [sgN_zero hm, sgN_zero h, Int.zero_mul]
  · rw [h, Rat.zero_mul] at hm
    rw [sgN_zero hm, sgN_zero h, Int.zero_mul]
  · rw [h, Rat.zero_mul] at hm
    rw [sgN_zero hm, sgN_zero h, Int.zero_mul]
  · have hp : nrm (a * a' + b * b' * c) (a * b' + b * a') c < 0 := by
      have := Rat.mul_pos (a := nrm a b c) (b := -(nrm a' b' c)) (by grind) (by grind)
      grind
    rw [sgN_neg hp, sgN_pos h, sgN_neg k]
    unfold nrm at h k
    have := lt_mul (bb b) (show b * b * c < a * a by grind) (sq_nonneg a') (show a' * a' < b' * b' * c by grind)
    have h2 : b * a' * (b * a') < a * b' * (a * b') := by
      refine Decidable.byContradiction fun hn => ?_
      have : 0 ≤ (b * a' * (b * a') - a * b' * (a * b')) * c := Rat.mul_nonneg (by grind) hc
      grind
    rw [sgQ_add h2, sgQ_mul]
  · rw [k, Rat.mul_zero] at hm
    rw [sgN_zero hm, sgN_zero k, Int.mul_zero]
  · have hp : 0 < nrm (a * a' + b * b' * c) (a * b' + b * a') c := by
      have := Rat.mul_pos (a := nrm a b c) (b := nrm a' b' c) (by grind) (by grind)
      grind
    rw [sgN_pos hp, sgN_pos h, sgN_pos k]
    unfold nrm at h k
    have := lt_mul (bb b) (show b * b * c < a * a by grind) (bb b') (show b' * b' * c < a' * a' by grind)
    rw [sgQ_add (by grind), sgQ_mul]
/-- With a reduced radicand the norm is 0 for 0 only. -/
theorem nrm_ne {a b c : Rat} (R : Rd b c) (h : nrm a b c = 0) : a = 0 ∧ b = 0 := by
  unfold nrm at h
  rcases R with ⟨rfl, rfl⟩ | ⟨hb, hc, hs⟩
  · refine ⟨?_, rfl⟩
    refine Decidable.byContradiction fun ha => ?_
    have := sq_pos ha
    grind
  · exfalso
    refine hs (a / b) ?_
    have e : a / b * b = a := Rat.div_mul_cancel hb
    have e2 : (a / b * (a / b) - c) * (b * b) = 0 := by grind
    have hbb := sq_pos hb
    refine Decidable.byContradiction fun hn => ?_
    have hne : a / b * (a / b) - c ≠ 0 := by grind
    rcases Rat.mul_eq_zero.1 e2 with h1 | h1
    · exact hne h1
    · grind
theorem sgN_mono {x y b c : Rat} (R : Rd b c) (h : x ≤ y) (k : 0 ≤ sgN x b c) : 0 ≤ sgN y b c := by
  have sq_le : ∀ {u v : Rat}, 0 ≤ u → u ≤ v → u * u ≤ v * v := by
    intro u v h1 h2
    have e1 : 0 ≤ (v - u) * v := Rat.mul_nonneg (by grind) (by grind)
    have e2 : 0 ≤ (v - u) * u := Rat.mul_nonneg (by grind) h1
    grind
  have s1 : ∀ q : Rat, 0 ≤ sgQ q ↔ 0 ≤ q := by
    intro q
    rcases sgQ_cases q with ⟨k, e⟩ | ⟨k, e⟩ | ⟨k, e⟩ <;> rw [e] <;> constructor <;> intro h <;> first | omega | grind
  rcases (by grind : nrm y b c < 0 ∨ nrm y b c = 0 ∨ 0 < nrm y b c) with n | n | n
  · rw [sgN_neg n, s1]
    refine Decidable.byContradiction fun hb => ?_
    rcases R with ⟨rfl, rfl⟩ | ⟨hb0, hc, hs⟩
    · grind
    have hx : 0 < nrm x b c := by
      refine Decidable.byContradiction fun hn => ?_
      rcases (by grind : nrm x b c < 0 ∨ nrm x b c = 0) with m | m
      · rw [sgN_neg m, s1] at k; grind
      · exact hb0 (nrm_ne (.inr ⟨hb0, hc, hs⟩) m).2
    rw [sgN_pos hx, s1] at k
    have := sq_le k h
    unfold nrm at n hx
    grind
  · rw [sgN_zero n]; exact Int.le_refl _
  · rw [sgN_pos n, s1]
    refine Decidable.byContradiction fun hy => ?_
    have hy' := sq_le (u := -y) (v := -x) (by grind) (by grind)
    have hx : 0 < nrm x b c := by unfold nrm at n ⊢; grind
    rw [sgN_pos hx, s1] at k
    grind
/-- What sgS computes. -/
theorem sgS_sgN {a b c : Rat} (R : Rd b c) : sgS a (sq2 b c) = sgN a b c := by
  have hcmp : ∀ (x s : Rat) (m : Int), 0 ≤ s → m = s.num → cmpZ (x.num * x.num * (s.den : Int)) (m * ((x.den : Int) * (x.den : Int))) = sgQ (x * x - s) := by
    intro x s m h0 hm
    obtain ⟨m1, m2⟩ := mul_self_parts x
    rw [← cmpQ_sub, m1, m2, hm, Int.natCast_mul]
  unfold sgS
  rcases R with ⟨rfl, rfl⟩ | ⟨hb, hc, hs⟩
  · have : sq2 0 0 = 0 := by unfold sq2; rw [if_neg (by decide)]; grind
    rw [this, if_pos (show (0 : Rat).num = 0 from rfl)]
    show sgQ a = _
    by_cases ha : a = 0
    · subst ha; rw [sgN_zero (by unfold nrm; grind)]; rfl
    · rw [sgN_pos (by have := sq_pos ha; unfold nrm; grind)]
  · have hbb := sq_pos hb
    have hbc := Rat.mul_pos hbb hc
    have hnz : (sq2 b c).num ≠ 0 := by
      rw [ne_eq, Rat.num_eq_zero]
      unfold sq2
      split <;> grind
    have hsg : cmpZ (sq2 b c).num 0 = sgQ b := by
      show sgQ (sq2 b c) = _
      unfold sq2
      have hn := num_pos_iff b
      have hn2 : b.num = 0 ↔ b = 0 := Rat.num_eq_zero
      split
      · rw [sgQ_neg' (by grind), sgQ_neg' (by grind)]
      · rw [sgQ_pos hbc, sgQ_pos (by grind)]
    have habs : ∃ s : Rat, s = b * b * c ∧ ((sq2 b c).num.natAbs : Int) = s.num ∧ ((sq2 b c).den : Int) = (s.den : Int) := by
      refine ⟨_, rfl, ?_, ?_⟩
      · have := (num_pos_iff (b * b * c)).2 hbc
        unfold sq2
        split
        · rw [Rat.neg_num]; omega
        · omega
      · unfold sq2
        split
        · rw [Rat.neg_den]
        · rfl
    obtain ⟨s, hs1, hs2, hs3⟩ := habs
    have hab := hcmp a s _ (by rw [hs1]; grind) hs2
    rw [if_neg hnz, hsg, hs3, hab]
    show (if sgQ a = -sgQ b then sgQ a * _ else sgQ b) = _
    have hN : nrm a b c = a * a - s := by rw [hs1]; rfl
    have hne : nrm a b c ≠ 0 := fun e => hb (nrm_ne (.inr ⟨hb, hc, hs⟩) e).2
    rw [← hN]
    have c1 := sgQ_cases a
    have c2 := sgQ_cases b
    rcases (by grind : nrm a b c < 0 ∨ 0 < nrm a b c) with n | n
    · rw [sgN_neg n, sgQ_neg' n]
      split
      · omega
      · rfl
    · rw [sgN_pos n, sgQ_pos n]
      split
      · omega
      · rename_i hd
        by_cases ha : a = 0
        · subst ha; unfold nrm at n; grind
        · have ha' : sgQ a ≠ 0 := by rcases c1 with ⟨k, e⟩ | ⟨k, e⟩ | ⟨k, e⟩ <;> first | (rw [e]; decide) | grind
          have hb' : sgQ b ≠ 0 := by rcases c2 with ⟨k, e⟩ | ⟨k, e⟩ | ⟨k, e⟩ <;> first | (rw [e]; decide) | grind
          omega
end Go.Proofs.Ytdleiiboffkidaa
end

/- ---- Rtb ---- -/
section
/-
  Numbers a + b sqrt(c), rounded down.
-/
set_option maxRecDepth 100000
namespace Go.Proofs.Ytdleiiboffkidaa
open Go.RowKit

/-- n is a + b sqrt(c), rounded down. -/
def IsFl (a b c : Rat) (n : Int) : Prop := 0 ≤ sgN (a - (n : Rat)) b c ∧ sgN (a - ((n + 1 : Int) : Rat)) b c < 0
theorem IsFl.unique {a b c : Rat} (R : Rd b c) {n m : Int} (h : IsFl a b c n) (k : IsFl a b c m) : n = m := by
  have key : ∀ {n m : Int}, IsFl a b c n → IsFl a b c m → n ≤ m := by
    intro n m h k
    refine Decidable.byContradiction fun hn => ?_
    have e : ((m + 1 : Int) : Rat) ≤ (n : Rat) := Rat.intCast_le_intCast.2 (by omega)
    have := sgN_mono R (x := a - (n : Rat)) (y := a - ((m + 1 : Int) : Rat)) (by grind) h.1
    have := k.2
    omega
  exact Int.le_antisymm (key h k) (key k h)
theorem IsFl.zero {a : Rat} : IsFl a 0 0 a.floor := by
  have s1 : ∀ q : Rat, sgN q 0 0 = sgQ q := by
    intro q
    by_cases hq : q = 0
    · subst hq; rw [sgN_zero (by unfold nrm; grind)]; rfl
    · rw [sgN_pos (by have := sq_pos hq; unfold nrm; grind)]
  have h1 := Rat.floor_le a
  have h2 := Rat.lt_floor_add_one a
  unfold IsFl
  rw [s1, s1]
  constructor
  · rcases sgQ_cases (a - (a.floor : Rat)) with ⟨k, e⟩ | ⟨k, e⟩ | ⟨k, e⟩ <;> rw [e] <;> first | omega | grind
  · rw [sgQ_neg' (by grind)]; omega
theorem isq_bounds {y : Int} (h : 0 ≤ y) : 0 ≤ isq y ∧ isq y * isq y ≤ y ∧ y < (isq y + 1) * (isq y + 1) := by
  unfold isq
  rw [if_neg (by omega)]
  obtain ⟨h1, h2⟩ := isqN_spec y.natAbs
  have e : ((y.natAbs : Nat) : Int) = y := by omega
  refine ⟨by omega, ?_, ?_⟩
  · have : ((isqN y.natAbs * isqN y.natAbs : Nat) : Int) ≤ ((y.natAbs : Nat) : Int) := by exact_mod_cast h1
    rw [Int.natCast_mul, e] at this
    exact this
  · have : ((y.natAbs : Nat) : Int) < (((isqN y.natAbs + 1) * (isqN y.natAbs + 1) : Nat) : Int) := by exact_mod_cast h2
    rw [Int.natCast_mul, e] at this
    exact this
theorem castQ_mul (x y : Int) : ((x * y : Int) : Rat) = (x : Rat) * (y : Rat) := Rat.intCast_mul x y
/-- The rounding: x is a D, Y is b b c D D. -/
theorem fl_spec {a b c : Rat} {x Y D : Int} (hb : b ≠ 0) (hc : 0 < c) (hs : ∀ q : Rat, q * q ≠ c) (hD : 0 < D) (hx : a * (D : Rat) = (x : Rat)) (hY : b * b * c * ((D : Rat) * (D : Rat)) = (Y : Rat)) :
    IsFl a b c (dq (x + (if b < 0 then - (isq Y + 1) else isq Y)) D) := by
  have R : Rd b c := .inr ⟨hb, hc, hs⟩
  have hDq : (0 : Rat) < (D : Rat) := Rat.intCast_pos.2 hD
  have hDD := Rat.mul_pos hDq hDq
  have hbbc := Rat.mul_pos (sq_pos hb) hc
  have hYp : 0 < Y := by
    have := Rat.mul_pos hbbc hDD
    rw [hY] at this
    exact Rat.intCast_pos.1 this
  obtain ⟨w0, w1, w2⟩ := isq_bounds (y := Y) (by omega)
  generalize isq Y = w at *
  -- the sign of the norm, over integers
  have nn : ∀ m : Int, nrm (a - (m : Rat)) b c * ((D : Rat) * (D : Rat)) = (((x - m * D) * (x - m * D) - Y : Int) : Rat) := by
    intro m
    rw [Rat.intCast_sub, castQ_mul, Rat.intCast_sub, castQ_mul, ← hx, ← hY]
    unfold nrm
    grind
  have npos : ∀ m : Int, 0 < (x - m * D) * (x - m * D) - Y → 0 < nrm (a - (m : Rat)) b c := by
    intro m h
    refine Decidable.byContradiction fun hn => ?_
    have h2 : 0 ≤ (-(nrm (a - (m : Rat)) b c)) * ((D : Rat) * (D : Rat)) := Rat.mul_nonneg (by grind) (by grind)
    have h3 := Rat.intCast_pos.2 h
    rw [← nn m] at h3
    grind
  have nneg : ∀ m : Int, (x - m * D) * (x - m * D) - Y < 0 → nrm (a - (m : Rat)) b c < 0 := by
    intro m h
    refine Decidable.byContradiction fun hn => ?_
    have h2 : 0 ≤ (nrm (a - (m : Rat)) b c) * ((D : Rat) * (D : Rat)) := Rat.mul_nonneg (by grind) (by grind)
    have h3 : (((x - m * D) * (x - m * D) - Y : Int) : Rat) < ((0 : Int) : Rat) := Rat.intCast_lt_intCast.2 h
    rw [← nn m] at h3
    have : ((0 : Int) : Rat) = 0 := rfl
    grind
  have nzero : ∀ m : Int, (x - m * D) * (x - m * D) - Y ≠ 0 := by
    intro m h
    have h3 := nn m
    rw [h] at h3
    have e0 : ((0 : Int) : Rat) = 0 := rfl
    rw [e0] at h3
    rcases Rat.mul_eq_zero.1 h3 with h4 | h4
    · exact hb (nrm_ne R h4).2
    · grind
  have sga : ∀ m : Int, (0 < x - m * D → sgQ (a - (m : Rat)) = 1) ∧ (x - m * D < 0 → sgQ (a - (m : Rat)) = -1) := by
    intro m
    have e : (a - (m : Rat)) * (D : Rat) = ((x - m * D : Int) : Rat) := by rw [Rat.intCast_sub, castQ_mul, ← hx]; grind
    constructor
    · intro h
      refine sgQ_pos ?_
      have h3 := Rat.intCast_pos.2 h
      rw [← e] at h3
      refine Decidable.byContradiction fun hn => ?_
      have : 0 ≤ (-(a - (m : Rat))) * (D : Rat) := Rat.mul_nonneg (by grind) (by grind)
      grind
    · intro h
      refine sgQ_neg' ?_
      have h3 : ((x - m * D : Int) : Rat) < ((0 : Int) : Rat) := Rat.intCast_lt_intCast.2 h
      rw [← e] at h3
      have e0 : ((0 : Int) : Rat) = 0 := rfl
      refine Decidable.byContradiction fun hn => ?_
      have : 0 ≤ (a - (m : Rat)) * (D : Rat) := Rat.mul_nonneg (by grind) (by grind)
      grind
  -- the quotient
  have hq : ∀ W : Int, dq (x + W) D * D ≤ x + W ∧ x + W < (dq (x + W) D + 1) * D := by
    intro W
    rw [dq_pos hD]
    exact ⟨Int.ediv_mul_le _ (by omega), Int.lt_ediv_add_one_mul_self _ hD⟩
  have sq_le : ∀ {u v : Int}, 0 ≤ u → u ≤ v → u * u ≤ v * v := by
    intro u v h1 h2
    exact Int.mul_le_mul h2 h2 h1 (by omega)
  have hsq : ∀ u : Int, u * u = (-u) * (-u) := fun u => (Int.neg_mul_neg u u).symm
  unfold IsFl
  by_cases hbn : b < 0
  · rw [if_pos hbn]
    obtain ⟨q1, q2⟩ := hq (-(w + 1))
    generalize dq (x + -(w + 1)) D = n at *
    have sb : sgQ b = -1 := sgQ_neg' hbn
    constructor
    · have t : w + 1 ≤ x - n * D := by omega
      have := sq_le (u := w + 1) (v := x - n * D) (by omega) t
      rw [sgN_pos (npos n (by omega)), (sga n).1 (by omega)]
      omega
    · have t : x - (n + 1) * D ≤ w := by omega
      have hz := nzero (n + 1)
      rcases (by omega : (x - (n + 1) * D) * (x - (n + 1) * D) - Y < 0 ∨ 0 < (x - (n + 1) * D) * (x - (n + 1) * D) - Y) with h | h
      · rw [sgN_neg (nneg _ h), sb]; omega
      · have hneg : x - (n + 1) * D < 0 := by
          refine Decidable.byContradiction fun hn => ?_
          have := sq_le (u := x - (n + 1) * D) (v := w) (by omega) t
          omega
        rw [sgN_pos (npos _ h), (sga _).2 hneg]; omega
  · rw [if_neg hbn]
    obtain ⟨q1, q2⟩ := hq w
    generalize dq (x + w) D = n at *
    have sb : sgQ b = 1 := sgQ_pos (by grind)
    constructor
    · have t : -w ≤ x - n * D := by omega
      have hz := nzero n
      rcases (by omega : (x - n * D) * (x - n * D) - Y < 0 ∨ 0 < (x - n * D) * (x - n * D) - Y) with h | h
      · rw [sgN_neg (nneg _ h), sb]; omega
      · have hpos : 0 < x - n * D := by
          refine Decidable.byContradiction fun hn => ?_
          have := sq_le (u := -(x - n * D)) (v := w) (by omega) (by omega)
          rw [← hsq] at this
          omega
        rw [sgN_pos (npos _ h), (sga _).1 hpos]; omega
    · have t : x - (n + 1) * D ≤ -(w + 1) := by omega
      have := sq_le (u := w + 1) (v := -(x - (n + 1) * D)) (by omega) (by omega)
      rw [← hsq] at this
      rw [sgN_pos (npos (n + 1) (by omega)), (sga _).2 (by omega)]
      omega
end Go.Proofs.Ytdleiiboffkidaa
end

/- ---- Rtc ---- -/
section
/-
  Roots as structs: what their cells hold, and as terms.
-/
set_option maxRecDepth 100000
namespace Go.Proofs.Ytdleiiboffkidaa
open Go.RowKit

def IsRoot (w : World) (v : Value) (a b c : Rat) : Prop := ∃ x y z : List Value, v = .agg (x ++ (y ++ z)).toArray ∧ IsRat w (.agg x.toArray) a ∧ IsRat w (.agg y.toArray) b ∧ IsRat w (.agg z.toArray) c
def LimR (m : Nat) (a b c : Rat) : Prop := LimQ m a ∧ LimQ m b ∧ LimQ m c
theorem LimQ.mono {l m : Nat} {q : Rat} (h : LimQ l q) (k : l ≤ m) : LimQ m q := ⟨h.1.mono k, h.2.mono k⟩
theorem LimR.mono {l m : Nat} {a b c : Rat} (h : LimR l a b c) (k : l ≤ m) : LimR m a b c := ⟨h.1.mono k, h.2.1.mono k, h.2.2.mono k⟩
theorem IsRoot.ext {w w' : World} {v : Value} {a b c : Rat} (h : IsRoot w v a b c) (e : Ext w w') : IsRoot w' v a b c := by
  obtain ⟨x, y, z, rfl, h1, h2, h3⟩ := h
  exact ⟨x, y, z, rfl, h1.ext e, h2.ext e, h3.ext e⟩
def rt (A B C : IT2) (l : Nat) : List Chunk := [.int A.1 l, .int A.2 l, .int B.1 l, .int B.2 l, .int C.1 l, .int C.2 l]
theorem two_chunks {E : Env} {w : World} {A : IT2} {a : Rat} (hA : RepQ E A a) {l m : Nat} {cs : List Chunk} {vs : List Value} :
    chunks E w (.int A.1 l :: .int A.2 m :: cs) vs ↔ ∃ x r, vs = x ++ r ∧ (IsRat w (.agg x.toArray) a ∧ Lim l a.num ∧ Lim m (a.den : Int)) ∧ chunks E w cs r := by
  constructor
  · rintro ⟨u0, r0, rfl, ⟨x0, y0, rfl, i0, m0⟩, u1, r1, rfl, ⟨x1, y1, rfl, i1, m1⟩, h⟩
    rw [hA.1] at i0 m0
    rw [hA.2] at i1 m1
    exact ⟨[x0, y0, x1, y1], r1, rfl, ⟨⟨x0, y0, x1, y1, rfl, i0, i1⟩, m0, m1⟩, h⟩
  · rintro ⟨x, r, rfl, ⟨⟨x0, y0, x1, y1, hx, i0, i1⟩, m0, m1⟩, h⟩
    injection hx with hx
    have hx' : x = [x0, y0, x1, y1] := congrArg Array.toList hx
    subst hx'
    refine ⟨[x0, y0], [x1, y1] ++ r, rfl, ⟨x0, y0, rfl, ?_, ?_⟩, [x1, y1], r, rfl, ⟨x1, y1, rfl, ?_, ?_⟩, h⟩
    · rw [hA.1]; exact i0
    · rw [hA.1]; exact m0
    · rw [hA.2]; exact i1
    · rw [hA.2]; exact m1
theorem one_root {E : Env} {w : World} {A B C : IT2} {a b c : Rat} (hA : RepQ E A a) (hB : RepQ E B b) (hC : RepQ E C c) {l1 l2 l3 l4 l5 l6 : Nat} {v : Value} :
    one E w (true, [.int A.1 l1, .int A.2 l2, .int B.1 l3, .int B.2 l4, .int C.1 l5, .int C.2 l6]) v ↔ IsRoot w v a b c ∧ ((Lim l1 a.num ∧ Lim l2 (a.den : Int)) ∧ (Lim l3 b.num ∧ Lim l4 (b.den : Int)) ∧ (Lim l5 c.num ∧ Lim l6 (c.den : Int))) := by
  constructor
  · rintro ⟨vs, rfl, h⟩
    obtain ⟨x, r, rfl, ⟨h1, m1⟩, h⟩ := (two_chunks hA).1 h
    obtain ⟨y, r, rfl, ⟨h2, m2⟩, h⟩ := (two_chunks hB).1 h
    obtain ⟨z, r, rfl, ⟨h3, m3⟩, h⟩ := (two_chunks hC).1 h
    simp only [chunks] at h
    subst h
    rw [List.append_nil]
    exact ⟨⟨x, y, z, rfl, h1, h2, h3⟩, m1, m2, m3⟩
  · rintro ⟨⟨x, y, z, rfl, h1, h2, h3⟩, m1, m2, m3⟩
    exact ⟨x ++ (y ++ z), rfl, (two_chunks hA).2 ⟨x, y ++ z, rfl, ⟨h1, m1⟩, (two_chunks hB).2 ⟨y, z, rfl, ⟨h2, m2⟩, (two_chunks hC).2 ⟨z, [], by simp, ⟨h3, m3⟩, rfl⟩⟩⟩⟩
theorem one_rt {E : Env} {w : World} {A B C : IT2} {a b c : Rat} (hA : RepQ E A a) (hB : RepQ E B b) (hC : RepQ E C c) {l : Nat} {v : Value} : one E w (true, rt A B C l) v ↔ IsRoot w v a b c ∧ LimR l a b c := one_root hA hB hC
theorem one_q {E : Env} {w : World} {A : IT2} {a : Rat} (hA : RepQ E A a) {l m : Nat} {v : Value} : one E w (true, [.int A.1 l, .int A.2 m]) v ↔ IsRat w v a ∧ Lim l a.num ∧ Lim m (a.den : Int) := by
  constructor
  · rintro ⟨vs, rfl, h⟩
    obtain ⟨x, r, rfl, ⟨h1, m1⟩, h⟩ := (two_chunks hA).1 h
    simp only [chunks] at h
    subst h
    rw [List.append_nil]
    exact ⟨h1, m1⟩
  · rintro ⟨⟨x0, y0, x1, y1, rfl, i0, i1⟩, m1⟩
    exact ⟨[x0, y0, x1, y1], rfl, (two_chunks hA).2 ⟨[x0, y0, x1, y1], [], rfl, ⟨⟨x0, y0, x1, y1, rfl, i0, i1⟩, m1⟩, rfl⟩⟩
/-- Roots and rational numbers among arguments. -/
def rtOf : AV → Option ((IT2 × IT2 × IT2) × Nat)
  | .val true [.int x1 l1, .int x2 l2, .int x3 l3, .int x4 l4, .int x5 l5, .int x6 l6] =>
    if canon x1 x2 && (canon x3 x4 && canon x5 x6) then some (((x1, x2), (x3, x4), (x5, x6)), max l1 (max l2 (max l3 (max l4 (max l5 l6))))) else none
  | _ => none
theorem rtOf_spec {E : Env} (hE : QEnv E) {β : Nat → Nat} {w : World} {x : AV} {v : Value} {A B C : IT2} {m : Nat} (h : rtOf x = some ((A, B, C), m)) (hx : x.holds E β w v) :
    ∃ a b c, RepQ E A a ∧ RepQ E B b ∧ RepQ E C c ∧ IsRoot w v a b c ∧ LimR m a b c := by
  unfold rtOf at h
  split at h
  · rename_i x1 l1 x2 l2 x3 l3 x4 l4 x5 l5 x6 l6
    split at h
    · rename_i hc
      simp only [Bool.and_eq_true] at hc
      injection h with h
      injection h with h hm
      injection h with h1 h
      injection h with h2 h3
      subst h1 h2 h3 hm
      obtain ⟨a, a1, a2⟩ := canon_spec hE hc.1
      obtain ⟨b, b1, b2⟩ := canon_spec hE hc.2.1
      obtain ⟨c, c1, c2⟩ := canon_spec hE hc.2.2
      obtain ⟨hr, ⟨m1, m2⟩, ⟨m3, m4⟩, m5, m6⟩ := (one_root (A := (x1, x2)) (B := (x3, x4)) (C := (x5, x6)) ⟨a1, a2⟩ ⟨b1, b2⟩ ⟨c1, c2⟩).1 hx
      exact ⟨a, b, c, ⟨a1, a2⟩, ⟨b1, b2⟩, ⟨c1, c2⟩, hr, ⟨m1.mono (by omega), m2.mono (by omega)⟩, ⟨m3.mono (by omega), m4.mono (by omega)⟩, m5.mono (by omega), m6.mono (by omega)⟩
    · cases h
  · cases h
def qOf : AV → Option (IT2 × Nat)
  | .val true [.int x1 l1, .int x2 l2] => if canon x1 x2 then some ((x1, x2), max l1 l2) else none
  | _ => none
theorem qOf_spec {E : Env} (hE : QEnv E) {β : Nat → Nat} {w : World} {x : AV} {v : Value} {A : IT2} {m : Nat} (h : qOf x = some (A, m)) (hx : x.holds E β w v) : ∃ a, RepQ E A a ∧ IsRat w v a ∧ LimQ m a := by
  unfold qOf at h
  split at h
  · rename_i x1 l1 x2 l2
    split at h
    · rename_i hc
      injection h with h
      injection h with h1 hm
      subst h1 hm
      obtain ⟨a, a1, a2⟩ := canon_spec hE hc
      obtain ⟨hr, m1, m2⟩ := (one_q (A := (x1, x2)) ⟨a1, a2⟩).1 hx
      exact ⟨a, ⟨a1, a2⟩, hr, m1.mono (by omega), m2.mono (by omega)⟩
    · cases h
  · cases h
/-- What the radicand of a root is known to be. -/
def rdT (B C : IT2) : BT := .eq (.a4 20 B.1 B.2 C.1 C.2) (.lit 1)
theorem rdT_den {E : Env} {B C : IT2} {b c : Rat} (hB : RepQ E B b) (hC : RepQ E C c) : (rdT B C).den E = Rdb b c := by
  have r : RepQ E (qop 10 B C) (ratF 10 b c) := rep_op (f := 10) (by omega) hB hC
  show ((qop 10 B C).1.den E == 1) = _
  rw [r.1]
  show ((if Rdb b c = true then (1 : Rat) else 0).num == 1) = _
  cases Rdb b c <;> rfl
theorem rdT_spec {E : Env} {G : Asm} (hG : G.holds E) {B C : IT2} {b c : Rat} (hB : RepQ E B b) (hC : RepQ E C c) (h : ((rdT B C).ev G == some true) = true) : Rd b c := by
  rw [beq_iff_eq] at h
  have := BT.ev_spec hG h
  rw [rdT_den hB hC] at this
  exact Rdb_iff.1 this
/-- Whether two roots have no common radicand. -/
def nokT (B C B' C' : IT2) : BT := .and (.not (.eq B.1 (.lit 0))) (.and (.not (.eq B'.1 (.lit 0))) (.not (.and (.eq C.1 C'.1) (.eq C.2 C'.2))))
def Ok (b c b' c' : Rat) : Prop := b = 0 ∨ b' = 0 ∨ c = c'
theorem nokT_den {E : Env} {B C B' C' : IT2} {b c b' c' : Rat} (hB : RepQ E B b) (hC : RepQ E C c) (hB' : RepQ E B' b') (hC' : RepQ E C' c') : (nokT B C B' C').den E = false ↔ Ok b c b' c' := by
  have n1 : b.num = 0 ↔ b = 0 := Rat.num_eq_zero
  have n2 : b'.num = 0 ↔ b' = 0 := Rat.num_eq_zero
  have n3 : (c.num = c'.num ∧ (c.den : Int) = (c'.den : Int)) ↔ c = c' := ⟨fun h => Rat.ext h.1 (by have := h.2; omega), fun h => by subst h; exact ⟨rfl, rfl⟩⟩
  unfold nokT Ok
  simp only [BT.den, IT.den, hB.1, hB'.1, hC.1, hC.2, hC'.1, hC'.2]
  rw [← n1, ← n2, ← n3]
  cases h1 : (b.num == 0) <;> cases h2 : (b'.num == 0) <;> cases h3 : (c.num == c'.num) <;> cases h4 : ((c.den : Int) == (c'.den : Int)) <;> simp_all
/-- The common radicand. -/
def cmT (B C C' : IT2) : IT2 := qop 0 (qop 5 B C) (qop 6 B C')
def cm (b c c' : Rat) : Rat := rC b c + rN b c'
theorem cm_zero (c c' : Rat) : cm 0 c c' = c' := by unfold cm; rw [rC_zero, rN_zero]; grind
theorem cm_ne {b : Rat} (h : b ≠ 0) (c c' : Rat) : cm b c c' = c := by unfold cm; rw [rC_ne h, rN_ne h]; grind
theorem rep_rC {E : Env} {B C : IT2} {b c : Rat} (hB : RepQ E B b) (hC : RepQ E C c) : RepQ E (qop 5 B C) (rC b c) := rep_op (f := 5) (by omega) hB hC
theorem rep_rN {E : Env} {B C : IT2} {b c : Rat} (hB : RepQ E B b) (hC : RepQ E C c) : RepQ E (qop 6 B C) (rN b c) := rep_op (f := 6) (by omega) hB hC
theorem rep_sq2 {E : Env} {B C : IT2} {b c : Rat} (hB : RepQ E B b) (hC : RepQ E C c) : RepQ E (qop 7 B C) (sq2 b c) := rep_op (f := 7) (by omega) hB hC
theorem rep_cm {E : Env} {B C C' : IT2} {b c c' : Rat} (hB : RepQ E B b) (hC : RepQ E C c) (hC' : RepQ E C' c') : RepQ E (cmT B C C') (cm b c c') := rep_op (f := 0) (by omega) (rep_rC hB hC) (rep_rN hB hC')
theorem rep_add {E : Env} {p q : IT2} {a b : Rat} (hp : RepQ E p a) (hq : RepQ E q b) : RepQ E (qop 0 p q) (a + b) := rep_op (f := 0) (by omega) hp hq
theorem rep_sub {E : Env} {p q : IT2} {a b : Rat} (hp : RepQ E p a) (hq : RepQ E q b) : RepQ E (qop 1 p q) (a - b) := rep_op (f := 1) (by omega) hp hq
theorem rep_mul {E : Env} {p q : IT2} {a b : Rat} (hp : RepQ E p a) (hq : RepQ E q b) : RepQ E (qop 2 p q) (a * b) := rep_op (f := 2) (by omega) hp hq
def qng (p : IT2) : IT2 := (.a1 0 p.1, p.2)
theorem rep_ng {E : Env} {p : IT2} {a : Rat} (h : RepQ E p a) : RepQ E (qng p) (-a) := by
  constructor
  · show - p.1.den E = _
    rw [h.1, Rat.neg_num]
  · show p.2.den E = _
    rw [h.2, Rat.neg_den]
theorem rep_0 {E : Env} : RepQ E (.lit 0, .lit 1) (0 : Rat) := ⟨rfl, rfl⟩
theorem rep_1 {E : Env} : RepQ E (.lit 1, .lit 1) (1 : Rat) := ⟨rfl, rfl⟩
/-- How long parts become. -/
theorem LimQ.zero {m : Nat} (h : 1 ≤ m) : LimQ m 0 := ⟨lim_zero, (lim1 (z := 1) (by decide)).mono h⟩
theorem LimQ.mulQ {m : Nat} {a b : Rat} (h : LimQ m a) (k : LimQ m b) : LimQ (4 * m + 1) (a * b) := by
  obtain ⟨h1, h2⟩ := LimQ.mul h.1 h.2 k.1 k.2
  exact ⟨h1.mono (by omega), h2.mono (by omega)⟩
theorem LimQ.addQ {m : Nat} {a b : Rat} (h : LimQ m a) (k : LimQ m b) : LimQ (4 * m + 1) (a + b) := by
  obtain ⟨h1, h2⟩ := LimQ.add h.1 h.2 k.1 k.2
  exact ⟨h1.mono (by omega), h2.mono (by omega)⟩
theorem LimQ.negQ {m : Nat} {a : Rat} (h : LimQ m a) : LimQ m (-a) := by
  refine ⟨?_, ?_⟩
  · rw [Rat.neg_num]; exact h.1.natAbs_le (by omega)
  · rw [Rat.neg_den]; exact h.2
theorem LimQ.rC {m : Nat} {b c : Rat} (h : LimQ m c) (k : 1 ≤ m) : LimQ m (rC b c) := by
  unfold Proofs.Ytdleiiboffkidaa.rC
  split
  · exact LimQ.zero k
  · exact h
theorem LimQ.cm {m : Nat} {b c c' : Rat} (h : LimQ m c) (h' : LimQ m c') : LimQ m (cm b c c') := by
  by_cases hb : b = 0
  · subst hb; rw [cm_zero]; exact h'
  · rw [cm_ne hb]; exact h
end Go.Proofs.Ytdleiiboffkidaa
end

/- ---- Rtd ---- -/
section
/-
  Functions of package root and of the reference: sums, products, inverses, signs, roundings.
-/
set_option maxRecDepth 100000
namespace Go.Proofs.Ytdleiiboffkidaa
open Go.RowKit

/-- Arguments. -/
def aRl (i l : Nat) : AV := .val true (rt (qv i) (qv (i + 1)) (qv (i + 2)) l)
def aQl (i l : Nat) : AV := .val true [.int (qv i).1 l, .int (qv i).2 l]
def aR (i : Nat) : AV := aRl i 3000
def aQ (i : Nat) : AV := aQl i 3000
theorem aRl_holds {l : List Rat} {β : Nat → Nat} {w : World} {v : Value} {i m : Nat} (h : IsRoot w v (l.getD i 0) (l.getD (i + 1) 0) (l.getD (i + 2) 0)) (k : LimR m (l.getD i 0) (l.getD (i + 1) 0) (l.getD (i + 2) 0)) : (aRl i m).holds (qE l) β w v := (one_rt rep_v rep_v rep_v).2 ⟨h, k⟩
theorem aQl_holds {l : List Rat} {β : Nat → Nat} {w : World} {v : Value} {i m : Nat} (h : IsRat w v (l.getD i 0)) (k : LimQ m (l.getD i 0)) : (aQl i m).holds (qE l) β w v := (one_q rep_v).2 ⟨h, k⟩
theorem aR_holds {l : List Rat} {β : Nat → Nat} {w : World} {v : Value} {i : Nat} (h : IsRoot w v (l.getD i 0) (l.getD (i + 1) 0) (l.getD (i + 2) 0)) (k : LimR 3000 (l.getD i 0) (l.getD (i + 1) 0) (l.getD (i + 2) 0)) : (aR i).holds (qE l) β w v := (one_rt rep_v rep_v rep_v).2 ⟨h, k⟩
theorem aQ_holds {l : List Rat} {β : Nat → Nat} {w : World} {v : Value} {i : Nat} (h : IsRat w v (l.getD i 0)) (k : LimQ 3000 (l.getD i 0)) : (aQ i).holds (qE l) β w v := (one_q rep_v).2 ⟨h, k⟩
/-- Words for trees. -/
def q0 : IT2 := (.lit 0, .lit 1)
def zt (p : IT2) : BT := .eq (.a2 3 p.1 (.lit 0)) (.lit 0)
theorem zt_den {E : Env} {p : IT2} {q : Rat} (h : RepQ E p q) : (zt p).den E = decide (q = 0) := by
  show (cmpZ (p.1.den E) 0 == 0) = _
  rw [h.1, Bool.eq_iff_iff, beq_iff_eq, decide_eq_true_iff, ← Rat.num_eq_zero]
  rcases cmpZ_cases q.num 0 with ⟨h, e⟩ | ⟨h, e⟩ | ⟨h, e⟩ <;> rw [e] <;> omega
def rt6 (A B C : IT2) (l m k : Nat) : List Chunk := [.int A.1 l, .int A.2 l, .int B.1 m, .int B.2 m, .int C.1 k, .int C.2 k]
def lf (A B C : IT2) (l m k : Nat) : Tree := .leaf [(true, rt6 A B C l m k)]
def lf2 (A B C : IT2) (l m k : Nat) : Tree := .leaf [(true, rt6 A B C l m k), (false, [.n .i64 (.lit 0)])]
def bad6 (z : Int) : List (Bool × List Chunk) := [(true, [.int (.lit 0) 0, .int (.lit 0) 0, .int (.lit 0) 0, .int (.lit 0) 0, .int (.lit 0) 0, .int (.lit 0) 0]), (false, [.n .i64 (.lit z)])]
theorem lf_out {E : Env} {β : Nat → Nat} {w : World} {v : Value} {A B C : IT2} {a b c : Rat} {l m k : Nat} (hA : RepQ E A a) (hB : RepQ E B b) (hC : RepQ E C c) (h : (toAV ((lf A B C l m k).pick E)).holds E β w v) : IsRoot w v a b c := ((one_root hA hB hC).1 h).1
theorem lf2_out {E : Env} {β : Nat → Nat} {w : World} {v : Value} {A B C : IT2} {a b c : Rat} {l m k : Nat} (hA : RepQ E A a) (hB : RepQ E B b) (hC : RepQ E C c) (h : (toAV ((lf2 A B C l m k).pick E)).holds E β w v) : ∃ x, v = .tuple #[x, .int .i64 0] ∧ IsRoot w x a b c := by
  obtain ⟨vs, rfl, u1, r1, rfl, k1, u2, r2, rfl, k2, hn⟩ := h
  simp only [tupAll] at hn
  subst hn
  have k2' := one_num.1 k2
  subst k2'
  exact ⟨u1, rfl, ((one_root hA hB hC).1 k1).1⟩
def Zero6 (w : World) (v : Value) : Prop := ∀ E, one E w (true, [.int (.lit 0) 0, .int (.lit 0) 0, .int (.lit 0) 0, .int (.lit 0) 0, .int (.lit 0) 0, .int (.lit 0) 0]) v
theorem zero6_of {E : Env} {w : World} {v : Value} (h : one E w (true, [.int (.lit 0) 0, .int (.lit 0) 0, .int (.lit 0) 0, .int (.lit 0) 0, .int (.lit 0) 0, .int (.lit 0) 0]) v) : Zero6 w v := fun _ => h
theorem bad6_out {E : Env} {β : Nat → Nat} {w : World} {v : Value} {z : Int} (h : (toAV ((Tree.leaf (bad6 z)).pick E)).holds E β w v) : ∃ x, v = .tuple #[x, .int .i64 z] ∧ Zero6 w x := by
  obtain ⟨vs, rfl, u1, r1, rfl, k1, u2, r2, rfl, k2, hn⟩ := h
  simp only [tupAll] at hn
  subst hn
  have k2' := one_num.1 k2
  subst k2'
  exact ⟨u1, rfl, zero6_of k1⟩
section
variable {w : World} {v u : Value} {a b c a' b' c' k : Rat}
end
end Go.Proofs.Ytdleiiboffkidaa
end
