/-
  Texts of this seat, joined.
-/
import Derived.Test.YtifeacfljfmnpaaGreatJ5
section
set_option maxRecDepth 100000
namespace Go.Proofs.YtifeacfljfmnpaaGreat
open Go.RowKit
noncomputable def tabFq : List (Nat × Con) := [(191, kFR), (193, kI2 muLo muHi), (228, kI2 adLo adHi), (192, kSqV), (200, kNegI), (175, kIn fun x => .a2 3 x (.lit 0))]
theorem tabFq_ok {E : Env} (hE : QEnv E) : TabOK Tryz.prog E tabFq :=
  .cons (kFR_ok hE pFromRat_calls ⟨_, Tryz.func191, by decide +kernel, by kernel_rfl⟩) <| .cons (kI2_ok muLo_den muHi_den pMul_calls ⟨_, Tryz.func193, by decide +kernel, by kernel_rfl⟩) <|
  .cons (kI2_ok (L := fun a _ c _ => a + c) (H := fun _ b _ d => b + d) (fun _ _ _ _ => rfl) (fun _ _ _ _ => rfl) pAdd_calls ⟨_, Tryz.func228, by decide +kernel, by kernel_rfl⟩) <|
  .cons (kSqV_ok pSqrt_calls ⟨_, Tryz.func192, by decide +kernel, by kernel_rfl⟩) <|
  .cons (kNegI_ok (neg_gen Tryz.func200 (by decide +kernel) (by decide +kernel) neg_walkP) ⟨_, Tryz.func200, by decide +kernel, by kernel_rfl⟩) <|
  .cons (kIn_ok (cmpZ · 0) (fun _ => rfl) (fun w v1 z1 h1 => sign_calls w v1 z1 h1) ⟨_, Tryz.func175, by decide +kernel, by kernel_rfl⟩) .nil
def needFq : List (Nat × (List AV → Asm → Option BT)) := [(191, nFR), (193, nI2 muLo muHi), (228, nI2 adLo adHi), (192, nSqV)]
noncomputable def cFq0 : Cfg := cfgN (cfgOf tabFq) needFq
theorem cFq0_ok {E : Env} (hE : QEnv E) : CfgOK Tryz.prog E cFq0 := cfgN_ok (cfg_ok (tabFq_ok hE))
noncomputable def cFq : Cfg := cfgI cFq0 cFq0 [(227, Tryz.f227)]
theorem cFq_ok {E : Env} (hE : QEnv E) : CfgOK Tryz.prog E cFq := cfgI_ok mixed (cFq0_ok hE) (cFq0_ok hE) (fun _ => trivial) (.cons Tryz.func227 (by decide +kernel) (by kernel_rfl) .nil)
def isIvQ (x y : IT) : Option Tree → Bool
  | some T => isIv x y T
  | none => false
def isNoQ : Option Tree → Bool
  | some T => isNo T
  | none => false
theorem ivQ_calls {C : Cfg} {E : Env} (hC : CfgOK Tryz.prog E C) (hw : ∀ w, C.wok w) {G : Asm} (hG : G.holds E) {f : FuncId} {fn : Func} (hf : Tryz.prog.funcs[f]? = some fn) (h4 : fn.results.toList.length ≤ 4) {args : List AV} {x y : IT} {a b : Int} (hT : isIvQ x y (funE C fn G args) = true) (hx : x.den E = a) (hy : y.den E = b) (hn : args.length ≤ fn.ntmps) (hp : args.all noPtr = true) (w : World) (vs : List Value) (hl : vs.length = args.length)
    (hv : ∀ (i : Nat) (x : AV), args[i]? = some x → ∃ v, vs[i]? = some v ∧ ∀ β, x.holds E β w v) : Calls Tryz.prog f vs.toArray w (RetIv (some (a, b)) w) := by
  unfold isIvQ at hT
  split at hT
  · rename_i T hT'
    refine (fun_sound mixed hC hG hf h4 hT' hn hp w vs hl (fun i x hx => ?_) (fun w' _ => hw w')).mono ?_
    · obtain ⟨v, h1, h2⟩ := hv i x hx
      exact ⟨fun _ => 0, v, h1, h2 _⟩
    · rintro e w' ⟨β, v, rfl, hh, ex⟩
      rw [isIv_pick hT] at hh
      rw [ivL_out hh, hx, hy]
      exact ⟨rfl, ex⟩
  · cases hT
theorem noQ_calls {C : Cfg} {E : Env} (hC : CfgOK Tryz.prog E C) (hw : ∀ w, C.wok w) {G : Asm} (hG : G.holds E) {f : FuncId} {fn : Func} (hf : Tryz.prog.funcs[f]? = some fn) (h4 : fn.results.toList.length ≤ 4) {args : List AV} (hT : isNoQ (funE C fn G args) = true) (hn : args.length ≤ fn.ntmps) (hp : args.all noPtr = true) (w : World) (vs : List Value) (hl : vs.length = args.length)
    (hv : ∀ (i : Nat) (x : AV), args[i]? = some x → ∃ v, vs[i]? = some v ∧ ∀ β, x.holds E β w v) : Calls Tryz.prog f vs.toArray w (RetIv none w) := by
  unfold isNoQ at hT
  split at hT
  · rename_i T hT'
    refine (fun_sound mixed hC hG hf h4 hT' hn hp w vs hl (fun i x hx => ?_) (fun w' _ => hw w')).mono ?_
    · obtain ⟨v, h1, h2⟩ := hv i x hx
      exact ⟨fun _ => 0, v, h1, h2 _⟩
    · rintro e w' ⟨β, v, rfl, hh, ex⟩
      rw [isNo_pick hT] at hh
      rw [noL_out hh]
      exact ⟨rfl, ex⟩
  · cases hT
def aRq : AV := .val true (rt (qI 0) (qI 2) (qI 4) 40)
def gZq (z : Bool) : Asm := [(.eq (sgQT (qI 2)) (.lit 0), z)]
noncomputable def pRq (G : Asm) : Option Tree := funE cFq Tryz.f190 G [aRq]
theorem rq_yes : (bools.all fun z => isIvQ (rtL z (qI 0) (qI 2) (qI 4)) (rtH z (qI 0) (qI 2) (qI 4)) (pRq (gZq z ++ tsRt z (qI 0) (qI 2) (qI 4)))) = true := by kernel_rfl
theorem rq_no : (bools.all fun z => (List.range 8).all fun i => decide ((tsRt z (qI 0) (qI 2) (qI 4)).length ≤ i) || isNoQ (pRq (gZq z ++ flipAt (tsRt z (qI 0) (qI 2) (qI 4)) i))) = true := by kernel_rfl
structure RootQ (a b c : Rat) (o : Option (Int × Int)) : Prop where
  prog : ∀ (w : World) (v : Value), IsRoot w v a b c → LimR 40 a b c → Calls Tryz.prog 190 #[v] w (RetIv o w)
  holds : ∀ L H, o = some (L, H) → Prp L H ∧ ∀ m, 0 ≤ c → IsRt c m → IvIn L H fun k => a + b * m k
theorem root_q (a b c : Rat) : ∃ o, RootQ a b c o := by
  obtain ⟨E, hE⟩ : ∃ E, E = qE [a, b, c] := ⟨_, rfl⟩
  have hQ : QEnv E := by rw [hE]; exact qE_ok _
  have ra : RepQ E (qI 0) a := by rw [hE]; exact ⟨rfl, rfl⟩
  have rb : RepQ E (qI 2) b := by rw [hE]; exact ⟨rfl, rfl⟩
  have rc : RepQ E (qI 4) c := by rw [hE]; exact ⟨rfl, rfl⟩
  have hv : ∀ (w : World) (v : Value), IsRoot w v a b c → LimR 40 a b c → ∀ (i : Nat) (x : AV), [aRq][i]? = some x → ∃ u, [v][i]? = some u ∧ ∀ β, x.holds E β w u := fun w v h l => one_arg rfl rfl fun β => (one_rt ra rb rc).2 ⟨h, l⟩
  obtain ⟨z, hz⟩ : ∃ z : Bool, z = decide (sgQ' b = 0) := ⟨_, rfl⟩
  have gz : (gZq z).holds E := by
    refine asm_c ?_ no_asm
    show ((sgQT (qI 2)).den E == 0) = z
    rw [show (sgQT (qI 2)).den E = sgQ' b by rw [sgQ'_num, ← rb.1]; rfl, hz, Bool.eq_iff_iff, beq_iff_eq, decide_eq_true_iff]
  have zb : z = true → b = 0 := fun h => by
    rw [h] at hz
    have := of_decide_eq_true hz.symm
    rw [sgQ'_num] at this
    refine Rat.num_eq_zero.1 ?_
    rcases cmpZ_cases b.num 0 with ⟨_, e⟩ | ⟨_, e⟩ | ⟨_, e⟩ <;> omega
  have dl := rtL_den z ra rb rc
  have dh := rtH_den z ra rb rc
  rcases first_bad (E := E) (tsRt z (qI 0) (qI 2) (qI 4)) with hall | ⟨i, hi, hbad⟩
  · have hw := List.all_eq_true.1 rq_yes z (bools_mem z)
    refine ⟨some (rtLv z a b c, rtHv z a b c), ?_, ?_⟩
    · intro w v h l
      exact ivQ_calls (cFq_ok hQ) (fun _ => trivial) (asm_app gz hall) Tryz.func190 (by decide +kernel) hw dl dh (by decide +kernel) rfl w _ rfl (hv w v h l)
    · intro L H e
      injection e with e
      injection e with e1 e2
      subst e1 e2
      refine ⟨?_, fun m hc hm => rt_in z zb hc hm⟩
      have : (exT (rtL z (qI 0) (qI 2) (qI 4)) (rtH z (qI 0) (qI 2) (qI 4))).den E = true := by
        cases z
        · exact hall (exT (rtL false (qI 0) (qI 2) (qI 4)) (rtH false (qI 0) (qI 2) (qI 4)), true) (by simp [tsRt])
        · exact hall (exT (qL (qI 0)) (qH (qI 0)), true) (by simp [tsRt])
      rw [exT_den, dl, dh] at this
      exact prpB_iff.1 this
  · have hi8 : i < 8 := by
      cases z
      · exact hi
      · have : i < 1 := hi
        omega
    have hw := List.all_eq_true.1 (List.all_eq_true.1 rq_no z (bools_mem z)) i (List.mem_range.2 hi8)
    rw [decide_eq_false (by omega), Bool.false_or] at hw
    refine ⟨none, ?_, ?_⟩
    · intro w v h l
      exact noQ_calls (cFq_ok hQ) (fun _ => trivial) (asm_app gz hbad) Tryz.func190 (by decide +kernel) hw (by decide +kernel) rfl w _ rfl (hv w v h l)
    · intro L H e
      cases e
end Go.Proofs.YtifeacfljfmnpaaGreat
end

section
set_option maxRecDepth 100000
namespace Go.Proofs.YtifeacfljfmnpaaGreat
open Go.RowKit
def kKq (chk : List AV → Bool) (r : AV) (k : Con) : Con := fun args G => if chk args then some r else k args G
structure KnownQ (E : Env) (f : Nat) (chk : List AV → Bool) (r : AV) : Prop where
  calls : ∀ args, chk args = true → ∀ (β : Nat → Nat) (w : World) (vs : List Value), (∀ (i : Nat) (x : AV), args[i]? = some x → ∃ v, vs[i]? = some v ∧ x.holds E β w v) → vs.length = args.length → Calls Tryz.prog f vs.toArray w fun e w' => ∃ v, e = .returned v ∧ (∀ β w', r.holds E β w' v) ∧ Ext w w'
  np : ∀ x off, r ≠ .ptr x off
theorem kKq_ok {E : Env} {f : Nat} {chk : List AV → Bool} {r : AV} {k : Con} (h : KnownQ E f chk r) (hk : ConOK Tryz.prog E f k) : ConOK Tryz.prog E f (kKq chk r k) := by
  refine ⟨?_, ?_, hk.body⟩
  · intro args G s hs hG β w vs hv hl
    unfold kKq at hs
    split at hs
    · rename_i hc
      injection hs with hs
      subst hs
      refine (h.calls args hc β w vs hv hl).mono ?_
      rintro e w' ⟨v, rfl, h1, h2⟩
      exact ⟨v, rfl, h1 _ _, h2⟩
    · exact hk.calls args G s hs hG β w vs hv hl
  · intro args G s hs x off
    unfold kKq at hs
    split at hs
    · injection hs with hs
      subst hs
      exact h.np x off
    · exact hk.nptr args G s hs x off
def kNoQ : Con := fun _ _ => none
theorem kNoQ_ok {E : Env} {f : Nat} (hb : ∃ fn, Tryz.prog.funcs[f]? = some fn ∧ fn.name ≠ "runtime.NumGoroutine" ∧ fn.body.isNone = false) : ConOK Tryz.prog E f kNoQ := by
  refine ⟨?_, ?_, hb⟩
  · intro args G r h
    cases h
  · intro args G r h
    cases h
def resQ (o : Option (IT × IT)) : AV := match o with | some p => tIv p.1 p.2 | none => tNo
theorem resQ_np (o : Option (IT × IT)) : ∀ x off, resQ o ≠ .ptr x off := by
  intro x off e
  cases o <;> cases e
theorem resQ_holds {E : Env} {β : Nat → Nat} {w : World} {o : Option (IT × IT)} {u : Option (Int × Int)} (h : u = o.map fun p => (p.1.den E, p.2.den E)) : (resQ o).holds E β w (ivV u) := by
  subst h
  cases o with
  | none => exact tNo_holds
  | some p => exact tIv_holds rfl rfl
def isQw (i : Nat) : List Chunk → Bool
  | [.int (.var j) l, .int (.var k) m] => j == i && (k == i + 1 && (decide (l ≤ 40) && decide (m ≤ 40)))
  | _ => false
def isRw (a b c : Nat) : AV → Bool
  | .val true [x, y, z, t, u, s] => isQw a [x, y] && (isQw b [z, t] && isQw c [u, s])
  | _ => false
theorem isQw_spec {i : Nat} {cs : List Chunk} (h : isQw i cs = true) : ∃ l m, cs = [.int (.var i) l, .int (.var (i + 1)) m] ∧ l ≤ 40 ∧ m ≤ 40 := by
  unfold isQw at h
  split at h
  · simp only [Bool.and_eq_true, beq_iff_eq, decide_eq_true_iff] at h
    obtain ⟨rfl, rfl, h1, h2⟩ := h
    exact ⟨_, _, rfl, h1, h2⟩
  · cases h
theorem isRw_holds {E : Env} {w : World} {β : Nat → Nat} {i j k : Nat} {x : AV} {v : Value} {a b c : Rat} (ha : RepQ E (qI i) a) (hb : RepQ E (qI j) b) (hc : RepQ E (qI k) c) (h : isRw i j k x = true) (hv : x.holds E β w v) : IsRoot w v a b c ∧ LimR 40 a b c := by
  unfold isRw at h
  split at h
  · rename_i p q r s t u
    simp only [Bool.and_eq_true] at h
    obtain ⟨l1, m1, e1, b1, b2⟩ := isQw_spec h.1
    obtain ⟨l2, m2, e2, b3, b4⟩ := isQw_spec h.2.1
    obtain ⟨l3, m3, e3, b5, b6⟩ := isQw_spec h.2.2
    simp only [List.cons.injEq, and_true] at e1 e2 e3
    obtain ⟨rfl, rfl⟩ := e1
    obtain ⟨rfl, rfl⟩ := e2
    obtain ⟨rfl, rfl⟩ := e3
    obtain ⟨k1, ⟨k2, k3⟩, ⟨k4, k5⟩, k6, k7⟩ := (one_root (A := qI i) (B := qI j) (C := qI k) ha hb hc).1 hv
    exact ⟨k1, ⟨k2.mono b1, k3.mono b2⟩, ⟨k4.mono b3, k5.mono b4⟩, k6.mono b5, k7.mono b6⟩
  · cases h
def chkRw (a b c : Nat) : List AV → Bool
  | [x] => isRw a b c x
  | _ => false
theorem knownq_root {E : Env} {f : Nat} {i j k : Nat} {a b c : Rat} {u : Option (Int × Int)} {o : Option (IT × IT)} (ha : RepQ E (qI i) a) (hb : RepQ E (qI j) b) (hc : RepQ E (qI k) c) (h : ∀ (w : World) (v : Value), IsRoot w v a b c → LimR 40 a b c → Calls Tryz.prog f #[v] w (RetIv u w)) (ho : u = o.map fun p => (p.1.den E, p.2.den E)) : KnownQ E f (chkRw i j k) (resQ o) := by
  refine ⟨?_, resQ_np o⟩
  intro args hc' β w vs hv hl
  unfold chkRw at hc'
  split at hc'
  · obtain ⟨v, rfl, h1⟩ := args1 hv hl
    obtain ⟨k1, k2⟩ := isRw_holds ha hb hc hc' h1
    refine (h w v k1 k2).mono ?_
    rintro e w' ⟨rfl, ex⟩
    exact ⟨_, rfl, fun β w' => resQ_holds ho, ex⟩
  · cases hc'
def oL (b : Bool) : Option (IT × IT) := if b then some (.var 12, .var 14) else none
def oF (b : Bool) : Option (IT × IT) := if b then some (.var 16, .var 18) else none
def isIB (z : Int) (b : Bool) : Tree → Bool
  | .leaf [(false, [.n .i64 (.lit x)]), (false, [.b (.lit c)])] => x == z && c == b
  | .leaf _ => false
  | .ite _ t e => isIB z b t && isIB z b e
def isIBo (z : Int) (b : Bool) : Option Tree → Bool
  | some T => isIB z b T
  | none => false
theorem isIB_pick {E : Env} {z : Int} {b : Bool} : ∀ {T : Tree}, isIB z b T = true → T.pick E = [(false, [.n .i64 (.lit z)]), (false, [.b (.lit b)])] := by
  intro T
  induction T with
  | leaf l =>
    intro h
    unfold isIB at h
    split at h
    · rename_i x c e
      cases e
      simp only [Bool.and_eq_true, beq_iff_eq] at h
      rw [h.1, h.2]
      rfl
    · cases h
    · rename_i e
      cases e
  | ite c t e iht ihe =>
    intro h
    simp only [isIB, Bool.and_eq_true] at h
    simp only [Tree.pick]
    split
    · exact iht h.1
    · exact ihe h.2
def gTy (x y : IT) : Asm := [(.le x y, true), (.le lM x, true), (.le y lP, true)]
theorem gTy_ok {E : Env} {x y : IT} {a b : Int} (hx : x.den E = a) (hy : y.den E = b) (h : Prp a b) : (gTy x y).holds E := by
  subst hx hy
  obtain ⟨h1, h2, h3⟩ := h
  exact le_t h1 <| le_t h2 <| le_t h3 no_asm
def gLF : Asm := gTy (.var 12) (.var 14) ++ gTy (.var 16) (.var 18)
end Go.Proofs.YtifeacfljfmnpaaGreat
end

section
set_option maxRecDepth 100000
namespace Go.Proofs.YtifeacfljfmnpaaGreat
open Go.RowKit
def RetIB (z : Int) (b : Bool) (w : World) (e : Ending) (w' : World) : Prop := e = .returned (.tuple #[.int .i64 z, .bool b]) ∧ Ext w w'
theorem IB_out {E : Env} {β : Nat → Nat} {w : World} {z : Int} {b : Bool} {v : Value} (h : (toAV [(false, [.n .i64 (.lit z)]), (false, [.b (.lit b)])]).holds E β w v) : v = .tuple #[.int .i64 z, .bool b] := by
  obtain ⟨vs, rfl, v1, r, rfl, h1, v2, r', rfl, h2, h3⟩ := h
  simp only [tupAll] at h3
  subst h3
  rw [one_num.1 h1, one_bool.1 h2]
  rfl
theorem opt_ifq (u : Option (Int × Int)) : ∃ (s : Bool) (L H : Int), u = if s then some (L, H) else none := by
  cases u with
  | none => exact ⟨false, 0, 0, rfl⟩
  | some p => exact ⟨true, p.1, p.2, rfl⟩
theorem oL_map {E : Env} {s : Bool} {L H : Int} (h1 : E.i 12 = L) (h2 : E.i 14 = H) : (if s then some (L, H) else none) = (oL s).map fun p => (p.1.den E, p.2.den E) := by
  cases s
  · rfl
  · show some (L, H) = some (E.i 12, E.i 14)
    rw [h1, h2]
theorem oF_map {E : Env} {s : Bool} {L H : Int} (h1 : E.i 16 = L) (h2 : E.i 18 = H) : (if s then some (L, H) else none) = (oF s).map fun p => (p.1.den E, p.2.den E) := by
  cases s
  · rfl
  · show some (L, H) = some (E.i 16, E.i 18)
    rw [h1, h2]
theorem qs6 {E : Env} {A B C D M N : Rat} (rA : RepQ E (qI 0) A) (rB : RepQ E (qI 2) B) (rC : RepQ E (qI 4) C) (rD : RepQ E (qI 6) D) (rM : RepQ E (qI 8) M) (rN : RepQ E (qI 10) N) : ∀ j q, [A, B, C, D, M, N][j]? = some q → RepQ E (qI (0 + 2 * j)) q := fun j q hj => by
  match j, hj with
  | 0, hj => injection hj with hj; subst hj; exact rA
  | 1, hj => injection hj with hj; subst hj; exact rB
  | 2, hj => injection hj with hj; subst hj; exact rC
  | 3, hj => injection hj with hj; subst hj; exact rD
  | 4, hj => injection hj with hj; subst hj; exact rM
  | 5, hj => injection hj with hj; subst hj; exact rN
def qsg (A B C D M N : Rat) : Int := if M.num < 0 ∨ N.num < 0 then 0 else sg4 A B C D M N
def isQ6 : AV → Bool
  | .val true [x0, x1, x2, x3, x4, x5, x6, x7, x8, x9, x10, x11] => isQw 0 [x0, x1] && (isQw 2 [x2, x3] && (isQw 4 [x4, x5] && (isQw 6 [x6, x7] && (isQw 8 [x8, x9] && isQw 10 [x10, x11]))))
  | _ => false
def rIB (z : Int) (b : Bool) : AV := .tup [(false, [.n .i64 (.lit z)]), (false, [.b (.lit b)])]
def rNq (z : Int) : AV := .val false [.n .i64 (.lit z)]
def isNl (z : Int) : Tree → Bool
  | .leaf [(false, [.n .i64 (.lit x)])] => x == z
  | .leaf _ => false
  | .ite _ t e => isNl z t && isNl z e
def isNlo (z : Int) : Option Tree → Bool
  | some T => isNl z T
  | none => false
theorem isNl_pick {E : Env} {z : Int} : ∀ {T : Tree}, isNl z T = true → T.pick E = [(false, [.n .i64 (.lit z)])] := by
  intro T
  induction T with
  | leaf l =>
    intro h
    unfold isNl at h
    split at h
    · rename_i x e
      cases e
      simp only [beq_iff_eq] at h
      rw [h]
      rfl
    · cases h
    · rename_i e
      cases e
  | ite c t e iht ihe =>
    intro h
    simp only [isNl, Bool.and_eq_true] at h
    simp only [Tree.pick]
    split
    · exact iht h.1
    · exact ihe h.2
def sgs : List Int := [1, 0, -1]
theorem sgs_mem {z : Int} (h : z = 1 ∨ z = 0 ∨ z = -1) : z ∈ sgs := by rcases h with rfl | rfl | rfl <;> decide
end Go.Proofs.YtifeacfljfmnpaaGreat
end

section
set_option maxRecDepth 100000
namespace Go.Proofs.YtifeacfljfmnpaaGreat
open Go.RowKit
noncomputable def cTw : Cfg := cfgOf tabT
def aQv (i l : Nat) : AV := .val true [.int (.var i) l, .int (.var (i + 1)) l]
def twA : IT := .a2 3 (.var 0) (.lit 0)
def twB : IT := .a2 2 (.a2 3 (.var 2) (.lit 0)) (.a2 3 (.var 4) (.lit 0))
def twC : IT := .a2 2 twA (qcmp (qop 2 (qI 0) (qI 0)) (qop 2 (qop 2 (qI 2) (qI 2)) (qI 4)))
def lfTw (t : IT) : Tree := .leaf [(false, [.n .i64 t])]
def twTree : Tree := .ite (.eq twA (.lit 0)) (lfTw twB) (.ite (.eq twB (.lit 0)) (lfTw twA) (.ite (.eq twA twB) (lfTw twA) (lfTw twC)))
theorem tw_walk : funE cTw Tryz.f90 [] [aQv 0 7000, aQv 2 7000, aQv 4 7000] = some twTree := by kernel_rfl
theorem tw_pick {E : Env} {a b m : Rat} (ha : RepQ E (qI 0) a) (hb : RepQ E (qI 2) b) (hm : RepQ E (qI 4) m) : ∃ t, twTree.pick E = [(false, [.n .i64 t])] ∧ t.den E = sg2 a b m := by
  have dA : twA.den E = sgQ' a := by rw [sgQ'_num, ← ha.1]; rfl
  have dB : twB.den E = sgQ' b * sgQ' m := by rw [sgQ'_num, sgQ'_num, ← hb.1, ← hm.1]; rfl
  have dC : twC.den E = sgQ' a * sgQ' (a * a - b * b * m) := by
    show twA.den E * (qcmp (qop 2 (qI 0) (qI 0)) (qop 2 (qop 2 (qI 2) (qI 2)) (qI 4))).den E = _
    rw [dA, rep_cmp (rep_op (f := 2) (by omega) ha ha) (rep_op (f := 2) (by omega) (rep_op (f := 2) (by omega) hb hb) hm), sgQ'_num (a * a - b * b * m)]
    rfl
  have e1 : (BT.eq twA (.lit 0)).den E = decide (sgQ' a = 0) := by
    show (twA.den E == 0) = _
    rw [dA, Bool.eq_iff_iff, beq_iff_eq, decide_eq_true_iff]
  have e2 : (BT.eq twB (.lit 0)).den E = decide (sgQ' b * sgQ' m = 0) := by
    show (twB.den E == 0) = _
    rw [dB, Bool.eq_iff_iff, beq_iff_eq, decide_eq_true_iff]
  have e3 : (BT.eq twA twB).den E = decide (sgQ' a = sgQ' b * sgQ' m) := by
    show (twA.den E == twB.den E) = _
    rw [dA, dB, Bool.eq_iff_iff, beq_iff_eq, decide_eq_true_iff]
  unfold sg2 sumSg
  generalize sgQ' a = s at *
  generalize sgQ' b * sgQ' m = t at *
  simp only [twTree, lfTw, Tree.pick, e1, e2, e3, decide_eq_true_eq]
  by_cases h1 : s = 0
  · rw [if_pos h1, if_pos h1]
    exact ⟨_, rfl, dB⟩
  · rw [if_neg h1, if_neg h1]
    by_cases h2 : t = 0
    · rw [if_pos h2, if_pos h2]
      exact ⟨_, rfl, dA⟩
    · rw [if_neg h2, if_neg h2]
      by_cases h3 : s = t
      · rw [if_pos h3, if_pos h3]
        exact ⟨_, rfl, dA⟩
      · rw [if_neg h3, if_neg h3]
        exact ⟨_, rfl, dC⟩
def psQ (a b m : IT2) : IT := .a2 3 (qop 8 a (qop 7 b m)).1 (.lit 0)
theorem psQ_den {E : Env} {p q r : IT2} {a b m : Rat} (ha : RepQ E p a) (hb : RepQ E q b) (hm : RepQ E r m) (h0 : 0 ≤ m) : (psQ p q r).den E = sg2 a b m := by
  have k : RepQ E (qop 8 p (qop 7 q r)) (ratF 8 a (ratF 7 b m)) := rep_op (f := 8) (by omega) ha (rep_op (f := 7) (by omega) hb hm)
  show cmpZ ((qop 8 p (qop 7 q r)).1.den E) 0 = _
  rw [k.1]
  show cmpZ ((sgS a (ratF 7 b m) : Int) : Rat).num 0 = _
  rw [Rat.num_intCast, sgS_sg2 h0]
  rcases sg2_range a b m with e | e | e <;> rw [e] <;> rfl
def kTw : Con
  | [.val true [.int a l, .int b k], .val true [.int c l', .int d k'], .val true [.int x l2, .int y k2]], G =>
    if canon a b && (canon c d && (canon x y && (decide (l ≤ 7000) && (decide (k ≤ 7000) && (decide (l' ≤ 7000) && (decide (k' ≤ 7000) && (decide (l2 ≤ 7000) && (decide (k2 ≤ 7000) && G.find (.lt (.a2 3 x (.lit 0)) (.lit 0)) == some false))))))))
    then some (.val false [.n .i64 (psQ (a, b) (c, d) (x, y))]) else none
  | _, _ => none
theorem kTw_ok {E : Env} (hE : QEnv E) : ConOK Tryz.prog E 90 kTw := by
  refine ⟨?_, ?_, ⟨_, Tryz.func90, by decide +kernel, by kernel_rfl⟩⟩
  · intro args G r h hG β w vs hv hlen
    unfold kTw at h
    split at h
    · rename_i a l b k c l' d k' x l2 y k2
      split at h
      · rename_i hcd
        simp only [Bool.and_eq_true, decide_eq_true_iff, beq_iff_eq] at hcd
        obtain ⟨c1, c2, c3, b1, b2, b3, b4, b5, b6, hg⟩ := hcd
        injection h with h
        subst h
        obtain ⟨v1, e1, h1⟩ := hv 0 _ rfl
        obtain ⟨v2, e2, h2⟩ := hv 1 _ rfl
        obtain ⟨v3, e3, h3⟩ := hv 2 _ rfl
        obtain rfl : vs = [v1, v2, v3] := by
          match vs, hlen, e1, e2, e3 with
          | [p, q, r], _, e1, e2, e3 =>
            injection e1 with e1; injection e2 with e2; injection e3 with e3
            subst e1 e2 e3; rfl
        obtain ⟨p, _, f1, f2, hp, m1, m2⟩ := one_ratQ hE c1 h1
        obtain ⟨q, _, f3, f4, hq, m3, m4⟩ := one_ratQ hE c2 h2
        obtain ⟨m, _, f5, f6, hm, m5, m6⟩ := one_ratQ hE c3 h3
        have h0 : 0 ≤ m := by
          have := of_decide_eq_false (Asm.find_spec hG hg)
          have e : (IT.a2 3 x (.lit 0)).den E = cmpZ (x.den E) 0 := rfl
          rw [e, f5] at this
          exact Rat.num_nonneg.1 (by
            refine Decidable.byContradiction fun k => this ?_
            rw [cmpZ_lt (by omega)]
            show (-1 : Int) < 0
            omega)
        obtain ⟨t, ht, hd⟩ := tw_pick (E := qE [p, q, m]) (a := p) (b := q) (m := m) ⟨rfl, rfl⟩ ⟨rfl, rfl⟩ ⟨rfl, rfl⟩
        have ar : ∀ {i : Nat} {z : Rat} {v : Value} {s u : Nat}, RepQ (qE [p, q, m]) (qI i) z → IsRat w v z → Lim s z.num → Lim u (z.den : Int) → s ≤ 7000 → u ≤ 7000 → ∀ β, (aQv i 7000).holds (qE [p, q, m]) β w v := fun {i z v s u} hz hi n1 n2 k1 k2 β => (one_q (A := qI i) hz).2 ⟨hi, n1.mono k1, n2.mono k2⟩
        refine (fun_sound mixed (E := qE [p, q, m]) (cfg_ok (tabT_ok (qE_ok _))) no_asm Tryz.func90 (by decide +kernel) tw_walk (by decide +kernel) rfl w [v1, v2, v3] rfl (fun i u hu => ?_)).mono ?_
        · match i, hu with
          | 0, hu => injection hu with hu; subst hu; exact ⟨fun _ => 0, v1, rfl, ar ⟨rfl, rfl⟩ hp m1 m2 b1 b2 _⟩
          | 1, hu => injection hu with hu; subst hu; exact ⟨fun _ => 0, v2, rfl, ar ⟨rfl, rfl⟩ hq m3 m4 b3 b4 _⟩
          | 2, hu => injection hu with hu; subst hu; exact ⟨fun _ => 0, v3, rfl, ar ⟨rfl, rfl⟩ hm m5 m6 b5 b6 _⟩
        · rintro e w' ⟨β', u, rfl, hh, ex⟩
          rw [ht] at hh
          have hu : u = .int .i64 (sg2 p q m) := by rw [← hd]; exact one_num.1 hh
          refine ⟨_, rfl, one_num.2 ?_, ex⟩
          rw [hu, psQ_den ⟨f1, f2⟩ ⟨f3, f4⟩ ⟨f5, f6⟩ h0]
      · cases h
    · cases h
  · intro args G r h x off
    unfold kTw at h
    split at h
    · split at h
      · injection h with h; subst h; intro e; cases e
      · cases h
    · cases h
noncomputable def cRs : Cfg := cfgOf ((90, kTw) :: tabT)
theorem cRs_ok {E : Env} (hE : QEnv E) : CfgOK Tryz.prog E cRs := cfg_ok (.cons (kTw_ok hE) (tabT_ok hE))
end Go.Proofs.YtifeacfljfmnpaaGreat
end

section
set_option maxRecDepth 100000
namespace Go.Proofs.YtifeacfljfmnpaaGreat
open Go.RowKit
def rsA : IT := psQ (qI 0) (qI 2) (qI 8)
def rsB : IT := .a2 2 (psQ (qI 4) (qI 6) (qI 8)) (sgI 10)
def rsX : IT2 := qop 1 (qop 0 (qop 2 (qI 0) (qI 0)) (qop 2 (qop 2 (qI 2) (qI 2)) (qI 8))) (qop 2 (qI 10) (qop 0 (qop 2 (qI 4) (qI 4)) (qop 2 (qop 2 (qI 6) (qI 6)) (qI 8))))
def rsY : IT2 := qop 1 (qop 2 (qI 0) (qI 2)) (qop 2 (qI 10) (qop 2 (qI 4) (qI 6)))
def rsC : IT := .a2 2 rsA (psQ rsX (qop 0 rsY rsY) (qI 8))
def rsTree : Tree := .ite (.eq rsA (.lit 0)) (lfTw rsB) (.ite (.eq rsB (.lit 0)) (lfTw rsA) (.ite (.eq rsA rsB) (lfTw rsA) (lfTw rsC)))
def rsG : Asm := [(.lt (sgI 8) (.lit 0), false), (.lt (sgI 10) (.lit 0), false)]
theorem rs_walk : funE cRs Tryz.f83 rsG [aQd] = some rsTree := by kernel_rfl
theorem rs_neg1 : isNlo 0 (funE cRs Tryz.f83 [(.lt (sgI 8) (.lit 0), true)] [aQd]) = true := by kernel_rfl
theorem rs_neg2 : isNlo 0 (funE cRs Tryz.f83 [(.lt (sgI 8) (.lit 0), false), (.lt (sgI 10) (.lit 0), true)] [aQd]) = true := by kernel_rfl
theorem rs_pick {E : Env} {A B C D M N : Rat} (rA : RepQ E (qI 0) A) (rB : RepQ E (qI 2) B) (rC : RepQ E (qI 4) C) (rD : RepQ E (qI 6) D) (rM : RepQ E (qI 8) M) (rN : RepQ E (qI 10) N) (hM : 0 ≤ M) : ∃ t, rsTree.pick E = [(false, [.n .i64 t])] ∧ t.den E = sg4 A B C D M N := by
  have dA : rsA.den E = sg2 A B M := psQ_den rA rB rM hM
  have dB : rsB.den E = sg2 C D M * sgQ' N := by
    show (psQ (qI 4) (qI 6) (qI 8)).den E * (sgI 10).den E = _
    rw [psQ_den rC rD rM hM, sgQ'_num, ← rN.1]
    rfl
  have m : ∀ {p q : IT2} {a b : Rat}, RepQ E p a → RepQ E q b → RepQ E (qop 2 p q) (a * b) := fun h1 h2 => rep_op (f := 2) (by omega) h1 h2
  have s : ∀ {p q : IT2} {a b : Rat}, RepQ E p a → RepQ E q b → RepQ E (qop 0 p q) (a + b) := fun h1 h2 => rep_op (f := 0) (by omega) h1 h2
  have d : ∀ {p q : IT2} {a b : Rat}, RepQ E p a → RepQ E q b → RepQ E (qop 1 p q) (a - b) := fun h1 h2 => rep_op (f := 1) (by omega) h1 h2
  have rX : RepQ E rsX (A * A + B * B * M - N * (C * C + D * D * M)) := d (s (m rA rA) (m (m rB rB) rM)) (m rN (s (m rC rC) (m (m rD rD) rM)))
  have rY : RepQ E rsY (A * B - N * (C * D)) := d (m rA rB) (m rN (m rC rD))
  have dC : rsC.den E = sg2 A B M * sg2 (A * A + B * B * M - N * (C * C + D * D * M)) ((A * B - N * (C * D)) + (A * B - N * (C * D))) M := by
    show rsA.den E * (psQ rsX (qop 0 rsY rsY) (qI 8)).den E = _
    rw [dA, psQ_den rX (s rY rY) rM hM]
  have e1 : (BT.eq rsA (.lit 0)).den E = decide (sg2 A B M = 0) := by
    show (rsA.den E == 0) = _
    rw [dA, Bool.eq_iff_iff, beq_iff_eq, decide_eq_true_iff]
  have e2 : (BT.eq rsB (.lit 0)).den E = decide (sg2 C D M * sgQ' N = 0) := by
    show (rsB.den E == 0) = _
    rw [dB, Bool.eq_iff_iff, beq_iff_eq, decide_eq_true_iff]
  have e3 : (BT.eq rsA rsB).den E = decide (sg2 A B M = sg2 C D M * sgQ' N) := by
    show (rsA.den E == rsB.den E) = _
    rw [dA, dB, Bool.eq_iff_iff, beq_iff_eq, decide_eq_true_iff]
  unfold sg4 sumSg
  generalize sg2 A B M = x at *
  generalize sg2 C D M * sgQ' N = y at *
  simp only [rsTree, lfTw, Tree.pick, e1, e2, e3, decide_eq_true_eq]
  by_cases h1 : x = 0
  · rw [if_pos h1, if_pos h1]
    exact ⟨_, rfl, dB⟩
  · rw [if_neg h1, if_neg h1]
    by_cases h2 : y = 0
    · rw [if_pos h2, if_pos h2]
      exact ⟨_, rfl, dA⟩
    · rw [if_neg h2, if_neg h2]
      by_cases h3 : x = y
      · rw [if_pos h3, if_pos h3]
        exact ⟨_, rfl, dA⟩
      · rw [if_neg h3, if_neg h3]
        exact ⟨_, rfl, dC⟩
theorem refSign_calls (w : World) (v : Value) (A B C D M N : Rat) (h : IsQs w v [A, B, C, D, M, N]) (l : LimQs 40 [A, B, C, D, M, N]) : Calls Tryz.prog 83 #[v] w (RetN (qsg A B C D M N) w) := by
  obtain ⟨E, hE⟩ : ∃ E, E = qE [A, B, C, D, M, N] := ⟨_, rfl⟩
  have hQ : QEnv E := by rw [hE]; exact qE_ok _
  have rA : RepQ E (qI 0) A := by rw [hE]; exact ⟨rfl, rfl⟩
  have rB : RepQ E (qI 2) B := by rw [hE]; exact ⟨rfl, rfl⟩
  have rC : RepQ E (qI 4) C := by rw [hE]; exact ⟨rfl, rfl⟩
  have rD : RepQ E (qI 6) D := by rw [hE]; exact ⟨rfl, rfl⟩
  have rM : RepQ E (qI 8) M := by rw [hE]; exact ⟨rfl, rfl⟩
  have rN' : RepQ E (qI 10) N := by rw [hE]; exact ⟨rfl, rfl⟩
  have hr := qs6 rA rB rC rD rM rN'
  obtain ⟨vs, rfl, hvs⟩ := h
  have hv : ∀ (i : Nat) (x : AV), [aQd][i]? = some x → ∃ u, [Value.agg vs.toArray][i]? = some u ∧ ∀ β, x.holds E β w u := one_arg rfl rfl fun β => ⟨vs, rfl, (qs_chunks [A, B, C, D, M, N] 0 vs hr).2 ⟨hvs, l⟩⟩
  have d8 : (sgI 8).den E = cmpZ M.num 0 := by show cmpZ (E.i 8) 0 = _; rw [show E.i 8 = M.num from rM.1]
  have d10 : (sgI 10).den E = cmpZ N.num 0 := by show cmpZ (E.i 10) 0 = _; rw [show E.i 10 = N.num from rN'.1]
  have cz : ∀ z : Int, cmpZ z 0 < 0 ↔ z < 0 := fun z => by rcases cmpZ_cases z 0 with ⟨a, e⟩ | ⟨a, e⟩ | ⟨a, e⟩ <;> rw [e] <;> omega
  have fin : ∀ (G : Asm) (x : Int) (T : Tree), G.holds E → funE cRs Tryz.f83 G [aQd] = some T → (∃ t, T.pick E = [(false, [.n .i64 t])] ∧ t.den E = x) → Calls Tryz.prog 83 #[.agg vs.toArray] w (RetN x w) := by
    rintro G x T hG hT ⟨t, ht, hd⟩
    refine (fun_sound mixed (cRs_ok hQ) hG Tryz.func83 (by decide +kernel) hT (by decide +kernel) rfl w [.agg vs.toArray] rfl (fun i u hu => ?_)).mono ?_
    · obtain ⟨c, hc1, hc2⟩ := hv i u hu
      exact ⟨fun _ => 0, c, hc1, hc2 _⟩
    · rintro e w' ⟨β, u, rfl, hh, ex⟩
      rw [ht] at hh
      have hu : u = .int .i64 x := by rw [← hd]; exact one_num.1 hh
      rw [hu]
      exact ⟨rfl, ex⟩
  have fin0 : ∀ (G : Asm), G.holds E → isNlo 0 (funE cRs Tryz.f83 G [aQd]) = true → Calls Tryz.prog 83 #[.agg vs.toArray] w (RetN 0 w) := by
    intro G hG hT
    unfold isNlo at hT
    split at hT
    · rename_i T hTe
      exact fin G 0 T hG hTe ⟨_, isNl_pick hT, rfl⟩
    · cases hT
  unfold qsg
  by_cases hM : M.num < 0
  · rw [if_pos (.inl hM)]
    have g : Asm.holds E [(.lt (sgI 8) (.lit 0), true)] := lt_t (by rw [d8]; exact (cz _).2 hM) no_asm
    exact fin0 _ g rs_neg1
  · by_cases hN : N.num < 0
    · rw [if_pos (.inr hN)]
      have g : Asm.holds E [(.lt (sgI 8) (.lit 0), false), (.lt (sgI 10) (.lit 0), true)] := lt_f (by rw [d8]; exact fun k => hM ((cz _).1 k)) <| lt_t (by rw [d10]; exact (cz _).2 hN) no_asm
      exact fin0 _ g rs_neg2
    · rw [if_neg (by omega)]
      have g : Asm.holds E rsG := lt_f (by rw [d8]; exact fun k => hM ((cz _).1 k)) <| lt_f (by rw [d10]; exact fun k => hN ((cz _).1 k)) no_asm
      exact fin _ _ _ g rs_walk (rs_pick rA rB rC rD rM rN' (Rat.num_nonneg.1 (by omega)))
end Go.Proofs.YtifeacfljfmnpaaGreat
end

section
set_option maxRecDepth 100000
namespace Go.Proofs.YtifeacfljfmnpaaGreat
open Go.RowKit
def t6 : List IT2 → List Chunk → Bool
  | [], [] => true
  | t :: ts, .int x _ :: .int y _ :: cs => x.beq t.1 && (y.beq t.2 && t6 ts cs)
  | _, _ => false
def c6 (ts : List IT2) : List AV → Bool
  | [.val true cs] => t6 ts cs
  | _ => false
def Reps (E : Env) : List IT2 → List Rat → Prop
  | [], [] => True
  | t :: ts, q :: qs => RepQ E t q ∧ Reps E ts qs
  | _, _ => False
theorem t6_holds {E : Env} {w : World} : ∀ {ts : List IT2} {cs : List Chunk} {qs : List Rat} {vs : List Value}, Reps E ts qs → t6 ts cs = true → chunks E w cs vs → RatsQ w vs qs
  | [], cs, [], vs, _, h, hc => by
    unfold t6 at h
    split at h
    · exact hc
    · contradiction
    · cases h
  | [], _, _ :: _, _, hr, _, _ => hr.elim
  | _ :: _, _, [], _, hr, _, _ => hr.elim
  | t :: ts, cs, q :: qs, vs, hr, h, hc => by
    unfold t6 at h
    split at h
    · contradiction
    · rename_i t' ts' x l y m cs' e
      cases e
      simp only [Bool.and_eq_true] at h
      obtain ⟨h1, h2, h3⟩ := h
      have e1 := IT.eq_of_beq h1
      have e2 := IT.eq_of_beq h2
      subst e1 e2
      obtain ⟨x, r, rfl, k1, k2⟩ := (two_chunks hr.1).1 hc
      exact ⟨x, r, rfl, k1.1, t6_holds hr.2 h3 k2⟩
    · cases h
theorem known6 {E : Env} {f : Nat} {ts : List IT2} {qs : List Rat} {z : Int} (hr : Reps E ts qs) (h : ∀ (w : World) (v : Value), IsQs w v qs → Calls Tryz.prog f #[v] w (RetN z w)) : KnownQ E f (c6 ts) (rNq z) := by
  refine ⟨?_, fun x off e => by cases e⟩
  intro args hc' β w vs hv hl
  unfold c6 at hc'
  split at hc'
  · obtain ⟨v, rfl, us, rfl, h1⟩ := args1 hv hl
    refine (h w _ ⟨us, rfl, t6_holds hr hc' h1⟩).mono ?_
    rintro e w' ⟨rfl, ex⟩
    exact ⟨_, rfl, fun β w' => one_num.2 rfl, ex⟩
  · cases hc'
def cfgZr (C : Cfg) (l : List (TypeId × List Chunk)) : Cfg := { C with zero := fun t => match findR l t with | some e => some e | none => C.zero t }
theorem cfgZr_ok {E : Env} {C : Cfg} {l : List (TypeId × List Chunk)} (h : CfgOK Tryz.prog E C) (hl : ZeroOK Tryz.prog l) : CfgOK Tryz.prog E (cfgZr C l) := by
  refine ⟨?_, h.ag, h.fld, h.flds, h.bool, h.row, h.arr, h.calls, h.nptr, h.body, h.slc, h.strT, h.cnv, h.apd, h.eq2⟩
  intro t cs ht w
  simp only [cfgZr] at ht
  split at ht
  · rename_i e' he
    injection ht with ht
    subst ht
    exact hl.all _ (findR_spec he) E w
  · exact h.zero t cs ht w
def zInt2 : List Chunk := [.int (.lit 0) 0, .int (.lit 0) 0]
theorem LimQ.mul' {l m k j : Nat} {a b : Rat} (h1 : Lim l a.num) (h2 : Lim m (a.den : Int)) (h3 : Lim k b.num) (h4 : Lim j (b.den : Int)) : Lim (l + k) (a * b).num ∧ Lim (m + j) ((a * b).den : Int) := by
  obtain ⟨m1, m2⟩ := mul_dq a b
  rw [← m1, ← m2]
  exact ⟨(h1.natAbs_le (dq_abs _ _)).mul (h3.natAbs_le (dq_abs _ _)), (h2.natAbs_le (dq_abs _ _)).mul (h4.natAbs_le (dq_abs _ _))⟩
theorem LimQ.sub' {l m k j n : Nat} {a b : Rat} (h1 : Lim l a.num) (h2 : Lim m (a.den : Int)) (h3 : Lim k b.num) (h4 : Lim j (b.den : Int)) (e1 : l + j < n) (e2 : k + m < n) : Lim n (a - b).num ∧ Lim (m + j) ((a - b).den : Int) := by
  rw [Rat.sub_eq_add_neg]
  have h3' : Lim k (-b).num := by rw [Rat.neg_num]; exact h3.neg
  have h4' : Lim j ((-b).den : Int) := h4
  obtain ⟨m1, m2⟩ := sum_dq a (-b) _ rfl
  rw [← m1, ← m2]
  refine ⟨Lim.natAbs_le ?_ (dq_abs _ _), (h2.natAbs_le (dq_abs _ _)).mul (h4'.natAbs_le (dq_abs _ _))⟩
  exact ((h1.mul (h4'.natAbs_le (dq_abs _ _))).add2 (h3'.mul (h2.natAbs_le (dq_abs _ _)))).mono (by omega)
end Go.Proofs.YtifeacfljfmnpaaGreat
end

section
set_option maxRecDepth 100000
namespace Go.Proofs.YtifeacfljfmnpaaGreat
open Go.RowKit
theorem qsg_range (A B C D M N : Rat) : qsg A B C D M N = 1 ∨ qsg A B C D M N = 0 ∨ qsg A B C D M N = -1 := by
  unfold qsg
  split
  · exact .inr (.inl rfl)
  · exact sg4_range _ _ _ _ _ _
end Go.Proofs.YtifeacfljfmnpaaGreat
end

section
set_option maxRecDepth 100000
namespace Go.Proofs.YtifeacfljfmnpaaGreat
open Go.RowKit
noncomputable def iC2 : List (Nat × Func) := [(204, Tryz.f204)]
noncomputable def tabSb : List (Nat × Con) := tabR2 ++ (tabInt ++ tabT)
theorem tabSb_ok {E : Env} (hE : QEnv E) : TabOK Tryz.prog E tabSb := TabOK.app tabR2_ok (TabOK.app tabInt_ok (tabT_ok hE))
def aRo (i : Nat) : AV := .val true (rt (qI i) (qI (i + 2)) (qI (i + 4)) 9)
def cmTs : List IT2 := [qop 1 (qI 0) (qI 6), qI 2, (.a1 0 (.var 8), .var 9), (.lit 0, .lit 1), qI 4, qI 10]
theorem cm_reps {E : Env} {a b c a' b' c' : Rat} (h1 : RepQ E (qI 0) a) (h2 : RepQ E (qI 2) b) (h3 : RepQ E (qI 4) c) (h4 : RepQ E (qI 6) a') (h5 : RepQ E (qI 8) b') (h6 : RepQ E (qI 10) c') : Reps E cmTs [a - a', b, -b', 0, c, c'] := by
  refine ⟨rep_op (f := 1) (by omega) h1 h4, h2, ⟨?_, ?_⟩, ⟨rfl, rfl⟩, h3, h6, trivial⟩
  · show -(E.i 8) = _
    rw [Rat.neg_num, show E.i 8 = b'.num from h5.1]
  · exact h5.2
theorem sub_lims {a b c a' b' c' : Rat} (l : LimR 9 a b c) (l' : LimR 9 a' b' c') : LimQs 40 [a - a', b, -b', 0, c, c'] := by
  have a1 := LimQ.sub' (n := 20) l.1.1 l.1.2 l'.1.1 l'.1.2 (by omega) (by omega)
  have a2 : Lim 9 (-b').num := by rw [Rat.neg_num]; exact l'.2.1.1.neg
  have a3 : Lim 9 ((-b').den : Int) := l'.2.1.2
  intro x hx
  simp only [List.mem_cons, List.not_mem_nil, or_false] at hx
  rcases hx with rfl | rfl | rfl | rfl | rfl | rfl
  · exact ⟨a1.1.mono (by omega), a1.2.mono (by omega)⟩
  · exact ⟨l.2.1.1.mono (by omega), l.2.1.2.mono (by omega)⟩
  · exact ⟨a2.mono (by omega), a3.mono (by omega)⟩
  · refine ⟨?_, ?_⟩ <;> unfold Lim <;> decide +kernel
  · exact ⟨l.2.2.1.mono (by omega), l.2.2.2.mono (by omega)⟩
  · exact ⟨l'.2.2.1.mono (by omega), l'.2.2.2.mono (by omega)⟩
def cmR (a b c a' b' c' : Rat) : Int := qsg (a - a') b (-b') 0 c c'
theorem two_roots {E : Env} {w : World} {v u : Value} {a b c a' b' c' : Rat} (h1 : RepQ E (qI 0) a) (h2 : RepQ E (qI 2) b) (h3 : RepQ E (qI 4) c) (h4 : RepQ E (qI 6) a') (h5 : RepQ E (qI 8) b') (h6 : RepQ E (qI 10) c') (hv : IsRoot w v a b c) (hu : IsRoot w u a' b' c') (l : LimR 9 a b c) (l' : LimR 9 a' b' c') :
    ∀ (i : Nat) (x : AV), [aRo 0, aRo 6][i]? = some x → ∃ β y, [v, u][i]? = some y ∧ x.holds E β w y := by
  intro i x hx
  match i, hx with
  | 0, hx => injection hx with hx; subst hx; exact ⟨fun _ => 0, v, rfl, (one_root (A := qI 0) (B := qI 2) (C := qI 4) h1 h2 h3).2 ⟨hv, l⟩⟩
  | 1, hx => injection hx with hx; subst hx; exact ⟨fun _ => 0, u, rfl, (one_root (A := qI 6) (B := qI 8) (C := qI 10) h4 h5 h6).2 ⟨hu, l'⟩⟩
noncomputable def cCm (z : Int) : Cfg := cfgI (cfgOf ((83, kKq (c6 cmTs) (rNq z) kNoQ) :: tabSb)) (cfgOf tabSb) [(84, Tryz.f84)]
theorem rcm_walk : (sgs.all fun z => isNlo z (funE (cCm z) Tryz.f17 [] [aRo 0, aRo 6])) = true := by kernel_rfl
theorem refCmp_calls (w : World) (v u : Value) (a b c a' b' c' : Rat) (hv : IsRoot w v a b c) (hu : IsRoot w u a' b' c') (l : LimR 9 a b c) (l' : LimR 9 a' b' c') :
    Calls Tryz.prog 17 #[v, u] w (RetN (cmR a b c a' b' c') w) := by
  obtain ⟨E, hE⟩ : ∃ E, E = qE [a, b, c, a', b', c'] := ⟨_, rfl⟩
  have hQ : QEnv E := by rw [hE]; exact qE_ok _
  have r1 : RepQ E (qI 0) a := by rw [hE]; exact ⟨rfl, rfl⟩
  have r2 : RepQ E (qI 2) b := by rw [hE]; exact ⟨rfl, rfl⟩
  have r3 : RepQ E (qI 4) c := by rw [hE]; exact ⟨rfl, rfl⟩
  have r4 : RepQ E (qI 6) a' := by rw [hE]; exact ⟨rfl, rfl⟩
  have r5 : RepQ E (qI 8) b' := by rw [hE]; exact ⟨rfl, rfl⟩
  have r6 : RepQ E (qI 10) c' := by rw [hE]; exact ⟨rfl, rfl⟩
  have hT : TabOK Tryz.prog E ((83, kKq (c6 cmTs) (rNq (cmR a b c a' b' c')) kNoQ) :: tabSb) := .cons (kKq_ok (known6 (cm_reps r1 r2 r3 r4 r5 r6) fun w v h => refSign_calls w v _ _ _ _ _ _ h (sub_lims l l')) (kNoQ_ok ⟨_, Tryz.func83, by decide +kernel, by kernel_rfl⟩)) (tabSb_ok hQ)
  have hC : CfgOK Tryz.prog E (cCm (cmR a b c a' b' c')) := cfgI_ok mixed (cfg_ok hT) (cfg_ok (tabSb_ok hQ)) (fun _ => trivial) (.cons Tryz.func84 (by decide +kernel) (by kernel_rfl) .nil)
  have hW := List.all_eq_true.1 rcm_walk _ (sgs_mem (qsg_range (a - a') b (-b') 0 c c'))
  unfold isNlo at hW
  split at hW
  · rename_i T hTe
    refine (fun_sound mixed hC no_asm Tryz.func17 (by decide +kernel) hTe (by decide +kernel) rfl w [v, u] rfl (two_roots r1 r2 r3 r4 r5 r6 hv hu l l')).mono ?_
    rintro e w' ⟨β, x, rfl, hh, ex⟩
    rw [isNl_pick hW] at hh
    rw [show x = _ from one_num.1 hh]
    exact ⟨rfl, ex⟩
  · cases hW
end Go.Proofs.YtifeacfljfmnpaaGreat
end

section
set_option maxRecDepth 100000
namespace Go.Proofs.YtifeacfljfmnpaaGreat
open Go.RowKit
noncomputable def tabCf (b d : Bool) : List (Nat × Con) := (190, kKq (chkRw 0 2 4) (resQ (oL b)) (kKq (chkRw 6 8 10) (resQ (oF d)) kNoQ)) :: tabFq
noncomputable def cCf0 (b d : Bool) : Cfg := cfgN (cfgOf (tabCf b d)) needFq
noncomputable def cCf1 (b d : Bool) : Cfg := cfgI (cCf0 b d) (cCf0 b d) [(238, Tryz.f238)]
noncomputable def cCf (b d : Bool) : Cfg := cfgI (cCf1 b d) (cCf1 b d) [(194, Tryz.f194)]
def cfL : IT := .a2 0 (.var 12) (.a1 0 (.var 18))
def cfH : IT := .a2 0 (.var 14) (.a1 0 (.var 16))
def tsCf : Asm := [(exT cfL cfH, true)]
noncomputable def cfW (b d : Bool) (z : Int) (c : Bool) (G : Asm) : Bool := isIBo z c (funE (cCf b d) Tryz.f144 G [aRo 0, aRo 6])
theorem cf_none : (cfW false false 0 false [] && (cfW false true 0 false [] && cfW true false 0 false [])) = true := by kernel_rfl
theorem cf_no : ((List.range 1).all fun i => cfW true true 0 false (gLF ++ flipAt tsCf i)) = true := by kernel_rfl
theorem cf_all : ((List.range 4).all fun n => cfW true true (sgnN n) (decide (n < 3)) (gLF ++ (tsCf ++ sgnG cfL cfH n))) = true := by kernel_rfl
structure FastC (a b c a' b' c' : Rat) (z : Int) (t : Bool) : Prop where
  calls : ∀ (w : World) (v u : Value), IsRoot w v a b c → IsRoot w u a' b' c' → LimR 9 a b c → LimR 9 a' b' c' → Calls Tryz.prog 144 #[v, u] w (RetIB z t w)
  right : t = true → 0 ≤ c → 0 ≤ c' → z = cmR a b c a' b' c'
  zero : t = false → z = 0
theorem cmR_sg {a b c a' b' c' : Rat} {m n : Sq} (hc : 0 ≤ c) (hc' : 0 ≤ c') (hm : IsRt c m) (hn : IsRt c' n) : HasSg (fun k => (a + b * m k) - (a' + b' * n k)) (cmR a b c a' b' c') := by
  have h := sqv4 (A := a - a') (B := b) (C := -b') (D := 0) hc hc' hm hn
  have e : cmR a b c a' b' c' = sg4 (a - a') b (-b') 0 c c' := if_neg (by have := Rat.num_nonneg.2 hc; have := Rat.num_nonneg.2 hc'; omega)
  rw [e]
  have f : (fun k => (a + b * m k) - (a' + b' * n k)) = fun k => a - a' + b * m k + (-b' + 0 * m k) * n k := funext fun k => by grind
  rw [f]
  exact h
theorem fast_c (a b c a' b' c' : Rat) : ∃ z t, FastC a b c a' b' c' z t := by
  obtain ⟨u1, hu1⟩ := root_q a b c
  obtain ⟨u2, hu2⟩ := root_q a' b' c'
  obtain ⟨s1, L1, H1, e1⟩ := opt_ifq u1
  obtain ⟨s2, L2, H2, e2⟩ := opt_ifq u2
  obtain ⟨E, hE⟩ : ∃ E, E = qE [a, b, c, a', b', c', (L1 : Rat), (H1 : Rat), (L2 : Rat), (H2 : Rat)] := ⟨_, rfl⟩
  have hQ : QEnv E := by rw [hE]; exact qE_ok _
  have r1 : RepQ E (qI 0) a := by rw [hE]; exact ⟨rfl, rfl⟩
  have r2 : RepQ E (qI 2) b := by rw [hE]; exact ⟨rfl, rfl⟩
  have r3 : RepQ E (qI 4) c := by rw [hE]; exact ⟨rfl, rfl⟩
  have r4 : RepQ E (qI 6) a' := by rw [hE]; exact ⟨rfl, rfl⟩
  have r5 : RepQ E (qI 8) b' := by rw [hE]; exact ⟨rfl, rfl⟩
  have r6 : RepQ E (qI 10) c' := by rw [hE]; exact ⟨rfl, rfl⟩
  have e12 : E.i 12 = L1 := by rw [hE]; exact qE_int (i := 6) rfl
  have e14 : E.i 14 = H1 := by rw [hE]; exact qE_int (i := 7) rfl
  have e16 : E.i 16 = L2 := by rw [hE]; exact qE_int (i := 8) rfl
  have e18 : E.i 18 = H2 := by rw [hE]; exact qE_int (i := 9) rfl
  have o1 := e1.trans (oL_map (E := E) (s := s1) e12 e14)
  have o2 := e2.trans (oF_map (E := E) (s := s2) e16 e18)
  have hC : CfgOK Tryz.prog E (cCf s1 s2) := by
    have hT : TabOK Tryz.prog E (tabCf s1 s2) := .cons (kKq_ok (knownq_root r1 r2 r3 hu1.prog o1) (kKq_ok (knownq_root r4 r5 r6 hu2.prog o2) (kNoQ_ok ⟨_, Tryz.func190, by decide +kernel, by kernel_rfl⟩))) (tabFq_ok hQ)
    have h0 : CfgOK Tryz.prog E (cCf0 s1 s2) := cfgN_ok (cfg_ok hT)
    have h1 : CfgOK Tryz.prog E (cCf1 s1 s2) := cfgI_ok mixed h0 h0 (fun _ => trivial) (.cons Tryz.func238 (by decide +kernel) (by kernel_rfl) .nil)
    exact cfgI_ok mixed h1 h1 (fun _ => trivial) (.cons Tryz.func194 (by decide +kernel) (by kernel_rfl) .nil)
  have fin : ∀ (G : Asm) (z : Int) (t : Bool), G.holds E → cfW s1 s2 z t G = true → ∀ (w : World) (v u : Value), IsRoot w v a b c → IsRoot w u a' b' c' → LimR 9 a b c → LimR 9 a' b' c' → Calls Tryz.prog 144 #[v, u] w (RetIB z t w) := by
    intro G z t hG hT w v u hv hu l l'
    unfold cfW isIBo at hT
    split at hT
    · rename_i T hT'
      refine (fun_sound mixed hC hG Tryz.func144 (by decide +kernel) hT' (by decide +kernel) rfl w [v, u] rfl (two_roots r1 r2 r3 r4 r5 r6 hv hu l l')).mono ?_
      rintro e w' ⟨β, x, rfl, hh, ex⟩
      rw [isIB_pick hT] at hh
      rw [IB_out hh]
      exact ⟨rfl, ex⟩
    · cases hT
  have hno := cf_none
  rw [Bool.and_eq_true, Bool.and_eq_true] at hno
  cases s1 with
  | false =>
    cases s2 with
    | false => exact ⟨0, false, fin _ _ _ no_asm hno.1, (fun h => by cases h), fun _ => rfl⟩
    | true => exact ⟨0, false, fin _ _ _ no_asm hno.2.1, (fun h => by cases h), fun _ => rfl⟩
  | true =>
    cases s2 with
    | false => exact ⟨0, false, fin _ _ _ no_asm hno.2.2, (fun h => by cases h), fun _ => rfl⟩
    | true =>
      obtain ⟨q1, in1⟩ := hu1.holds L1 H1 e1
      obtain ⟨q2, in2⟩ := hu2.holds L2 H2 e2
      have gxy : gLF.holds E := asm_app (gTy_ok e12 e14 q1) (gTy_ok e16 e18 q2)
      rcases first_bad (E := E) tsCf with hall | ⟨i, hi, hbad⟩
      · have dl : cfL.den E = L1 + -H2 := by
          show E.i 12 + -(E.i 18) = _
          rw [e12, e18]
        have dh : cfH.den E = H1 + -L2 := by
          show E.i 14 + -(E.i 16) = _
          rw [e14, e16]
        obtain ⟨n, hn, hg, hk⟩ := sgnG_ok dl dh
        refine ⟨sgnN n, decide (n < 3), fin _ _ _ (asm_app gxy <| asm_app hall hg) (List.all_eq_true.1 cf_all n (List.mem_range.2 hn)), fun h hM hN => ?_, fun h => ?_⟩
        rotate_left
        · have h4 := of_decide_eq_false h
          match n, hn, h4 with
          | 3, _, _ => rfl
          | 0, _, h4 => exact absurd (by omega) h4
          | 1, _, h4 => exact absurd (by omega) h4
          | 2, _, h4 => exact absurd (by omega) h4
        have h3 := of_decide_eq_true h
        obtain ⟨m, hm⟩ := exists_rt hM
        obtain ⟨k, hk2⟩ := exists_rt hN
        have hin := (in1 m hM hm).add (in2 k hN hk2).neg
        refine (ivSg_spec (hk h3) hin).unique ?_
        have := cmR_sg (a := a) (b := b) (a' := a') (b' := b') hM hN hm hk2
        simpa only [Rat.sub_eq_add_neg] using this
      · exact ⟨0, false, fin _ _ _ (asm_app gxy hbad) (List.all_eq_true.1 cf_no i (List.mem_range.2 hi)), (fun h => by cases h), fun _ => rfl⟩
end Go.Proofs.YtifeacfljfmnpaaGreat
end

section
set_option maxRecDepth 100000
namespace Go.Proofs.YtifeacfljfmnpaaGreat
open Go.RowKit
noncomputable def cId : Cfg := cfgI (cfgOf tabSb) (cfgOf tabSb) [(201, Tryz.f201)]
def eqz (i j : Nat) : BT := .eq (.a2 3 (.var i) (.var j)) (.lit 0)
def idT : List (Nat × Nat) → Tree
  | [] => .leaf [(false, [.b (.lit true)])]
  | [p] => .leaf [(false, [.b (eqz p.1 p.2)])]
  | p :: l => .ite (eqz p.1 p.2) (idT l) (.leaf [(false, [.b (.lit false)])])
def idL : List (Nat × Nat) := [(0, 6), (1, 7), (2, 8), (3, 9), (4, 10), (5, 11)]
theorem id_walk : funE cId Tryz.f145 [] [aRo 0, aRo 6] = some (idT idL) := by kernel_rfl
theorem eqz_den {E : Env} {i j : Nat} : (eqz i j).den E = true ↔ E.i i = E.i j := by
  show (cmpZ (E.i i) (E.i j) == 0) = true ↔ _
  rw [beq_iff_eq]
  rcases cmpZ_cases (E.i i) (E.i j) with ⟨a, e⟩ | ⟨a, e⟩ | ⟨a, e⟩ <;> rw [e] <;> omega
theorem id_pick {E : Env} : ∀ l : List (Nat × Nat), ∃ t, (idT l).pick E = [(false, [.b t])] ∧ (t.den E = true ↔ ∀ p ∈ l, E.i p.1 = E.i p.2)
  | [] => ⟨_, rfl, ⟨fun _ p hp => (by cases hp), fun _ => rfl⟩⟩
  | [p] => ⟨_, rfl, by rw [eqz_den]; simp⟩
  | p :: q :: l => by
    obtain ⟨t, h1, h2⟩ := id_pick (E := E) (q :: l)
    by_cases h : (eqz p.1 p.2).den E = true
    · refine ⟨t, ?_, ?_⟩
      · simp only [idT, Tree.pick, h, if_true]
        exact h1
      · rw [h2, List.forall_mem_cons (a := p)]
        exact ⟨fun k => ⟨eqz_den.1 h, k⟩, fun k => k.2⟩
    · refine ⟨.lit false, ?_, ?_⟩
      · simp only [idT, Tree.pick, h]
        rfl
      · rw [List.forall_mem_cons (a := p)]
        exact ⟨fun k => (by cases k), fun k => absurd (eqz_den.2 k.1) h⟩
def RetBl (b : Bool) (w : World) (e : Ending) (w' : World) : Prop := e = .returned (.bool b) ∧ Ext w w'
theorem ident_calls (w : World) (v u : Value) (a b c a' b' c' : Rat) (hv : IsRoot w v a b c) (hu : IsRoot w u a' b' c') (l : LimR 9 a b c) (l' : LimR 9 a' b' c') :
    Calls Tryz.prog 145 #[v, u] w (RetBl (decide (a = a' ∧ b = b' ∧ c = c')) w) := by
  obtain ⟨E, hE⟩ : ∃ E, E = qE [a, b, c, a', b', c'] := ⟨_, rfl⟩
  have hQ : QEnv E := by rw [hE]; exact qE_ok _
  have r1 : RepQ E (qI 0) a := by rw [hE]; exact ⟨rfl, rfl⟩
  have r2 : RepQ E (qI 2) b := by rw [hE]; exact ⟨rfl, rfl⟩
  have r3 : RepQ E (qI 4) c := by rw [hE]; exact ⟨rfl, rfl⟩
  have r4 : RepQ E (qI 6) a' := by rw [hE]; exact ⟨rfl, rfl⟩
  have r5 : RepQ E (qI 8) b' := by rw [hE]; exact ⟨rfl, rfl⟩
  have r6 : RepQ E (qI 10) c' := by rw [hE]; exact ⟨rfl, rfl⟩
  have hC : CfgOK Tryz.prog E cId := cfgI_ok mixed (cfg_ok (tabSb_ok hQ)) (cfg_ok (tabSb_ok hQ)) (fun _ => trivial) (.cons Tryz.func201 (by decide +kernel) (by kernel_rfl) .nil)
  obtain ⟨t, ht, hd⟩ := id_pick (E := E) idL
  refine (fun_sound mixed hC no_asm Tryz.func145 (by decide +kernel) id_walk (by decide +kernel) rfl w [v, u] rfl (two_roots r1 r2 r3 r4 r5 r6 hv hu l l')).mono ?_
  rintro e w' ⟨β, x, rfl, hh, ex⟩
  rw [ht] at hh
  have hx := one_bool.1 hh
  refine ⟨?_, ex⟩
  rw [hx]
  have key : t.den E = decide (a = a' ∧ b = b' ∧ c = c') := by
    rw [Bool.eq_iff_iff, hd, decide_eq_true_iff]
    have s : ∀ {i j : Nat} {x y : Rat}, RepQ E (qI i) x → RepQ E (qI j) y → ((E.i i = E.i j ∧ E.i (i + 1) = E.i (j + 1)) ↔ x = y) := by
      intro i j x y hx hy
      rw [show E.i i = x.num from hx.1, show E.i j = y.num from hy.1, show E.i (i + 1) = (x.den : Int) from hx.2, show E.i (j + 1) = (y.den : Int) from hy.2]
      exact ⟨fun k => Rat.ext k.1 (Int.ofNat.inj k.2), fun k => by rw [k]; exact ⟨rfl, rfl⟩⟩
    rw [← s r1 r4, ← s r2 r5, ← s r3 r6]
    simp only [idL, List.forall_mem_cons, List.not_mem_nil, false_imp_iff, implies_true, and_true, and_assoc]
  rw [key]
structure KnownR (E : Env) (f : Nat) (chk : List AV → Bool) (r : AV) : Prop where
  calls : ∀ args, chk args = true → ∀ (β : Nat → Nat) (w : World) (vs : List Value), (∀ (i : Nat) (x : AV), args[i]? = some x → ∃ v, vs[i]? = some v ∧ x.holds E β w v) → vs.length = args.length → Calls Tryz.prog f vs.toArray w fun e w' => ∃ v, e = .returned v ∧ (∀ β, r.holds E β w' v) ∧ Ext w w'
  np : ∀ x off, r ≠ .ptr x off
theorem kKr_ok {E : Env} {f : Nat} {chk : List AV → Bool} {r : AV} {k : Con} (h : KnownR E f chk r) (hk : ConOK Tryz.prog E f k) : ConOK Tryz.prog E f (kKq chk r k) := by
  refine ⟨?_, ?_, hk.body⟩
  · intro args G s hs hG β w vs hv hl
    unfold kKq at hs
    split at hs
    · rename_i hc
      injection hs with hs
      subst hs
      refine (h.calls args hc β w vs hv hl).mono ?_
      rintro e w' ⟨v, rfl, h1, h2⟩
      exact ⟨v, rfl, h1 _, h2⟩
    · exact hk.calls args G s hs hG β w vs hv hl
  · intro args G s hs x off
    unfold kKq at hs
    split at hs
    · injection hs with hs
      subst hs
      exact h.np x off
    · exact hk.nptr args G s hs x off
end Go.Proofs.YtifeacfljfmnpaaGreat
end

section
set_option maxRecDepth 100000
namespace Go.Proofs.YtifeacfljfmnpaaGreat
open Go.RowKit
def sqG (b : Bool) : BT × Bool := (.and (sqT (qv 2).1) (sqT (qv 2).2), b)
noncomputable def tbV : List (Nat × Con) := [(124, kVl), (18, kVl), (125, kSqQ), (73, kSqQ)]
theorem tbV_ok {E : Env} (hE : QEnv E) : TabOK Tryz.prog E tbV :=
  .cons (kVl_ok hE (fun w v s1 s2 xs1 xs2 h l1 l2 => valid_rat_calls w v s1 s2 xs1 xs2 h l1 l2) ⟨_, Tryz.func124, by decide +kernel, by kernel_rfl⟩)
    (.cons (kVl_ok hE (fun w v s1 s2 xs1 xs2 h l1 l2 => rvalid_rat_calls w v s1 s2 xs1 xs2 h l1 l2) ⟨_, Tryz.func18, by decide +kernel, by kernel_rfl⟩)
      (.cons (kSqQ_ok (fun w v n d h l m => sqrtQ_calls w v n d h l m) ⟨_, Tryz.func125, by decide +kernel, by kernel_rfl⟩)
        (.cons (kSqQ_ok (fun w v n d h l m => rsqrtQ_calls w v n d h l m) ⟨_, Tryz.func73, by decide +kernel, by kernel_rfl⟩) .nil)))
def lfB (t : BT) : Tree := .leaf [(false, [.b t])]
theorem lfB_out {E : Env} {β : Nat → Nat} {w : World} {v : Value} {t : BT} (h : (toAV ((lfB t).pick E)).holds E β w v) : v = .bool (t.den E) := one_bool.1 h
theorem sq_test {c : Rat} (h : 0 < c) : (sqB c.num && sqB (c.den : Int)) = (sqz c.num && sqz (c.den : Int)) := by
  have := (num_pos_iff c).2 h
  rw [sqz_sqB (by omega), sqz_sqB (by have := c.den_pos; omega)]
section
variable {w : World} {v : Value} {a b c : Rat}
theorem sqG_den (x : Bool) : (sqG x).1.den (qE [a, b, c]) = (sqB c.num && sqB (c.den : Int)) := by
  show ((sqT (qv 2).1).den _ && (sqT (qv 2).2).den _) = _
  rw [sqT_den, sqT_den]; rfl
theorem gtz_den {E : Env} {p : IT2} {q : Rat} (h : RepQ E p q) : (BT.lt (.lit 0) (sgt p)).den E = decide (0 < q) := by
  show decide (0 < (sgt p).den E) = _
  rw [sgt_den h, Bool.eq_iff_iff, decide_eq_true_iff, decide_eq_true_iff]
  rcases sgQ_cases q with ⟨k, e⟩ | ⟨k, e⟩ | ⟨k, e⟩ <;> rw [e] <;> constructor <;> intro j <;> first | omega | grind
theorem Rdb_cases (b c : Rat) : Rdb b c = if b = 0 then decide (c = 0) else if 0 < c then !(sqB c.num && sqB (c.den : Int)) else false := by
  have n1 : b.num = 0 ↔ b = 0 := Rat.num_eq_zero
  have n2 : c.num = 0 ↔ c = 0 := Rat.num_eq_zero
  have n3 := num_pos_iff c
  unfold Rdb
  by_cases hb : b = 0
  · rw [if_pos hb]
    subst hb
    show ((true && (c.num == 0)) || (false && _)) = _
    rw [Bool.true_and, Bool.false_and, Bool.or_false, Bool.eq_iff_iff, beq_iff_eq, decide_eq_true_iff, n2]
  · rw [if_neg hb]
    have e : (b.num == 0) = false := by rw [beq_eq_false_iff_ne]; exact fun k => hb (n1.1 k)
    have e2 : (b.num != 0) = true := by rw [bne_iff_ne]; exact fun k => hb (n1.1 k)
    rw [e, e2, Bool.false_and, Bool.false_or, Bool.true_and]
    by_cases hc : 0 < c
    · rw [if_pos hc, decide_eq_true (n3.2 hc), Bool.true_and, sq_test hc]
    · rw [if_neg hc, decide_eq_false (fun k => hc (n3.1 k)), Bool.false_and]
def vaR (b : Bool) : Tree := .ite (zt (qv 1)) (lfB (zt (qv 2))) (.ite (zt (qv 2)) (lfB (.lit false)) (.ite (.lt (.lit 0) (sgt (qv 2))) (lfB (.lit b)) (lfB (.lit false))))
theorem vaR_out {β : Nat → Nat} {w' : World} {y : Value} {x : Bool} (hx : (sqB c.num && sqB (c.den : Int)) = !x) (hh : (toAV ((vaR x).pick (qE [a, b, c]))).holds (qE [a, b, c]) β w' y) : y = .bool (Rdb b c) := by
  obtain ⟨ra, rb, rc⟩ := rep3 (a := a) (b := b) (c := c)
  unfold vaR at hh
  rw [ite_pick (zt_den rb), ite_pick (zt_den rc), ite_pick (gtz_den rc)] at hh
  rw [Rdb_cases]
  by_cases hb : b = 0
  · rw [decide_eq_true hb, if_pos rfl] at hh
    rw [lfB_out hh, zt_den rc, if_pos hb]
  · rw [decide_eq_false hb, if_neg (by decide)] at hh
    rw [if_neg hb]
    by_cases h0 : c = 0
    · rw [decide_eq_true h0, if_pos rfl] at hh
      rw [lfB_out hh, if_neg (by rw [h0]; decide)]; rfl
    · rw [decide_eq_false h0, if_neg (by decide)] at hh
      by_cases hc : 0 < c
      · rw [decide_eq_true hc, if_pos rfl] at hh
        rw [lfB_out hh, if_pos hc, hx, Bool.not_not]; rfl
      · rw [decide_eq_false hc, if_neg (by decide)] at hh
        rw [lfB_out hh, if_neg hc]; rfl
theorem sqG_holds {x : Bool} (h : (sqB c.num && sqB (c.den : Int)) = x) : Asm.holds (qE [a, b, c]) [sqG x] := by
  intro p hp
  simp only [List.mem_cons, List.not_mem_nil, or_false] at hp
  subst hp
  rw [sqG_den, h]; rfl
theorem r_valid (h : IsRoot w v a b c) (l : LimR 100 a b c) : Calls Tryz.prog 110 #[v] w fun e w' => e = .returned (.bool (Rdb b c)) ∧ Ext w w' := by
  cases hx : (sqB c.num && sqB (c.den : Int)) with
  | true =>
    refine (walk1 (l := [a, b, c]) (tab := tbV) (x := aRl 0 100) (G := [sqG true]) (T := vaR false) Tryz.func110 (by decide +kernel) (tbV_ok (qE_ok _)) (sqG_holds hx) (by kernel_rfl) (by decide +kernel) rfl w v (fun _ => aRl_holds h l)).mono ?_
    rintro e w' ⟨β, y, rfl, hh, ex⟩
    rw [vaR_out (by rw [hx]; rfl) hh]
    exact ⟨rfl, ex⟩
  | false =>
    refine (walk1 (l := [a, b, c]) (tab := tbV) (x := aRl 0 100) (G := [sqG false]) (T := vaR true) Tryz.func110 (by decide +kernel) (tbV_ok (qE_ok _)) (sqG_holds hx) (by kernel_rfl) (by decide +kernel) rfl w v (fun _ => aRl_holds h l)).mono ?_
    rintro e w' ⟨β, y, rfl, hh, ex⟩
    rw [vaR_out (by rw [hx]; rfl) hh]
    exact ⟨rfl, ex⟩
end
section
variable {w : World} {v : Value} {p1 p2 p3 p4 p5 p6 : RI}
end
end Go.Proofs.YtifeacfljfmnpaaGreat
end

section
set_option maxRecDepth 100000
namespace Go.Proofs.YtifeacfljfmnpaaGreat
open Go.RowKit
def kTru : Con
  | [], _ => some (.val false [.b (.lit true)])
  | _, _ => none
def b12 (i l : Nat) : AV := .val true [.int (.var i) l, .int (.var (i + 1)) l, .int (.var (i + 2)) l, .int (.var (i + 3)) l, .int (.var (i + 4)) l, .int (.var (i + 5)) l]
theorem int_conv {E E' : Env} {w : World} {s t : IT} {l m : Nat} {vs : List Value} (h : (Chunk.int s l).holds E w vs) (e : t.den E' = s.den E) (k : l ≤ m) : (Chunk.int t m).holds E' w vs := by
  obtain ⟨x, y, rfl, h1, h2⟩ := h
  exact ⟨x, y, rfl, by rw [e]; exact h1, by rw [e]; exact h2.mono k⟩
def smT6 (x1 x2 x3 x4 x5 x6 y1 y2 y3 y4 y5 y6 : IT) : BT := .and (.and (.eq x1 y1) (.eq x2 y2)) (.and (.and (.eq x3 y3) (.eq x4 y4)) (.and (.eq x5 y5) (.eq x6 y6)))
def kRSm : Con
  | [.val true [.int x1 l1, .int x2 l2, .int x3 l3, .int x4 l4, .int x5 l5, .int x6 l6], .val true [.int y1 m1, .int y2 m2, .int y3 m3, .int y4 m4, .int y5 m5, .int y6 m6]], _ =>
    if (decide (l1 ≤ 100000) && (decide (l2 ≤ 100000) && (decide (l3 ≤ 100000) && (decide (l4 ≤ 100000) && (decide (l5 ≤ 100000) && decide (l6 ≤ 100000)))))) && (decide (m1 ≤ 100000) && (decide (m2 ≤ 100000) && (decide (m3 ≤ 100000) && (decide (m4 ≤ 100000) && (decide (m5 ≤ 100000) && decide (m6 ≤ 100000)))))) then
      some (.val false [.b (smT6 x1 x2 x3 x4 x5 x6 y1 y2 y3 y4 y5 y6)]) else none
  | _, _ => none
theorem kRSm_ok {E : Env} : ConOK Tryz.prog E 37 kRSm := by
  refine ⟨?_, ?_, ⟨_, Tryz.func37, by decide +kernel, by kernel_rfl⟩⟩
  · intro args G r h hG β w vs hv hlen
    unfold kRSm at h
    split at h
    · rename_i x1 l1 x2 l2 x3 l3 x4 l4 x5 l5 x6 l6 y1 m1 y2 m2 y3 m3 y4 m4 y5 m5 y6 m6
      split at h
      · rename_i hcd
        simp only [Bool.and_eq_true, decide_eq_true_iff] at hcd
        obtain ⟨⟨a1, a2, a3, a4, a5, a6⟩, b1, b2, b3, b4, b5, b6⟩ := hcd
        injection h with h
        subst h
        obtain ⟨v, u, rfl, h1, h2⟩ := args2 hv hlen
        obtain ⟨E', hE'⟩ : ∃ E', E' = zE [x1.den E, x2.den E, x3.den E, x4.den E, x5.den E, x6.den E, y1.den E, y2.den E, y3.den E, y4.den E, y5.den E, y6.den E] := ⟨_, rfl⟩
        have k1 : (b12 0 100000).holds E' β w v := by
          obtain ⟨us, rfl, u0, r0, rfl, c0, u1, r1, rfl, c1, u2, r2, rfl, c2, u3, r3, rfl, c3, u4, r4, rfl, c4, u5, r5, rfl, c5, hn⟩ := h1
          subst hE'
          exact ⟨_, rfl, u0, _, rfl, int_conv c0 rfl a1, u1, _, rfl, int_conv c1 rfl a2, u2, _, rfl, int_conv c2 rfl a3, u3, _, rfl, int_conv c3 rfl a4, u4, _, rfl, int_conv c4 rfl a5, u5, _, rfl, int_conv c5 rfl a6, hn⟩
        have k2 : (b12 6 100000).holds E' β w u := by
          obtain ⟨us, rfl, u0, r0, rfl, c0, u1, r1, rfl, c1, u2, r2, rfl, c2, u3, r3, rfl, c3, u4, r4, rfl, c4, u5, r5, rfl, c5, hn⟩ := h2
          subst hE'
          exact ⟨_, rfl, u0, _, rfl, int_conv c0 rfl b1, u1, _, rfl, int_conv c1 rfl b2, u2, _, rfl, int_conv c2 rfl b3, u3, _, rfl, int_conv c3 rfl b4, u4, _, rfl, int_conv c4 rfl b5, u5, _, rfl, int_conv c5 rfl b6, hn⟩
        refine (fun_sound (C := cfgOf [(20, kSame)]) (E := E') (args := [b12 0 100000, b12 6 100000]) (G := [])
          (T := .ite (.and (.eq (.var 0) (.var 6)) (.eq (.var 1) (.var 7))) (.ite (.and (.eq (.var 2) (.var 8)) (.eq (.var 3) (.var 9))) (lfB (.and (.eq (.var 4) (.var 10)) (.eq (.var 5) (.var 11)))) (lfB (.lit false))) (lfB (.lit false)))
          mixed (cfg_ok (.cons kSame_ok .nil)) no_asm Tryz.func37 (by decide +kernel) (by kernel_rfl) (by decide +kernel) rfl w [v, u] rfl ?_).mono ?_
        · intro i x hx
          match i, hx with
          | 0, hx => injection hx with hx; subst hx; exact ⟨β, v, rfl, k1⟩
          | 1, hx => injection hx with hx; subst hx; exact ⟨β, u, rfl, k2⟩
        · rintro e w' ⟨β', y, rfl, hh, ex⟩
          refine ⟨_, rfl, one_bool.2 ?_, ex⟩
          subst hE'
          simp only [Tree.pick] at hh
          show y = .bool ((x1.den E == y1.den E && x2.den E == y2.den E) && ((x3.den E == y3.den E && x4.den E == y4.den E) && (x5.den E == y5.den E && x6.den E == y6.den E)))
          have e0 : (BT.and (.eq (.var 0) (.var 6)) (.eq (.var 1) (.var 7))).den (zE [x1.den E, x2.den E, x3.den E, x4.den E, x5.den E, x6.den E, y1.den E, y2.den E, y3.den E, y4.den E, y5.den E, y6.den E]) = (x1.den E == y1.den E && x2.den E == y2.den E) := rfl
          have e1 : (BT.and (.eq (.var 2) (.var 8)) (.eq (.var 3) (.var 9))).den (zE [x1.den E, x2.den E, x3.den E, x4.den E, x5.den E, x6.den E, y1.den E, y2.den E, y3.den E, y4.den E, y5.den E, y6.den E]) = (x3.den E == y3.den E && x4.den E == y4.den E) := rfl
          rw [e0, e1] at hh
          cases h0 : (x1.den E == y1.den E && x2.den E == y2.den E) <;> rw [h0] at hh
          · exact lfB_out hh
          · cases h1 : (x3.den E == y3.den E && x4.den E == y4.den E) <;> rw [h1] at hh
            · exact lfB_out hh
            · exact lfB_out hh
      · cases h
    · cases h
  · intro args G r h x off
    unfold kRSm at h
    split at h
    · split at h
      · injection h with h; subst h; intro e; cases e
      · cases h
    · cases h
def cfgS (f0 : Nat) (sm : List Chunk → Nat → Option Bool) (C : Cfg) : Cfg :=
  { C with calls := fun f args M G => if f = f0 then (match args, M with
      | [.ptr _ off], [some cs] => (lt2 off (sm cs off)).map fun c => .val false [.b (.lit c)]
      | _, _ => none) else C.calls f args M G }
def RowSm (E : Env) (f0 : Nat) (sm : List Chunk → Nat → Option Bool) : Prop := ∀ cs off c, sm cs off = some c → ∀ (w : World) (b : Nat), VarAt E w b cs → Calls Tryz.prog f0 #[pv b off] w fun e w' => e = .returned (.bool c) ∧ Ext w w'
theorem cfgS_ok {E : Env} {f0 : Nat} {sm : List Chunk → Nat → Option Bool} {C : Cfg} (h : CfgOK Tryz.prog E C) (hs : RowSm E f0 sm) (hb : ∃ fn, Tryz.prog.funcs[f0]? = some fn ∧ fn.name ≠ "runtime.NumGoroutine" ∧ fn.body.isNone = false) : CfgOK Tryz.prog E (cfgS f0 sm C) := by
  refine ⟨h.zero, h.ag, h.fld, h.flds, h.bool, h.row, h.arr, ?_, ?_, ?_, h.slc, h.strT, h.cnv, h.apd, h.eq2⟩
  · intro f args M G r hr hG β w vs hwk hv hlen hm
    simp only [cfgS] at hr
    split at hr
    · rename_i hf
      subst hf
      split at hr
      · rename_i x off cs
        obtain ⟨c, hc, rfl⟩ := Option.map_eq_some_iff.1 hr
        obtain ⟨h2b, hc⟩ := lt2_spec hc
        obtain ⟨v, rfl, h1⟩ := args1 hv hlen
        have h1' : v = pv (β x) off := AV.pv_of h1 h2b
        subst h1'
        refine (hs cs off c hc w (β x) (hm 0 x off cs rfl rfl)).mono ?_
        rintro e w' ⟨rfl, ex⟩
        exact ⟨_, rfl, one_bool.2 rfl, ex⟩
      · cases hr
    · exact h.calls f args M G r hr hG β w vs hwk hv hlen hm
  · intro f args M G r hr x off
    simp only [cfgS] at hr
    split at hr
    · split at hr
      · obtain ⟨c, hc, rfl⟩ := Option.map_eq_some_iff.1 hr
        intro e; cases e
      · cases hr
    · exact h.nptr f args M G r hr x off
  · intro f args M G r hr
    simp only [cfgS] at hr
    split at hr
    · rename_i hf
      subst hf
      exact hb
    · exact h.body f args M G r hr
end Go.Proofs.YtifeacfljfmnpaaGreat
end

section
set_option maxRecDepth 100000
namespace Go.Proofs.YtifeacfljfmnpaaGreat
open Go.RowKit
end Go.Proofs.YtifeacfljfmnpaaGreat
end

section
set_option maxRecDepth 100000
namespace Go.Proofs.YtifeacfljfmnpaaGreat
open Go.RowKit
theorem Rd.comb {b c b' c' x : Rat} (R : Rd b c) (R' : Rd b' c') (hx : x ≠ 0 → b ≠ 0 ∨ b' ≠ 0) : Rd x (rC x (cm b c c')) := by
  by_cases h0 : x = 0
  · subst h0; rw [rC_zero]; exact .inl ⟨rfl, rfl⟩
  · rw [rC_ne h0]
    by_cases hb : b = 0
    · have hb' : b' ≠ 0 := (hx h0).elim (fun k => absurd hb k) id
      rw [hb, cm_zero]
      rcases R' with ⟨k, _⟩ | ⟨_, k⟩
      · exact absurd k hb'
      · exact .inr ⟨h0, k⟩
    · rw [cm_ne hb]
      rcases R with ⟨k, _⟩ | ⟨_, k⟩
      · exact absurd k hb
      · exact .inr ⟨h0, k⟩
theorem asm_nil {E : Env} : Asm.holds E [] := no_asm
theorem asm_and {E : Env} {t : BT} {b : Bool} {G : Asm} (h : t.den E = b) (k : G.holds E) : Asm.holds E ((t, b) :: G) := fun p hp => by
  rcases List.mem_cons.1 hp with rfl | hp
  · exact h
  · exact k p hp
def g2 (n m : Bool) : Asm := [(rdT (qv 1) (qv 2), true), (rdT (qv 4) (qv 5), true), (nokT (qv 1) (qv 2) (qv 4) (qv 5), n), (nokT (qv 4) (qv 5) (qv 1) (qv 2), m)]
section
variable {w : World} {v u : Value} {a b c a' b' c' : Rat}
end
end Go.Proofs.YtifeacfljfmnpaaGreat
end

section
set_option maxRecDepth 100000
namespace Go.Proofs.YtifeacfljfmnpaaGreat
open Go.RowKit
theorem Rd.nonneg {b c : Rat} (R : Rd b c) : 0 ≤ c := by
  rcases R with ⟨_, h⟩ | ⟨_, h, _⟩ <;> grind
end Go.Proofs.YtifeacfljfmnpaaGreat
end

section
set_option maxRecDepth 100000
namespace Go.Proofs.YtifeacfljfmnpaaGreat
open Go.RowKit
theorem sgN_sg2 {a b c : Rat} (R : Rd b c) : sgN a b c = sg2 a b c := by
  rw [← sgS_sgN R]
  exact sgS_sg2 R.nonneg
theorem cmR_ok {a b c a' b' c' : Rat} (R : Rd b c) (R' : Rd b' c') (h : Ok b c b' c') : cmR a b c a' b' c' = sgN (a - a') (b - b') (rC (b - b') (cm b c c')) := by
  have RR : Rd (b - b') (rC (b - b') (cm b c c')) := Rd.comb R R' (fun hx => by
    by_cases hb : b = 0
    · exact .inr (fun k => hx (by rw [hb, k]; grind))
    · exact .inl hb)
  rw [sgN_sg2 RR]
  obtain ⟨z, hz⟩ := exists_rt RR.nonneg
  have fin : ∀ {m n k : Sq}, IsRt c m → IsRt c' n → IsRt (rC (b - b') (cm b c c')) k → (∀ i, (a + b * m i) - (a' + b' * n i) = (a - a') + (b - b') * k i) → cmR a b c a' b' c' = sg2 (a - a') (b - b') (rC (b - b') (cm b c c')) := by
    intro m n k hm hn hk e
    have h1 := cmR_sg (a := a) (b := b) (a' := a') (b' := b') R.nonneg R'.nonneg hm hn
    rw [funext e] at h1
    exact h1.unique (sqv2 RR.nonneg hk)
  obtain ⟨m, hm⟩ := exists_rt R.nonneg
  obtain ⟨n, hn⟩ := exists_rt R'.nonneg
  by_cases hx : b - b' = 0
  · by_cases hb : b = 0
    · have hb' : b' = 0 := by grind
      exact fin hm hn hz (fun i => by rw [hb, hb']; grind)
    · have hb' : b' ≠ 0 := by grind
      have hc : c = c' := by rcases h with h | h | h <;> first | exact absurd h hb | exact absurd h hb' | exact h
      exact fin hm (hc ▸ hm) hz (fun i => by rw [show b' = b by grind]; grind)
  · have eC : rC (b - b') (cm b c c') = cm b c c' := rC_ne hx _
    by_cases hb : b = 0
    · have e2 : cm b c c' = c' := by rw [hb, cm_zero]
      exact fin hm hn (by rw [eC, e2]; exact hn) (fun i => by rw [hb]; grind)
    · have e2 : cm b c c' = c := cm_ne hb c c'
      have hk : IsRt (rC (b - b') (cm b c c')) m := by rw [eC, e2]; exact hm
      by_cases hb' : b' = 0
      · exact fin hm hn hk (fun i => by rw [hb']; grind)
      · have hc : c = c' := by rcases h with h | h | h <;> first | exact absurd h hb | exact absurd h hb' | exact h
        exact fin hm (hc ▸ hm) hk (fun i => by grind)
theorem cmR_rat {a c a' c' : Rat} (hc : 0 ≤ c) (hc' : 0 ≤ c') : cmR a 0 c a' 0 c' = sgQ' (a - a') := by
  obtain ⟨m, hm⟩ := exists_rt hc
  obtain ⟨n, hn⟩ := exists_rt hc'
  have h1 := cmR_sg (a := a) (b := 0) (a' := a') (b' := 0) hc hc' hm hn
  have e : (fun k => (a + 0 * m k) - (a' + 0 * n k)) = fun _ => a - a' := funext fun k => by grind
  rw [e] at h1
  exact h1.unique (hasSg_const _)
theorem cmR_same {a b c : Rat} (hc : 0 ≤ c) : cmR a b c a b c = 0 := by
  obtain ⟨m, hm⟩ := exists_rt hc
  have h1 := cmR_sg (a := a) (b := b) (a' := a) (b' := b) hc hc hm hm
  have e : (fun k => (a + b * m k) - (a + b * m k)) = fun _ => (0 : Rat) := funext fun k => by grind
  rw [e] at h1
  have h2 := hasSg_const (0 : Rat)
  exact h1.unique h2
end Go.Proofs.YtifeacfljfmnpaaGreat
end

section
set_option maxRecDepth 100000
namespace Go.Proofs.YtifeacfljfmnpaaGreat
open Go.RowKit
def c66 (ts us : List IT2) : List AV → Bool
  | [.val true xs, .val true ys] => t6 ts xs && t6 us ys
  | _ => false
def rqA : List IT2 := [qI 0, qI 2, qI 4]
def rqB : List IT2 := [qI 6, qI 8, qI 10]
def rqN : List IT2 := [qng (qI 6), qng (qI 8), qI 10]
def rqD : List IT2 := [qI 12, qI 14, qI 16]
def zer6 : List Chunk := [.int (.lit 0) 0, .int (.lit 0) 0, .int (.lit 0) 0, .int (.lit 0) 0, .int (.lit 0) 0, .int (.lit 0) 0]
def rAdd (ok : Bool) : AV := .tup [(true, if ok then rt (qI 12) (qI 14) (qI 16) 40 else zer6), (false, [.n .i64 (.lit (if ok then 0 else 1))])]
def rBl (b : Bool) : AV := .val false [.b (.lit b)]
noncomputable def tabCp (z : Int) (t i ok : Bool) (x : Int) : List (Nat × Con) :=
  (144, kKq (c66 rqA rqB) (rIB z t) kNoQ) :: (145, kKq (c66 rqA rqB) (rBl i) kNoQ) :: (81, kKq (c6 rqB) (.val true (rt (qng (qI 6)) (qng (qI 8)) (qI 10) 9)) kNoQ) ::
  (146, kKq (c66 rqA rqN) (rAdd ok) kNoQ) :: (147, if ok then kKq (c6 rqD) (rNq x) kNoQ else kNoQ) :: (140, kKq (c6 cmTs) (rNq x) kNoQ) :: tabSb
noncomputable def iCp0 : List (Nat × Func) := [(241, Tryz.f241), (143, Tryz.f143)]
noncomputable def cCp0 (z : Int) (t i ok : Bool) (x : Int) : Cfg := cfgI (cfgOf (tabCp z t i ok x)) (cfgOf (tabCp z t i ok x)) iCp0
noncomputable def cCp1 (z : Int) (t i ok : Bool) (x : Int) : Cfg := cfgI (cCp0 z t i ok x) (cCp0 z t i ok x) iC2
noncomputable def cCp (z : Int) (t i ok : Bool) (x : Int) : Cfg := cfgI (cCp1 z t i ok x) (cCp1 z t i ok x) [(148, Tryz.f148)]
def gzQ (i : Nat) (b : Bool) : BT × Bool := (.eq (sgI i) (.lit 0), b)
def guC : List Asm := [[gzQ 2 false], [gzQ 2 true, gzQ 8 false]]
noncomputable def cpW (z : Int) (t i ok : Bool) (x y : Int) (G : Asm) : Bool := isNlo y (funE (cCp z t i ok x) Tryz.f75 G [aRo 0, aRo 6])
theorem cp_all : (sgs.all fun z => bools.all fun t => bools.all fun i => bools.all fun ok => sgs.all fun x => guC.all fun G => cpW z t i ok x (if t then z else if i then 0 else x) G) = true := by kernel_rfl
noncomputable def cCr : Cfg := cfgI (cfgOf tabSb) (cfgOf tabSb) iCp0
theorem cp_rat : funE cCr Tryz.f75 [gzQ 2 true, gzQ 8 true] [aRo 0, aRo 6] = some (.leaf [(false, [.n .i64 (qcmp (qI 0) (qI 6))])]) := by kernel_rfl
end Go.Proofs.YtifeacfljfmnpaaGreat
end

section
set_option maxRecDepth 100000
namespace Go.Proofs.YtifeacfljfmnpaaGreat
open Go.RowKit
theorem rats3 {w : World} {vs : List Value} {a b c : Rat} (h : RatsQ w vs [a, b, c]) : IsRoot w (.agg vs.toArray) a b c := by
  obtain ⟨x, r, rfl, h1, y, s, rfl, h2, z, t, rfl, h3, rfl⟩ := h
  exact ⟨x, y, z, by rw [List.append_nil], h1, h2, h3⟩
theorem known66 {E : Env} {f : Nat} {ts us : List IT2} {a b c a' b' c' : Rat} {r : AV} (hr : Reps E ts [a, b, c]) (hs : Reps E us [a', b', c']) (np : ∀ x off, r ≠ .ptr x off)
    (h : ∀ (w : World) (v u : Value), IsRoot w v a b c → IsRoot w u a' b' c' → Calls Tryz.prog f #[v, u] w fun e w' => ∃ x, e = .returned x ∧ (∀ β, r.holds E β w' x) ∧ Ext w w') : KnownR E f (c66 ts us) r := by
  refine ⟨?_, np⟩
  intro args hc' β w vs hv hl
  unfold c66 at hc'
  split at hc'
  · rw [Bool.and_eq_true] at hc'
    obtain ⟨v, u, rfl, ⟨xs, rfl, h1⟩, ⟨ys, rfl, h2⟩⟩ := args2 hv hl
    exact h w _ _ (rats3 (t6_holds hr hc'.1 h1)) (rats3 (t6_holds hs hc'.2 h2))
  · cases hc'
theorem known3 {E : Env} {f : Nat} {ts : List IT2} {a b c : Rat} {r : AV} (hr : Reps E ts [a, b, c]) (np : ∀ x off, r ≠ .ptr x off)
    (h : ∀ (w : World) (v : Value), IsRoot w v a b c → Calls Tryz.prog f #[v] w fun e w' => ∃ x, e = .returned x ∧ (∀ β, r.holds E β w' x) ∧ Ext w w') : KnownR E f (c6 ts) r := by
  refine ⟨?_, np⟩
  intro args hc' β w vs hv hl
  unfold c6 at hc'
  split at hc'
  · obtain ⟨v, rfl, xs, rfl, h1⟩ := args1 hv hl
    exact h w _ (rats3 (t6_holds hr hc' h1))
  · cases hc'
theorem radCmp_calls (w : World) (v u : Value) (a b c a' b' c' : Rat) (R : Rd b c) (R' : Rd b' c') (hv : IsRoot w v a b c) (hu : IsRoot w u a' b' c') (l : LimR 9 a b c) (l' : LimR 9 a' b' c') :
    Calls Tryz.prog 75 #[v, u] w (RetN (cmR a b c a' b' c') w) := by
  obtain ⟨p, hp⟩ : ∃ p, p = a - a' := ⟨_, rfl⟩
  obtain ⟨q, hq⟩ : ∃ q, q = b - b' := ⟨_, rfl⟩
  obtain ⟨r, hr⟩ : ∃ r, r = rC (b - b') (cm b c c') := ⟨_, rfl⟩
  obtain ⟨E, hE⟩ : ∃ E, E = qE [a, b, c, a', b', c', p, q, r] := ⟨_, rfl⟩
  have hQ : QEnv E := by rw [hE]; exact qE_ok _
  have r1 : RepQ E (qI 0) a := by rw [hE]; exact ⟨rfl, rfl⟩
  have r2 : RepQ E (qI 2) b := by rw [hE]; exact ⟨rfl, rfl⟩
  have r3 : RepQ E (qI 4) c := by rw [hE]; exact ⟨rfl, rfl⟩
  have r4 : RepQ E (qI 6) a' := by rw [hE]; exact ⟨rfl, rfl⟩
  have r5 : RepQ E (qI 8) b' := by rw [hE]; exact ⟨rfl, rfl⟩
  have r6 : RepQ E (qI 10) c' := by rw [hE]; exact ⟨rfl, rfl⟩
  have r7 : RepQ E (qI 12) p := by rw [hE]; exact ⟨rfl, rfl⟩
  have r8 : RepQ E (qI 14) q := by rw [hE]; exact ⟨rfl, rfl⟩
  have r9 : RepQ E (qI 16) r := by rw [hE]; exact ⟨rfl, rfl⟩
  have sA : Reps E rqA [a, b, c] := ⟨r1, r2, r3, trivial⟩
  have sB : Reps E rqB [a', b', c'] := ⟨r4, r5, r6, trivial⟩
  have sN : Reps E rqN [-a', -b', c'] := ⟨rep_ng r4, rep_ng r5, r6, trivial⟩
  have sD : Reps E rqD [p, q, r] := ⟨r7, r8, r9, trivial⟩
  have ln : LimR 9 (-a') (-b') c' := ⟨⟨by rw [Rat.neg_num]; exact l'.1.1.neg, l'.1.2⟩, ⟨by rw [Rat.neg_num]; exact l'.2.1.1.neg, l'.2.1.2⟩, l'.2.2⟩
  have ld : LimR 40 p q r := by
    have x1 := LimQ.sub' (n := 20) l.1.1 l.1.2 l'.1.1 l'.1.2 (by omega) (by omega)
    have x2 := LimQ.sub' (n := 20) l.2.1.1 l.2.1.2 l'.2.1.1 l'.2.1.2 (by omega) (by omega)
    refine ⟨by rw [hp]; exact ⟨x1.1.mono (by omega), x1.2.mono (by omega)⟩, by rw [hq]; exact ⟨x2.1.mono (by omega), x2.2.mono (by omega)⟩, ?_⟩
    rw [hr]
    by_cases hx : b - b' = 0
    · rw [hx, rC_zero]
      refine ⟨?_, ?_⟩ <;> unfold Lim <;> decide +kernel
    · rw [rC_ne hx]
      by_cases hb : b = 0
      · rw [hb, cm_zero]; exact l'.2.2.mono (by omega)
      · rw [cm_ne hb]; exact l.2.2.mono (by omega)
  have RD : Rd q r := by
    rw [hq, hr]
    exact Rd.comb R R' (fun hx => by
      by_cases hb : b = 0
      · exact .inr (fun k => hx (by rw [hb, k]; grind))
      · exact .inl hb)
  obtain ⟨z, t, hf⟩ := fast_c a b c a' b' c'
  obtain ⟨i, hi⟩ : ∃ i, i = decide (a = a' ∧ b = b' ∧ c = c') := ⟨_, rfl⟩
  obtain ⟨ok, hok⟩ : ∃ ok : Bool, (ok = true ↔ Ok b c b' c') := by
    by_cases h : Ok b c b' c'
    · exact ⟨true, by simp [h]⟩
    · exact ⟨false, by simp [h]⟩
  obtain ⟨x, hx⟩ : ∃ x, x = cmR a b c a' b' c' := ⟨_, rfl⟩
  have hxs : x ∈ sgs := by rw [hx]; exact sgs_mem (qsg_range _ _ _ _ _ _)
  have hz : z ∈ sgs := by
    cases t with
    | false => rw [hf.zero rfl]; decide
    | true => rw [hf.right rfl R.nonneg R'.nonneg, ← hx]; exact hxs
  have hT : TabOK Tryz.prog E (tabCp z t i ok x) := by
    refine .cons (kKr_ok (known66 sA sB (fun x off e => by cases e) fun w v u h1 h2 => (hf.calls w v u h1 h2 l l').mono ?_) (kNoQ_ok ⟨_, Tryz.func144, by decide +kernel, by kernel_rfl⟩)) <|
      .cons (kKr_ok (known66 sA sB (fun x off e => by cases e) fun w v u h1 h2 => (ident_calls w v u a b c a' b' c' h1 h2 l l').mono ?_) (kNoQ_ok ⟨_, Tryz.func145, by decide +kernel, by kernel_rfl⟩)) <|
      .cons (kKr_ok (known3 sB (fun x off e => by cases e) fun w v h1 => (p_neg R' h1 (l'.mono (by omega))).mono ?_) (kNoQ_ok ⟨_, Tryz.func81, by decide +kernel, by kernel_rfl⟩)) <|
      .cons (kKr_ok (known66 sA sN (fun x off e => by cases e) fun w v u h1 h2 => (p_add h1 h2 (l.mono (by omega)) (ln.mono (by omega))).mono ?_) (kNoQ_ok ⟨_, Tryz.func146, by decide +kernel, by kernel_rfl⟩)) <|
      .cons ?_ <| .cons (kKq_ok (known6 (cm_reps r1 r2 r3 r4 r5 r6) fun w v h => ?_) (kNoQ_ok ⟨_, Tryz.func140, by decide +kernel, by kernel_rfl⟩)) (tabSb_ok hQ)
    · rintro e w' ⟨rfl, ex⟩
      exact ⟨_, rfl, fun β => ⟨[_, _], rfl, _, _, rfl, one_num.2 rfl, _, _, rfl, one_bool.2 rfl, rfl⟩, ex⟩
    · rintro e w' ⟨rfl, ex⟩
      exact ⟨_, rfl, fun β => one_bool.2 (by rw [← hi]; rfl), ex⟩
    · rintro e w' ⟨x, rfl, hx, ex⟩
      exact ⟨x, rfl, fun β => (one_root (A := qng (qI 6)) (B := qng (qI 8)) (C := qI 10) (rep_ng r4) (rep_ng r5) r6).2 ⟨hx, ln⟩, ex⟩
    · rintro e w' ⟨k1, k2⟩
      have eo : Ok b c (-b') c' ↔ Ok b c b' c' := by
        unfold Ok
        rw [show (-b' = 0 ↔ b' = 0) from ⟨fun k => by grind, fun k => by grind⟩]
      rw [eo] at k1 k2
      cases ok with
      | true =>
        obtain ⟨y, rfl, hy, ex⟩ := k1 (hok.1 rfl)
        rw [← Rat.sub_eq_add_neg, ← Rat.sub_eq_add_neg, ← hp, ← hr, ← hq] at hy
        exact ⟨_, rfl, fun β => ⟨[_, _], rfl, _, _, rfl, (one_root (A := qI 12) (B := qI 14) (C := qI 16) r7 r8 r9).2 ⟨hy, ld⟩, _, _, rfl, one_num.2 rfl, rfl⟩, ex⟩
      | false =>
        obtain ⟨y, rfl, hy, ex⟩ := k2 (fun k => by have := hok.2 k; cases this)
        exact ⟨_, rfl, fun β => ⟨[_, _], rfl, _, _, rfl, hy E, _, _, rfl, one_num.2 rfl, rfl⟩, ex⟩
    · cases ok with
      | false => exact kNoQ_ok ⟨_, Tryz.func147, by decide +kernel, by kernel_rfl⟩
      | true =>
        refine kKr_ok (known3 sD (fun x off e => by cases e) fun w v h1 => (p_sign RD h1 (ld.mono (by omega))).mono ?_) (kNoQ_ok ⟨_, Tryz.func147, by decide +kernel, by kernel_rfl⟩)
        rintro e w' ⟨rfl, ex⟩
        refine ⟨_, rfl, fun β => one_num.2 ?_, ex⟩
        rw [hp, hq, hr, ← cmR_ok R R' (hok.1 rfl), ← hx]
        rfl
    · have e : x = sg4 (a - a') b (-b') 0 c c' := by rw [hx]; exact if_neg (by have := Rat.num_nonneg.2 R.nonneg; have := Rat.num_nonneg.2 R'.nonneg; omega)
      rw [e]
      exact exactSign_calls w v _ _ _ _ _ _ h (sub_lims l l') R.nonneg
  have hC : CfgOK Tryz.prog E (cCp z t i ok x) := by
    have h0 := cfg_ok hT
    have h1 : CfgOK Tryz.prog E (cCp0 z t i ok x) := cfgI_ok mixed h0 h0 (fun _ => trivial) (.cons Tryz.func241 (by decide +kernel) (by kernel_rfl) <| .cons Tryz.func143 (by decide +kernel) (by kernel_rfl) .nil)
    have h2 : CfgOK Tryz.prog E (cCp1 z t i ok x) := cfgI_ok mixed h1 h1 (fun _ => trivial) (.cons Tryz.func204 (by decide +kernel) (by kernel_rfl) .nil)
    exact cfgI_ok mixed h2 h2 (fun _ => trivial) (.cons Tryz.func148 (by decide +kernel) (by kernel_rfl) .nil)
  have hres : (if t then z else if i then 0 else x) = cmR a b c a' b' c' := by
    cases t with
    | true => exact hf.right rfl R.nonneg R'.nonneg
    | false =>
      cases hii : i with
      | true =>
        have := of_decide_eq_true (hi ▸ hii)
        obtain ⟨rfl, rfl, rfl⟩ := this
        exact (cmR_same R.nonneg).symm
      | false => exact hx
  have fin : ∀ G ∈ guC, G.holds E → Calls Tryz.prog 75 #[v, u] w (RetN (cmR a b c a' b' c') w) := by
    intro G hm hG
    have hW := List.all_eq_true.1 (List.all_eq_true.1 (List.all_eq_true.1 (List.all_eq_true.1 (List.all_eq_true.1 (List.all_eq_true.1 cp_all z hz) t (by cases t <;> decide)) i (by cases i <;> decide)) ok (by cases ok <;> decide)) x hxs) G hm
    rw [hres] at hW
    unfold cpW isNlo at hW
    split at hW
    · rename_i T hTe
      refine (fun_sound mixed hC hG Tryz.func75 (by decide +kernel) hTe (by decide +kernel) rfl w [v, u] rfl (two_roots r1 r2 r3 r4 r5 r6 hv hu l l')).mono ?_
      rintro e w' ⟨β, y, rfl, hh, ex⟩
      rw [isNl_pick hW] at hh
      rw [show y = _ from one_num.1 hh]
      exact ⟨rfl, ex⟩
    · cases hW
  have zd : ∀ {j : Nat} {y : Rat}, RepQ E (qI j) y → (BT.eq (sgI j) (.lit 0)).den E = decide (y = 0) := by
    intro j y hy
    show (cmpZ (E.i j) 0 == 0) = _
    rw [show E.i j = y.num from hy.1, Bool.eq_iff_iff, beq_iff_eq, decide_eq_true_iff, ← Rat.num_eq_zero]
    rcases cmpZ_cases y.num 0 with ⟨k, e⟩ | ⟨k, e⟩ | ⟨k, e⟩ <;> rw [e] <;> omega
  by_cases hb : b = 0
  · by_cases hb' : b' = 0
    · have g : Asm.holds E [gzQ 2 true, gzQ 8 true] := asm_cons (asm_cons no_asm (by rw [zd r5]; exact decide_eq_true hb')) (by rw [zd r2]; exact decide_eq_true hb)
      have hC' : CfgOK Tryz.prog E cCr := cfgI_ok mixed (cfg_ok (tabSb_ok hQ)) (cfg_ok (tabSb_ok hQ)) (fun _ => trivial) (.cons Tryz.func241 (by decide +kernel) (by kernel_rfl) <| .cons Tryz.func143 (by decide +kernel) (by kernel_rfl) .nil)
      refine (fun_sound mixed hC' g Tryz.func75 (by decide +kernel) cp_rat (by decide +kernel) rfl w [v, u] rfl (two_roots r1 r2 r3 r4 r5 r6 hv hu l l')).mono ?_
      rintro e w' ⟨β, y, rfl, hh, ex⟩
      rw [show y = _ from one_num.1 hh, rep_cmp r1 r4, hb, hb', cmR_rat R.nonneg R'.nonneg, sgQ_eq]
      exact ⟨rfl, ex⟩
    · exact fin [gzQ 2 true, gzQ 8 false] (by simp [guC]) (asm_cons (asm_cons no_asm (by rw [zd r5]; exact decide_eq_false hb')) (by rw [zd r2]; exact decide_eq_true hb))
  · exact fin [gzQ 2 false] (by simp [guC]) (asm_cons no_asm (by rw [zd r2]; exact decide_eq_false hb))
end Go.Proofs.YtifeacfljfmnpaaGreat
end

section
set_option maxRecDepth 100000
namespace Go.Proofs.YtifeacfljfmnpaaGreat
open Go.RowKit
def isBl (b : Bool) : Tree → Bool
  | .leaf [(false, [.b (.lit c)])] => c == b
  | .leaf _ => false
  | .ite _ t e => isBl b t && isBl b e
def isBlo (b : Bool) : Option Tree → Bool
  | some T => isBl b T
  | none => false
theorem isBl_pick {E : Env} {b : Bool} : ∀ {T : Tree}, isBl b T = true → T.pick E = [(false, [.b (.lit b)])] := by
  intro T
  induction T with
  | leaf l =>
    intro h
    unfold isBl at h
    split at h
    · rename_i x e
      cases e
      simp only [beq_iff_eq] at h
      rw [h]
      rfl
    · cases h
    · rename_i e
      cases e
  | ite c t e iht ihe =>
    intro h
    simp only [isBl, Bool.and_eq_true] at h
    simp only [Tree.pick]
    split
    · exact iht h.1
    · exact ihe h.2
structure Rts (E : Env) (a b c a' b' c' : Rat) : Prop where
  r1 : RepQ E (qI 0) a
  r2 : RepQ E (qI 2) b
  r3 : RepQ E (qI 4) c
  r4 : RepQ E (qI 6) a'
  r5 : RepQ E (qI 8) b'
  r6 : RepQ E (qI 10) c'
theorem rts_mk (a b c a' b' c' : Rat) (l : List Rat) : Rts (qE (a :: b :: c :: a' :: b' :: c' :: l)) a b c a' b' c' := ⟨⟨rfl, rfl⟩, ⟨rfl, rfl⟩, ⟨rfl, rfl⟩, ⟨rfl, rfl⟩, ⟨rfl, rfl⟩, ⟨rfl, rfl⟩⟩
noncomputable def tabEq (z : Int) : List (Nat × Con) := [(75, kKq (c66 rqA rqB) (rNq z) kNoQ)]
theorem eq_walk : (sgs.all fun z => isBlo (z == 0) (funE (cfgOf (tabEq z)) Tryz.f71 [] [aRo 0, aRo 6])) = true := by kernel_rfl
theorem cmR_range (a b c a' b' c' : Rat) : cmR a b c a' b' c' ∈ sgs := sgs_mem (qsg_range _ _ _ _ _ _)
theorem radEqual_calls (w : World) (v u : Value) (a b c a' b' c' : Rat) (R : Rd b c) (R' : Rd b' c') (hv : IsRoot w v a b c) (hu : IsRoot w u a' b' c') (l : LimR 9 a b c) (l' : LimR 9 a' b' c') :
    Calls Tryz.prog 71 #[v, u] w (RetBl (cmR a b c a' b' c' == 0) w) := by
  obtain ⟨E, hE⟩ : ∃ E, E = qE [a, b, c, a', b', c'] := ⟨_, rfl⟩
  have q : Rts E a b c a' b' c' := by rw [hE]; exact rts_mk _ _ _ _ _ _ _
  have hW := List.all_eq_true.1 eq_walk _ (cmR_range a b c a' b' c')
  have hT : TabOK Tryz.prog E (tabEq (cmR a b c a' b' c')) := by
    refine .cons (kKr_ok (known66 ⟨q.r1, q.r2, q.r3, trivial⟩ ⟨q.r4, q.r5, q.r6, trivial⟩ (fun x off e => by cases e) fun w v u h1 h2 => (radCmp_calls w v u a b c a' b' c' R R' h1 h2 l l').mono ?_) (kNoQ_ok ⟨_, Tryz.func75, by decide +kernel, by kernel_rfl⟩)) .nil
    rintro e w' ⟨rfl, ex⟩
    exact ⟨_, rfl, fun β => one_num.2 rfl, ex⟩
  unfold isBlo at hW
  split at hW
  · rename_i T hTe
    refine (fun_sound mixed (cfg_ok hT) no_asm Tryz.func71 (by decide +kernel) hTe (by decide +kernel) rfl w [v, u] rfl (two_roots q.r1 q.r2 q.r3 q.r4 q.r5 q.r6 hv hu l l')).mono ?_
    rintro e w' ⟨β, x, rfl, hh, ex⟩
    rw [isBl_pick hW] at hh
    rw [show x = _ from one_bool.1 hh]
    exact ⟨rfl, ex⟩
  · cases hW
theorem cmR_two {a b c d : Rat} (hc : 0 ≤ c) : cmR a b c d 0 0 = sg2 (a - d) b c := by
  obtain ⟨m, hm⟩ := exists_rt hc
  obtain ⟨n, hn⟩ := exists_rt (show (0 : Rat) ≤ 0 by decide)
  have h1 := cmR_sg (a := a) (b := b) (a' := d) (b' := 0) hc (by decide) hm hn
  have h2 := sqv2 (a := a - d) (b := b) hc hm
  have e : (fun k => (a + b * m k) - (d + 0 * n k)) = fun k => (a - d) + b * m k := funext fun k => by grind
  rw [e] at h1
  exact h1.unique h2
end Go.Proofs.YtifeacfljfmnpaaGreat
end

section
set_option maxRecDepth 100000
namespace Go.Proofs.YtifeacfljfmnpaaGreat
open Go.RowKit
end Go.Proofs.YtifeacfljfmnpaaGreat
end

section
set_option maxRecDepth 100000
namespace Go.Proofs.YtifeacfljfmnpaaGreat
open Go.RowKit
end Go.Proofs.YtifeacfljfmnpaaGreat
end

section
set_option maxRecDepth 100000
namespace Go.Proofs.YtifeacfljfmnpaaGreat
open Go.RowKit
end Go.Proofs.YtifeacfljfmnpaaGreat
end

section
set_option maxRecDepth 100000
namespace Go.Proofs.YtifeacfljfmnpaaGreat
open Go.RowKit
end Go.Proofs.YtifeacfljfmnpaaGreat
end

section
set_option maxRecDepth 100000
namespace Go.Proofs.YtifeacfljfmnpaaGreat
open Go.RowKit
end Go.Proofs.YtifeacfljfmnpaaGreat
end

section
set_option maxRecDepth 100000
namespace Go.Proofs.YtifeacfljfmnpaaGreat
open Go.RowKit
def tq : List Rat → List Chunk → Bool
  | [], [] => true
  | q :: qs, .int x _ :: .int y _ :: cs => x.cl == some q.num && (y.cl == some (q.den : Int) && tq qs cs)
  | _, _ => false
theorem tq_holds {E : Env} {w : World} : ∀ {qs : List Rat} {cs : List Chunk} {vs : List Value}, tq qs cs = true → chunks E w cs vs → RatsQ w vs qs
  | [], cs, vs, h, hc => by
    unfold tq at h
    split at h
    · exact hc
    · contradiction
    · cases h
  | q :: qs, cs, vs, h, hc => by
    unfold tq at h
    split at h
    · contradiction
    · rename_i q' qs' x l y m cs' e
      cases e
      simp only [Bool.and_eq_true, beq_iff_eq] at h
      obtain ⟨h1, h2, h3⟩ := h
      obtain ⟨x', r, rfl, k1, k2⟩ := (two_chunks (A := (x, y)) (a := q) ⟨IT.cl_spec h1, IT.cl_spec h2⟩).1 hc
      exact ⟨x', r, rfl, k1.1, tq_holds h3 k2⟩
    · cases h
def cqs : List (List Rat) → List AV → Bool
  | [], [] => true
  | l :: ls, .val true cs :: xs => tq l cs && cqs ls xs
  | _, _ => false
def ArgsQ (w : World) : List Value → List (List Rat) → Prop
  | [], [] => True
  | v :: vs, l :: ls => IsQs w v l ∧ ArgsQ w vs ls
  | _, _ => False
theorem cqs_holds {E : Env} {β : Nat → Nat} {w : World} : ∀ {ls : List (List Rat)} {args : List AV} {vs : List Value}, cqs ls args = true → (∀ (i : Nat) (x : AV), args[i]? = some x → ∃ v, vs[i]? = some v ∧ x.holds E β w v) → vs.length = args.length → ArgsQ w vs ls
  | [], args, vs, h, hv, hl => by
    unfold cqs at h
    split at h
    · match vs, hl with
      | [], _ => exact trivial
    · contradiction
    · cases h
  | l :: ls, args, vs, h, hv, hl => by
    unfold cqs at h
    split at h
    · contradiction
    · rename_i l' ls' cs xs e
      cases e
      rw [Bool.and_eq_true] at h
      obtain ⟨v, h1, h2⟩ := hv 0 _ rfl
      match vs, hl, h1 with
      | u :: us, hl, h1 =>
        injection h1 with h1
        subst h1
        obtain ⟨ys, rfl, hy⟩ := h2
        exact ⟨⟨ys, rfl, tq_holds h.1 hy⟩, cqs_holds h.2 (fun i x hx => hv (i + 1) x hx) (by simpa using hl)⟩
    · cases h
theorem knownL {E : Env} {f : Nat} {ls : List (List Rat)} {r : AV} (np : ∀ x off, r ≠ .ptr x off) (h : ∀ (w : World) (vs : List Value), ArgsQ w vs ls → Calls Tryz.prog f vs.toArray w fun e w' => ∃ x, e = .returned x ∧ (∀ β, r.holds E β w' x) ∧ Ext w w') : KnownR E f (cqs ls) r :=
  ⟨fun _ hc _ w vs hv hl => h w vs (cqs_holds hc hv hl), np⟩
theorem qs_rat {w : World} {v : Value} {q : Rat} (h : IsQs w v [q]) : IsRat w v q := by
  obtain ⟨vs, rfl, x, r, rfl, h1, rfl⟩ := h
  rw [List.append_nil]
  exact h1
theorem qs_root {w : World} {v : Value} {a b c : Rat} (h : IsQs w v [a, b, c]) : IsRoot w v a b c := by
  obtain ⟨vs, rfl, h⟩ := h
  exact rats3 h
theorem argsQ1 {w : World} {vs : List Value} {l : List Rat} (h : ArgsQ w vs [l]) : ∃ v, vs = [v] ∧ IsQs w v l := by
  match vs, h with
  | [v], h => exact ⟨v, rfl, h.1⟩
theorem argsQ2 {w : World} {vs : List Value} {l m : List Rat} (h : ArgsQ w vs [l, m]) : ∃ v u, vs = [v, u] ∧ IsQs w v l ∧ IsQs w u m := by
  match vs, h with
  | [v, u], h => exact ⟨v, u, rfl, h.1, h.2.1⟩
def foldC : Chunk → Chunk
  | .int t l => .int t.fold l
  | .n k t => .n k t.fold
  | c => c
def foldAV : AV → AV
  | .val b cs => .val b (cs.map foldC)
  | .tup l => .tup (l.map fun p => (p.1, p.2.map foldC))
  | x => x
theorem foldC_holds {E : Env} {w : World} {c : Chunk} {vs : List Value} (h : c.holds E w vs) : (foldC c).holds E w vs := by
  cases c with
  | int t l =>
    obtain ⟨x, y, rfl, h1, h2⟩ := h
    exact ⟨x, y, rfl, by rw [IT.fold_den]; exact h1, by rw [IT.fold_den]; exact h2⟩
  | n k t =>
    show vs = [.int k (t.fold.den E)]
    rw [IT.fold_den]
    exact h
  | _ => exact h
theorem foldCs_holds {E : Env} {w : World} : ∀ {cs : List Chunk} {vs : List Value}, chunks E w cs vs → chunks E w (cs.map foldC) vs
  | [], _, h => h
  | _ :: _, _, ⟨l, r, e, h1, h2⟩ => ⟨l, r, e, foldC_holds h1, foldCs_holds h2⟩
theorem foldO_holds {E : Env} {w : World} {b : Bool} {cs : List Chunk} {v : Value} (h : one E w (b, cs) v) : one E w (b, cs.map foldC) v := by
  cases b with
  | true =>
    obtain ⟨vs, rfl, h1⟩ := h
    exact ⟨vs, rfl, foldCs_holds h1⟩
  | false => exact ⟨foldCs_holds h.1, h.2⟩
theorem foldT_holds {E : Env} {w : World} : ∀ {l : List (Bool × List Chunk)} {vs : List Value}, tupAll E w l vs → tupAll E w (l.map fun p => (p.1, p.2.map foldC)) vs
  | [], _, h => h
  | _ :: _, _, ⟨v, r, e, h1, h2⟩ => ⟨v, r, e, foldO_holds h1, foldT_holds h2⟩
theorem foldAV_holds {E : Env} {β : Nat → Nat} {w : World} {x : AV} {v : Value} (h : x.holds E β w v) : (foldAV x).holds E β w v := by
  cases x with
  | val b cs => exact foldO_holds h
  | tup l =>
    obtain ⟨vs, rfl, h1⟩ := h
    exact ⟨vs, rfl, foldT_holds h1⟩
  | ptr x off => exact h
  | bad => exact h
def kFold (k : Con) : Con := fun args G => (k args G).map foldAV
theorem kFold_ok {P : Program} {E : Env} {f : Nat} {k : Con} (h : ConOK P E f k) : ConOK P E f (kFold k) := by
  refine ⟨?_, ?_, h.body⟩
  · intro args G r hr hG β w vs hv hl
    obtain ⟨y, hy, rfl⟩ := Option.map_eq_some_iff.1 hr
    refine (h.calls args G y hy hG β w vs hv hl).mono ?_
    rintro e w' ⟨v, rfl, hh, ex⟩
    exact ⟨v, rfl, foldAV_holds hh, ex⟩
  · intro args G r hr x off e
    obtain ⟨y, hy, rfl⟩ := Option.map_eq_some_iff.1 hr
    have := h.nptr args G y hy x off
    cases y with
    | ptr a b => exact this e
    | _ => cases e
def limB (n : Nat) (q : Rat) : Bool := decide ((limbs q.num.natAbs).length ≤ n) && decide ((limbs (q.den : Int).natAbs).length ≤ n)
theorem limB_ok {n : Nat} {q : Rat} (h : limB n q = true) : LimQ n q := by
  unfold limB at h
  rw [Bool.and_eq_true, decide_eq_true_iff, decide_eq_true_iff] at h
  exact h
def limB3 (n : Nat) (a b c : Rat) : Bool := limB n a && (limB n b && limB n c)
theorem limB3_ok {n : Nat} {a b c : Rat} (h : limB3 n a b c = true) : LimR n a b c := by
  unfold limB3 at h
  rw [Bool.and_eq_true, Bool.and_eq_true] at h
  exact ⟨limB_ok h.1, limB_ok h.2.1, limB_ok h.2.2⟩
theorem rd_of {b c : Rat} (h : Rdb b c = true) : Rd b c := Rdb_iff.1 h
theorem cmp_known {E : Env} {a b c a' b' c' : Rat} {z : Int} (h1 : Rdb b c = true) (h2 : Rdb b' c' = true) (l : LimR 9 a b c) (l' : LimR 9 a' b' c') (hz : cmR a b c a' b' c' = z) : KnownR E 75 (cqs [[a, b, c], [a', b', c']]) (rNq z) := by
  refine knownL (fun x off e => by cases e) fun w vs hv => ?_
  obtain ⟨v, u, rfl, k1, k2⟩ := argsQ2 hv
  refine (radCmp_calls w v u a b c a' b' c' (rd_of h1) (rd_of h2) (qs_root k1) (qs_root k2) l l').mono ?_
  rintro e w' ⟨rfl, ex⟩
  exact ⟨_, rfl, fun β => one_num.2 (by rw [hz]; rfl), ex⟩
def lq (q : Rat) : IT2 := (.lit q.num, .lit (q.den : Int))
theorem equal_known {E : Env} {a b c a' b' c' : Rat} {z : Bool} (h1 : Rdb b c = true) (h2 : Rdb b' c' = true) (l : LimR 9 a b c) (l' : LimR 9 a' b' c') (hz : (cmR a b c a' b' c' == 0) = z) : KnownR E 71 (cqs [[a, b, c], [a', b', c']]) (rBl z) := by
  refine knownL (fun x off e => by cases e) fun w vs hv => ?_
  obtain ⟨v, u, rfl, k1, k2⟩ := argsQ2 hv
  refine (radEqual_calls w v u a b c a' b' c' (rd_of h1) (rd_of h2) (qs_root k1) (qs_root k2) l l').mono ?_
  rintro e w' ⟨rfl, ex⟩
  exact ⟨_, rfl, fun β => one_bool.2 (by rw [hz]; rfl), ex⟩
end Go.Proofs.YtifeacfljfmnpaaGreat
end

section
set_option maxRecDepth 100000
namespace Go.Proofs.YtifeacfljfmnpaaGreat
open Go.RowKit
def fBq (b : Bool) : Tree := .leaf [(false, [.b (.lit b)])]
def tFew : Nat → Nat → Tree
  | _, 0 => fBq true
  | i, n + 1 => .ite (.lt (.lit 2) (.rlen (2 * i))) (fBq false) (.ite (.lt (.lit 2) (.rlen (2 * i + 1))) (fBq false) (.ite (.var i) (tFew (i + 1) n) (fBq false)))
def okw (E : Env) (i : Nat) : Prop := (E.r (2 * i)).2.length ≤ 2 ∧ (E.r (2 * i + 1)).2.length ≤ 2 ∧ E.b i = true
theorem tFew_pick {E : Env} : ∀ (n i : Nat), ∃ b, (tFew i n).pick E = [(false, [.b (.lit b)])] ∧ (b = true ↔ ∀ j, j < n → okw E (i + j))
  | 0, i => ⟨true, rfl, by simp⟩
  | n + 1, i => by
    obtain ⟨b, h1, h2⟩ := tFew_pick (E := E) n (i + 1)
    have c1 : (BT.lt (.lit 2) (.rlen (2 * i))).den E = decide ((E.r (2 * i)).2.length > 2) := by
      show decide ((2 : Int) < ((E.r (2 * i)).2.length : Int)) = _
      rw [decide_eq_decide]; omega
    have c2 : (BT.lt (.lit 2) (.rlen (2 * i + 1))).den E = decide ((E.r (2 * i + 1)).2.length > 2) := by
      show decide ((2 : Int) < ((E.r (2 * i + 1)).2.length : Int)) = _
      rw [decide_eq_decide]; omega
    have c3 : (BT.var i).den E = E.b i := rfl
    have bad : ¬ okw E i → ∃ b, (fBq false).pick E = [(false, [.b (.lit b)])] ∧ (b = true ↔ ∀ j, j < n + 1 → okw E (i + j)) := fun h => ⟨false, rfl, by
      constructor
      · intro h; cases h
      · intro g; exact absurd (g 0 (by omega)) h⟩
    simp only [tFew, Tree.pick, c1, c2, c3, decide_eq_true_eq]
    split
    · exact bad (fun h => by unfold okw at h; omega)
    · split
      · exact bad (fun h => by unfold okw at h; omega)
      · split
        · rename_i g1 g2 g3
          refine ⟨b, h1, ?_⟩
          rw [h2]
          constructor
          · intro h j hj
            match j with
            | 0 =>
              show okw E i
              exact ⟨by omega, by omega, g3⟩
            | j + 1 => have := h j (by omega); rwa [show i + 1 + j = i + (j + 1) by omega] at this
          · intro h j hj
            have := h (j + 1) (by omega)
            rwa [show i + (j + 1) = i + 1 + j by omega] at this
        · rename_i g3
          exact bad (fun h => g3 h.2.2)
def rawW (l : List RI) (i : Nat) : RI := l.getD i (false, [])
def rawL (i n : Nat) : List Chunk := (List.range n).map fun k => .raw (i + k)
theorem ints_raws2 {E E' : Env} {w : World} {i' l : Nat} : ∀ (n i : Nat) (vs : List Value), chunks E w ((List.range n).map fun k => .int (.var (i + k)) l) vs → (∀ k, k < n → E'.r (i' + k) = (decide (E.i (i + k) < 0), limbs (E.i (i + k)).natAbs)) → chunks E' w (rawL i' n) vs := by
  intro n
  induction n generalizing i' with
  | zero => intro i vs h _; exact h
  | succ n ih =>
    intro i vs h e
    unfold rawL
    rw [List.range_succ_eq_map, List.map_cons, List.map_map] at h ⊢
    obtain ⟨l', r, rfl, h1, h2⟩ := h
    refine ⟨l', r, rfl, int_chunk h1 (e 0 (by omega)), ?_⟩
    have key := ih (i' := i' + 1) (i + 1) r (by
      have : (List.range n).map ((fun k => Chunk.int (.var (i + k)) l) ∘ Nat.succ) = (List.range n).map fun k => Chunk.int (.var (i + 1 + k)) l := List.map_congr_left fun k _ => by simp only [Function.comp]; rw [show i + (k + 1) = i + 1 + k by omega]
      rw [← this]; exact h2) (fun k hk => by
        have := e (k + 1) (by omega)
        rwa [show i + (k + 1) = i + 1 + k by omega, show i' + (k + 1) = i' + 1 + k by omega] at this)
    have : (List.range n).map ((fun k => Chunk.raw (i' + k)) ∘ Nat.succ) = (List.range n).map fun k => Chunk.raw (i' + 1 + k) := List.map_congr_left fun k _ => by simp only [Function.comp]; rw [show i' + (k + 1) = i' + 1 + k by omega]
    rw [this]; exact key
theorem raws_raws2 {E E' : Env} {w : World} : ∀ (n i i' : Nat) (vs : List Value), chunks E w (rawL i n) vs → (∀ k, k < n → E'.r (i' + k) = E.r (i + k)) → chunks E' w (rawL i' n) vs := by
  intro n
  induction n with
  | zero => intro i i' vs h _; exact h
  | succ n ih =>
    intro i i' vs h e
    unfold rawL at h ⊢
    rw [List.range_succ_eq_map, List.map_cons, List.map_map] at h ⊢
    obtain ⟨l', r, rfl, ⟨x, y, rfl, h1⟩, h2⟩ := h
    refine ⟨_, r, rfl, ⟨x, y, rfl, ?_⟩, ?_⟩
    · have := e 0 (by omega)
      rw [this]; exact h1
    · have key := ih (i + 1) (i' + 1) r (by
        have : (List.range n).map ((fun k => Chunk.raw (i + k)) ∘ Nat.succ) = rawL (i + 1) n := List.map_congr_left fun k _ => by simp only [Function.comp]; rw [show i + (k + 1) = i + 1 + k by omega]
        rw [← this]; exact h2) (fun k hk => by
          have := e (k + 1) (by omega)
          rwa [show i + (k + 1) = i + 1 + k by omega, show i' + (k + 1) = i' + 1 + k by omega] at this)
      have : (List.range n).map ((fun k => Chunk.raw (i' + k)) ∘ Nat.succ) = rawL (i' + 1) n := List.map_congr_left fun k _ => by simp only [Function.comp]; rw [show i' + (k + 1) = i' + 1 + k by omega]
      rw [this]; exact key
theorem smN_rawQ {n : Nat} {w : World} {v : Value} {q : Rat} (h : IsRat w v q) (l : LimQ n q) : smN n (decide (q.num < 0), limbs q.num.natAbs) (decide ((q.den : Int) < 0), limbs (q.den : Int).natAbs) = true := by
  unfold smN
  have l1 : (limbs q.num.natAbs).length ≤ n := l.1
  have l2 : (limbs (q.den : Int).natAbs).length ≤ n := l.2
  rw [(rat_raw h).2, decide_eq_true l1, decide_eq_true l2]
  rfl
end Go.Proofs.YtifeacfljfmnpaaGreat
end

section
set_option maxRecDepth 100000
namespace Go.Proofs.YtifeacfljfmnpaaGreat
open Go.RowKit
theorem root_rats {w : World} {v : Value} {a b c : Rat} (h : IsRoot w v a b c) : ∃ vs : List Value, v = .agg vs.toArray ∧ RatsQ w vs [a, b, c] := by
  obtain ⟨x, y, z, rfl, h1, h2, h3⟩ := h
  exact ⟨_, rfl, x, _, rfl, h1, y, _, rfl, h2, z, [], by rw [List.append_nil], h3, rfl⟩
theorem rq_rawQ (q : Rat) : rq (decide (q.num < 0), limbs q.num.natAbs) (decide ((q.den : Int) < 0), limbs (q.den : Int).natAbs) = q := by
  have e3 : sgn (decide (q.num < 0)) (val (limbs q.num.natAbs)) = q.num := by rw [val_limbs]; exact sgn_self q.num
  have e4 : sgn (decide ((q.den : Int) < 0)) (val (limbs (q.den : Int).natAbs)) = (q.den : Int) := by rw [val_limbs]; exact sgn_self (q.den : Int)
  show Rat.divInt _ _ = _
  rw [e3, e4]
  exact Rat.num_divInt_den q
theorem lawQ_calls {C : Cfg} {E : Env} (hC : CfgOK Tryz.prog E C) (hw : ∀ w, C.wok w) {G : Asm} (hG : G.holds E) {f : FuncId} {fn : Func} (hf : Tryz.prog.funcs[f]? = some fn) (h4 : fn.results.toList.length ≤ 4) {args : List AV} (hT : okTr (funE C fn G args) = true) (hn : args.length ≤ fn.ntmps) (hp : args.all noPtr = true) (w : World) (vs : List Value) (hl : vs.length = args.length)
    (hv : ∀ (i : Nat) (x : AV), args[i]? = some x → ∃ v, vs[i]? = some v ∧ ∀ β, x.holds E β w v) : Calls Tryz.prog f vs.toArray w (IsT w) := by
  obtain ⟨T, hT, hall⟩ := okTr_spec hT
  refine (fun_sound mixed hC hG hf h4 hT hn hp w vs hl (fun i x hx => ?_) (fun w' _ => hw w')).mono ?_
  · obtain ⟨v, h1, h2⟩ := hv i x hx
    exact ⟨fun _ => 0, v, h1, h2 _⟩
  · rintro e w' ⟨β, v, rfl, hh, ex⟩
    rw [allT_out hall hh]
    exact ⟨rfl, ex⟩
end Go.Proofs.YtifeacfljfmnpaaGreat
end

section
set_option maxRecDepth 100000
namespace Go.Proofs.YtifeacfljfmnpaaGreat
open Go.RowKit
def cts : List (List IT2) → List AV → Bool
  | [], [] => true
  | l :: ls, .val true cs :: xs => t6 l cs && cts ls xs
  | _, _ => false
def RepsL (E : Env) : List (List IT2) → List (List Rat) → Prop
  | [], [] => True
  | t :: ts, q :: qs => Reps E t q ∧ RepsL E ts qs
  | _, _ => False
theorem cts_holds {E : Env} {β : Nat → Nat} {w : World} : ∀ {ts : List (List IT2)} {ls : List (List Rat)} {args : List AV} {vs : List Value}, RepsL E ts ls → cts ts args = true → (∀ (i : Nat) (x : AV), args[i]? = some x → ∃ v, vs[i]? = some v ∧ x.holds E β w v) → vs.length = args.length → ArgsQ w vs ls
  | [], [], args, vs, _, h, hv, hl => by
    unfold cts at h
    split at h
    · match vs, hl with
      | [], _ => exact trivial
    · contradiction
    · cases h
  | [], _ :: _, _, _, hr, _, _, _ => hr.elim
  | _ :: _, [], _, _, hr, _, _, _ => hr.elim
  | t :: ts, l :: ls, args, vs, hr, h, hv, hl => by
    unfold cts at h
    split at h
    · contradiction
    · rename_i l' ls' cs xs e
      cases e
      rw [Bool.and_eq_true] at h
      obtain ⟨v, h1, h2⟩ := hv 0 _ rfl
      match vs, hl, h1 with
      | u :: us, hl, h1 =>
        injection h1 with h1
        subst h1
        obtain ⟨ys, rfl, hy⟩ := h2
        exact ⟨⟨ys, rfl, t6_holds hr.1 h.1 hy⟩, cts_holds hr.2 h.2 (fun i x hx => hv (i + 1) x hx) (by simpa using hl)⟩
    · cases h
theorem knownT {E : Env} {f : Nat} {ts : List (List IT2)} {ls : List (List Rat)} {r : AV} (hr : RepsL E ts ls) (np : ∀ x off, r ≠ .ptr x off) (h : ∀ (w : World) (vs : List Value), ArgsQ w vs ls → Calls Tryz.prog f vs.toArray w fun e w' => ∃ x, e = .returned x ∧ (∀ β, r.holds E β w' x) ∧ Ext w w') : KnownR E f (cts ts) r :=
  ⟨fun _ hc _ w vs hv hl => h w vs (cts_holds hr hc hv hl), np⟩
def RawN (w : World) (v : Value) (n : Nat) (l : List RI) : Prop := ∃ vs : List Value, v = .agg vs.toArray ∧ chunks (bE okQ l) w (rawL 0 (2 * n)) vs
theorem rawL_two (i n : Nat) : rawL i (2 * (n + 1)) = .raw i :: .raw (i + 1) :: rawL (i + 2) (2 * n) := by
  unfold rawL
  rw [show 2 * (n + 1) = 2 * n + 1 + 1 by omega, List.range_succ_eq_map, List.map_cons, List.range_succ_eq_map, List.map_cons, List.map_map, List.map_cons, List.map_map]
  congr 2
  refine List.map_congr_left fun k _ => ?_
  show Chunk.raw (i + (k + 1 + 1)) = Chunk.raw _
  rw [show i + (k + 1 + 1) = i + 2 + k by omega]
theorem qs_reps (qs : List Rat) : ∀ j q, qs[j]? = some q → RepQ (qE qs) (qI (0 + 2 * j)) q := by
  intro j q h
  have e : qs.getD j 0 = q := by rw [List.getD_eq_getElem?_getD, h]; rfl
  refine ⟨?_, ?_⟩
  · show (if (0 + 2 * j) % 2 = 0 then (qs.getD ((0 + 2 * j) / 2) 0).num else _) = _
    rw [if_pos (by omega), show (0 + 2 * j) / 2 = j by omega, e]
  · show (if (0 + 2 * j + 1) % 2 = 0 then _ else ((qs.getD ((0 + 2 * j + 1) / 2) 0).den : Int)) = _
    rw [if_neg (by omega), show (0 + 2 * j + 1) / 2 = j by omega, e]
theorem rawArg {w : World} {v : Value} {n : Nat} {l : List RI} (h : RawN w v n l) : ∀ β, (AV.val true (rawL 0 (2 * n))).holds (bE okQ l) β w v := fun _ => h
end Go.Proofs.YtifeacfljfmnpaaGreat
end

section
set_option maxRecDepth 100000
namespace Go.Proofs.YtifeacfljfmnpaaGreat
open Go.ChangeShapes Go.WideShapes Go.ChangeAt Go.RowKit Go.Joins
def RawsV (w : World) : List Value → List (RI × RI) → Prop
  | vs, [] => vs = []
  | vs, p :: l => ∃ x r, vs = x ++ r ∧ RawQ w (.agg x.toArray) p.1.1 p.1.2 p.2.1 p.2.2 ∧ RawsV w r l
theorem rawsV_chunks {E : Env} {w : World} : ∀ (ps : List (RI × RI)) (i : Nat) (vs : List Value), RawsV w vs ps → (∀ j p, ps[j]? = some p → E.r (i + 2 * j) = p.1 ∧ E.r (i + 2 * j + 1) = p.2) → chunks E w (rawL i (2 * ps.length)) vs
  | [], _, vs, h, _ => h
  | p :: ps, i, vs, ⟨x, r, e, h1, h2⟩, he => by
    subst e
    rw [List.length_cons, rawL_two]
    obtain ⟨e1, e2⟩ := he 0 p rfl
    rw [Nat.mul_zero, Nat.add_zero] at e1 e2
    refine two_raws.2 ⟨x, r, rfl, by rw [e1, e2]; exact h1, rawsV_chunks ps (i + 2) r h2 fun j q hq => ?_⟩
    have := he (j + 1) q hq
    rwa [show i + 2 * (j + 1) = i + 2 + 2 * j by omega] at this
def flatP : List (RI × RI) → List RI
  | [] => []
  | p :: l => p.1 :: p.2 :: flatP l
theorem flatP_at : ∀ (ps : List (RI × RI)) (j : Nat) (p : RI × RI), ps[j]? = some p → (flatP ps).getD (2 * j) (false, []) = p.1 ∧ (flatP ps).getD (2 * j + 1) (false, []) = p.2
  | [], _, _, h => by cases h
  | q :: ps, 0, p, h => by injection h with h; subst h; exact ⟨rfl, rfl⟩
  | q :: ps, j + 1, p, h => by
    have := flatP_at ps j p h
    rw [show 2 * (j + 1) = 2 * j + 1 + 1 by omega]
    exact this
theorem rawN_of {w : World} {vs : List Value} {ps : List (RI × RI)} (h : RawsV w vs ps) : RawN w (.agg vs.toArray) ps.length (flatP ps) :=
  ⟨vs, rfl, rawsV_chunks ps 0 vs h fun j p hp => by
    rw [Nat.zero_add]
    exact flatP_at ps j p hp⟩
theorem okWide_arr {W : World} {r : Reach} {b0 : Nat} {t e : TypeId} {n : Nat} {v : Value} (ht : Tryz.prog.underlying t = some (.array n e)) (h : Value.okWide Tryz.prog W r b0 t v) : ∃ cs, v = .agg cs ∧ cs.size = Tryz.prog.cellsOf t := by
  unfold Value.okWide at h
  rw [ht] at h
  obtain ⟨cs, h1, h2, _⟩ := h
  exact ⟨cs, h1, h2⟩
end Go.Proofs.YtifeacfljfmnpaaGreat
end

section
set_option maxRecDepth 100000
namespace Go.Proofs.YtifeacfljfmnpaaGreat
open Go.RowKit
def termC (k : Nat) : List IT2 → List Chunk
  | [] => []
  | t :: ts => .int t.1 k :: .int t.2 k :: termC k ts
theorem termC_holds {E : Env} {w : World} {k : Nat} : ∀ {ts : List IT2} {qs : List Rat} {vs : List Value}, Reps E ts qs → RatsQ w vs qs → LimQs k qs → chunks E w (termC k ts) vs
  | [], [], vs, _, h, _ => h
  | [], _ :: _, _, hr, _, _ => hr.elim
  | _ :: _, [], _, hr, _, _ => hr.elim
  | t :: ts, q :: qs, vs, hr, ⟨x, r, e, h1, h2⟩, hl => by
    subst e
    exact (two_chunks hr.1).2 ⟨x, r, rfl, ⟨h1, (hl q (by simp)).1, (hl q (by simp)).2⟩, termC_holds hr.2 h2 (fun p hp => hl p (by simp [hp]))⟩
theorem roots_args {w : World} {vs : List Value} {a b c a' b' c' : Rat} (h : ArgsQ w vs [[a, b, c], [a', b', c']]) : ∃ v u, vs = [v, u] ∧ IsRoot w v a b c ∧ IsRoot w u a' b' c' := by
  obtain ⟨v, u, rfl, h1, h2⟩ := argsQ2 h
  exact ⟨v, u, rfl, qs_root h1, qs_root h2⟩
theorem cmpT {E : Env} {t u : List IT2} {a b c a' b' c' : Rat} {z : Int} (h1 : Reps E t [a, b, c]) (h2 : Reps E u [a', b', c']) (R : Rd b c) (R' : Rd b' c') (l : LimR 9 a b c) (l' : LimR 9 a' b' c') (hz : cmR a b c a' b' c' = z) : KnownR E 75 (cts [t, u]) (rNq z) := by
  refine knownT (ls := [[a, b, c], [a', b', c']]) ⟨h1, h2, trivial⟩ (fun x off e => by cases e) fun w vs hv => ?_
  obtain ⟨v, u, rfl, k1, k2⟩ := roots_args hv
  refine (radCmp_calls w v u a b c a' b' c' R R' k1 k2 l l').mono ?_
  rintro e w' ⟨rfl, ex⟩
  exact ⟨_, rfl, fun β => one_num.2 (by rw [hz]; rfl), ex⟩
theorem three_argsQ {E : Env} {w : World} {x y z : AV} {v u t : Value} (h1 : ∀ β, x.holds E β w v) (h2 : ∀ β, y.holds E β w u) (h3 : ∀ β, z.holds E β w t) : ∀ (i : Nat) (s : AV), [x, y, z][i]? = some s → ∃ r, [v, u, t][i]? = some r ∧ ∀ β, s.holds E β w r := by
  intro i s hs
  match i, hs with
  | 0, hs => injection hs with hs; subst hs; exact ⟨v, rfl, h1⟩
  | 1, hs => injection hs with hs; subst hs; exact ⟨u, rfl, h2⟩
  | 2, hs => injection hs with hs; subst hs; exact ⟨t, rfl, h3⟩
end Go.Proofs.YtifeacfljfmnpaaGreat
end

section
set_option maxRecDepth 100000
namespace Go.Proofs.YtifeacfljfmnpaaGreat
open Go.RowKit
theorem HasSg.add_both {f g : Sq} {s t u : Int} (h : HasSg f s) (k : HasSg g t) (hu : HasSg (fun n => f n + g n) u) : (0 ≤ s → 0 ≤ t → max s t ≤ u) ∧ (s ≤ 0 → t ≤ 0 → u ≤ min s t) := by
  have neg : ∀ {f g : Sq}, PosS (fun n => - f n) → PosS (fun n => - g n) → PosS fun n => - (f n + g n) := fun h k => pos_congr (fun n => by grind) (pos_add h k)
  rcases h with ⟨rfl, h⟩ | ⟨rfl, h⟩ | ⟨rfl, h⟩ <;> rcases k with ⟨rfl, k⟩ | ⟨rfl, k⟩ | ⟨rfl, k⟩
  · have := hu.unique (.inl ⟨rfl, pos_add h k⟩); omega
  · have := hu.unique (.inl ⟨rfl, pos_add_null h k⟩); omega
  · exact ⟨fun _ j => by omega, fun j _ => by omega⟩
  · have := hu.unique (.inl ⟨rfl, pos_congr (fun n => by grind) (pos_add_null k h)⟩); omega
  · have := hu.unique (.inr (.inl ⟨rfl, null_add h k⟩)); omega
  · have := hu.unique (.inr (.inr ⟨rfl, pos_congr (fun n => by grind) (pos_add_null k (null_neg h))⟩)); omega
  · exact ⟨fun j _ => by omega, fun _ j => by omega⟩
  · have := hu.unique (.inr (.inr ⟨rfl, pos_congr (fun n => by grind) (pos_add_null h (null_neg k))⟩)); omega
  · have := hu.unique (.inr (.inr ⟨rfl, neg h k⟩)); omega
theorem cmR_trans {a b c a' b' c' a2 b2 c2 : Rat} (h1 : 0 ≤ c) (h2 : 0 ≤ c') (h3 : 0 ≤ c2) :
    (0 ≤ cmR a b c a' b' c' → 0 ≤ cmR a' b' c' a2 b2 c2 → max (cmR a b c a' b' c') (cmR a' b' c' a2 b2 c2) ≤ cmR a b c a2 b2 c2) ∧ (cmR a b c a' b' c' ≤ 0 → cmR a' b' c' a2 b2 c2 ≤ 0 → cmR a b c a2 b2 c2 ≤ min (cmR a b c a' b' c') (cmR a' b' c' a2 b2 c2)) := by
  obtain ⟨m, hm⟩ := exists_rt h1
  obtain ⟨n, hn⟩ := exists_rt h2
  obtain ⟨k, hk⟩ := exists_rt h3
  exact HasSg.add_both (cmR_sg h1 h2 hm hn) (cmR_sg h2 h3 hn hk) ((cmR_sg h1 h3 hm hk).of_eq fun i => by grind)
theorem cmR_anti {a b c a' b' c' : Rat} (h1 : 0 ≤ c) (h2 : 0 ≤ c') : cmR a' b' c' a b c = - cmR a b c a' b' c' := by
  obtain ⟨m, hm⟩ := exists_rt h1
  obtain ⟨n, hn⟩ := exists_rt h2
  exact (cmR_sg h2 h1 hn hm).unique ((cmR_sg (a := a) (b := b) (a' := a') (b' := b') h1 h2 hm hn).neg.of_eq fun i => by grind)
theorem cmR_shift {a b c a' b' c' k : Rat} (h1 : 0 ≤ c) (h2 : 0 ≤ c') : cmR (a + k) b c (a' + k) b' c' = cmR a b c a' b' c' := by
  obtain ⟨m, hm⟩ := exists_rt h1
  obtain ⟨n, hn⟩ := exists_rt h2
  exact (cmR_sg h1 h2 hm hn).unique ((cmR_sg (a := a) (b := b) (a' := a') (b' := b') h1 h2 hm hn).of_eq fun i => by grind)
def okOd (s t u : Int) : Bool := (!(decide (0 ≤ s) && decide (0 ≤ t)) || decide (max s t ≤ u)) && (!(decide (s ≤ 0) && decide (t ≤ 0)) || decide (u ≤ min s t))
end Go.Proofs.YtifeacfljfmnpaaGreat
end

section
set_option maxRecDepth 100000
namespace Go.Proofs.YtifeacfljfmnpaaGreat
open Go.RowKit
theorem raws_ratsN {E : Env} {w : World} {m : Nat} : ∀ (n i : Nat) (vs : List Value), chunks E w (rawL i (2 * n)) vs → (∀ j, j < n → smN m (E.r (i + 2 * j)) (E.r (i + 2 * j + 1)) = true) → ∃ qs : List Rat, qs = (List.range n).map (fun j => rq (E.r (i + 2 * j)) (E.r (i + 2 * j + 1))) ∧ RatsQ w vs qs ∧ LimQs m qs := by
  intro n
  induction n with
  | zero => intro i vs h _; exact ⟨[], rfl, h, fun q hq => by cases hq⟩
  | succ n ih =>
    intro i vs h hs
    rw [rawL_two] at h
    obtain ⟨x, r, rfl, h1, h2⟩ := two_raws.1 h
    obtain ⟨k1, k2⟩ := smN_rat h1 (hs 0 (by omega))
    obtain ⟨qs, e, h3, h4⟩ := ih (i + 2) r h2 (fun j hj => by
      have := hs (j + 1) (by omega)
      rwa [show i + 2 * (j + 1) = i + 2 + 2 * j by omega] at this)
    refine ⟨rq (E.r i) (E.r (i + 1)) :: qs, ?_, ⟨x, r, rfl, k1, h3⟩, fun q hq => ?_⟩
    · rw [List.range_succ_eq_map, List.map_cons, List.map_map, e]
      refine congrArg (_ :: ·) (List.map_congr_left fun j _ => ?_)
      show rq _ _ = rq (E.r (i + 2 * (j + 1))) (E.r (i + 2 * (j + 1) + 1))
      rw [show i + 2 * (j + 1) = i + 2 + 2 * j by omega]
    · rcases List.mem_cons.1 hq with rfl | hq
      · exact k2
      · exact h4 q hq
theorem rsmall3_calls (w : World) (v : Value) (p q : RI) (h : RawQ w v p.1 p.2 q.1 q.2) :
    Calls Tryz.prog 62 #[v, .int .i64 3] w fun e w' => e = .returned (.bool (smN 3 p q)) ∧ Ext w w' := by
  refine (fun_sound (C := cfgOf [(18, kRVN 3)]) (E := bE okQ [p, q]) (args := [argRaw 0 1, .val false [.n .i64 (.lit 3)]])
    (T := .ite (.le (.rlen 0) (.lit 3)) (.ite (.le (.rlen 1) (.lit 3)) (.leaf [(false, [.b (.var 0)])]) (.leaf [(false, [.b (.lit false)])])) (.leaf [(false, [.b (.lit false)])]))
    mixed (cfg_ok (.cons (kRVN_ok (bE_ok _) (fun w v s1 s2 xs1 xs2 h l1 l2 => rvalid_rat_calls w v s1 s2 xs1 xs2 h l1 l2) ⟨_, Tryz.func18, by decide +kernel, by kernel_rfl⟩) .nil)) no_asm Tryz.func62 (by decide +kernel) (by kernel_rfl) (by decide +kernel) rfl w [v, .int .i64 3] rfl ?_).mono ?_
  · intro i x hx
    match i, hx with
    | 0, hx => injection hx with hx; subst hx; exact ⟨fun _ => 0, v, rfl, argRaw_holds h rfl rfl⟩
    | 1, hx => injection hx with hx; subst hx; exact ⟨fun _ => 0, _, rfl, one_num.2 rfl⟩
  · rintro e w' ⟨β, u, rfl, hh, ex⟩
    have t1 : (BT.le (.rlen 0) (.lit 3)).den (bE okQ [p, q]) = decide (p.2.length ≤ 3) := by
      show decide ((p.2.length : Int) ≤ 3) = _
      rw [decide_eq_decide]; omega
    have t2 : (BT.le (.rlen 1) (.lit 3)).den (bE okQ [p, q]) = decide (q.2.length ≤ 3) := by
      show decide ((q.2.length : Int) ≤ 3) = _
      rw [decide_eq_decide]; omega
    simp only [Tree.pick, t1, t2, decide_eq_true_iff] at hh
    unfold smN
    split at hh
    · rename_i c1
      split at hh
      · rename_i c2
        have := one_bool.1 hh
        subst this
        rw [decide_eq_true c1, decide_eq_true c2]
        exact ⟨rfl, ex⟩
      · rename_i c2
        have := one_bool.1 hh
        subst this
        rw [decide_eq_false c2, Bool.and_false]
        exact ⟨rfl, ex⟩
    · rename_i c1
      have := one_bool.1 hh
      subst this
      rw [decide_eq_false c1]
      exact ⟨rfl, ex⟩
def ptb (b d c : Rat) : Bool := if b = 0 ∧ d = 0 then decide (c = 0) else if 0 < c then !(sqB c.num && sqB (c.den : Int)) else false
def RdP (b d c : Rat) : Prop := ptb b d c = true
theorem RdP.cases {b d c : Rat} (h : RdP b d c) : (b = 0 ∧ d = 0 ∧ c = 0) ∨ (¬ (b = 0 ∧ d = 0) ∧ Rd 1 c) := by
  unfold RdP ptb at h
  split at h
  · rename_i k
    exact .inl ⟨k.1, k.2, of_decide_eq_true h⟩
  · rename_i k
    refine .inr ⟨k, Rdb_iff.1 ?_⟩
    rw [Rdb_cases, if_neg (by decide)]
    split at h
    · rename_i k2; rw [if_pos k2]; exact h
    · cases h
theorem RdP.mk {b d c : Rat} (h : (b = 0 ∧ d = 0 ∧ c = 0) ∨ (¬ (b = 0 ∧ d = 0) ∧ Rd 1 c)) : RdP b d c := by
  unfold RdP ptb
  rcases h with ⟨h1, h2, h3⟩ | ⟨h1, R⟩
  · rw [if_pos ⟨h1, h2⟩]; exact decide_eq_true h3
  · rw [if_neg h1]
    have := Rdb_iff.2 R
    rw [Rdb_cases, if_neg (by decide)] at this
    exact this
theorem Rd.one {b c : Rat} (h : b ≠ 0) (R : Rd 1 c) : Rd b c := by
  rcases R with ⟨h1, _⟩ | ⟨_, h2⟩
  · exact absurd h1 (by decide)
  · exact .inr ⟨h, h2⟩
theorem RdP.fst {b d c : Rat} (h : RdP b d c) : Rd b (rC b c) := by
  by_cases hb : b = 0
  · subst hb; rw [rC_zero]; exact .inl ⟨rfl, rfl⟩
  · rw [rC_ne hb]
    rcases h.cases with ⟨h1, _⟩ | ⟨_, R⟩
    · exact absurd h1 hb
    · exact R.one hb
theorem RdP.swap {b d c : Rat} (h : RdP b d c) : RdP d b c := .mk (by
  rcases h.cases with ⟨h1, h2, h3⟩ | ⟨h1, R⟩
  · exact .inl ⟨h2, h1, h3⟩
  · exact .inr ⟨fun k => h1 ⟨k.2, k.1⟩, R⟩)
theorem RdP.snd {b d c : Rat} (h : RdP b d c) : Rd d (rC d c) := h.swap.fst
theorem RdP.nonneg {b d c : Rat} (h : RdP b d c) : 0 ≤ c := by
  rcases h.cases with ⟨_, _, h3⟩ | ⟨_, R⟩
  · rw [h3]; decide
  · exact R.nonneg
def sqC (C : IT2) (b : Bool) : BT × Bool := (.and (sqT C.1) (sqT C.2), b)
theorem sqC_den {E : Env} {C : IT2} {c : Rat} (h : RepQ E C c) {b : Bool} : (sqC C b).1.den E = (sqB c.num && sqB (c.den : Int)) := by
  show ((sqT C.1).den E && (sqT C.2).den E) = _
  rw [sqT_den, sqT_den, h.1, h.2]
noncomputable def ptL1 : List (Nat × Func) := (111, Tryz.f111) :: (172, Tryz.f172) :: (121, Tryz.f121) :: (225, Tryz.f225) :: []
noncomputable def ptL2 : List (Nat × Func) := (123, Tryz.f123) :: (113, Tryz.f113) :: (120, Tryz.f120) :: (132, Tryz.f132) :: (178, Tryz.f178) :: (109, Tryz.f109) :: (43, Tryz.f43) :: (115, Tryz.f115) :: []
noncomputable def ptL3 : List (Nat × Func) := (116, Tryz.f116) :: (117, Tryz.f117) :: (118, Tryz.f118) :: (138, Tryz.f138) :: (42, Tryz.f42) :: (44, Tryz.f44) :: (45, Tryz.f45) :: (34, Tryz.f34) :: (35, Tryz.f35) :: (46, Tryz.f46) :: (47, Tryz.f47) :: []
noncomputable def ptL4 : List (Nat × Func) := (38, Tryz.f38) :: (39, Tryz.f39) :: (65, Tryz.f65) :: (66, Tryz.f66) :: []
theorem ptL1_ok : InlOK Tryz.prog ptL1 := .cons Tryz.func111 (by decide +kernel) (by kernel_rfl) <| .cons Tryz.func172 (by decide +kernel) (by kernel_rfl) <| .cons Tryz.func121 (by decide +kernel) (by kernel_rfl) <| .cons Tryz.func225 (by decide +kernel) (by kernel_rfl) <| .nil
theorem ptL2_ok : InlOK Tryz.prog ptL2 := .cons Tryz.func123 (by decide +kernel) (by kernel_rfl) <| .cons Tryz.func113 (by decide +kernel) (by kernel_rfl) <| .cons Tryz.func120 (by decide +kernel) (by kernel_rfl) <| .cons Tryz.func132 (by decide +kernel) (by kernel_rfl) <| .cons Tryz.func178 (by decide +kernel) (by kernel_rfl) <| .cons Tryz.func109 (by decide +kernel) (by kernel_rfl) <| .cons Tryz.func43 (by decide +kernel) (by kernel_rfl) <| .cons Tryz.func115 (by decide +kernel) (by kernel_rfl) <| .nil
theorem ptL3_ok : InlOK Tryz.prog ptL3 := .cons Tryz.func116 (by decide +kernel) (by kernel_rfl) <| .cons Tryz.func117 (by decide +kernel) (by kernel_rfl) <| .cons Tryz.func118 (by decide +kernel) (by kernel_rfl) <| .cons Tryz.func138 (by decide +kernel) (by kernel_rfl) <| .cons Tryz.func42 (by decide +kernel) (by kernel_rfl) <| .cons Tryz.func44 (by decide +kernel) (by kernel_rfl) <| .cons Tryz.func45 (by decide +kernel) (by kernel_rfl) <| .cons Tryz.func34 (by decide +kernel) (by kernel_rfl) <| .cons Tryz.func35 (by decide +kernel) (by kernel_rfl) <| .cons Tryz.func46 (by decide +kernel) (by kernel_rfl) <| .cons Tryz.func47 (by decide +kernel) (by kernel_rfl) <| .nil
theorem ptL4_ok : InlOK Tryz.prog ptL4 := .cons Tryz.func38 (by decide +kernel) (by kernel_rfl) <| .cons Tryz.func39 (by decide +kernel) (by kernel_rfl) <| .cons Tryz.func65 (by decide +kernel) (by kernel_rfl) <| .cons Tryz.func66 (by decide +kernel) (by kernel_rfl) <| .nil
noncomputable def cPt1 (C : Cfg) : Cfg := cfgI C C ptL1
noncomputable def cPt2 (C : Cfg) : Cfg := cfgI (cPt1 C) (cPt1 C) ptL2
noncomputable def cPt3 (C : Cfg) : Cfg := cfgI (cPt2 C) (cPt2 C) ptL3
noncomputable def cPt (C : Cfg) : Cfg := cfgI (cPt3 C) (cPt3 C) ptL4
theorem cPt_ok {E : Env} {C : Cfg} (h : CfgOK Tryz.prog E C) (hw : ∀ w, C.wok w) : CfgOK Tryz.prog E (cPt C) := by
  have h1 : CfgOK Tryz.prog E (cPt1 C) := cfgI_ok mixed h h hw ptL1_ok
  have h2 : CfgOK Tryz.prog E (cPt2 C) := cfgI_ok mixed h1 h1 hw ptL2_ok
  have h3 : CfgOK Tryz.prog E (cPt3 C) := cfgI_ok mixed h2 h2 hw ptL3_ok
  exact cfgI_ok mixed h3 h3 hw ptL4_ok
end Go.Proofs.YtifeacfljfmnpaaGreat
end

section
set_option maxRecDepth 100000
namespace Go.Proofs.YtifeacfljfmnpaaGreat
open Go.RowKit
def zArr5 : List (TypeId × List Chunk) := [(133, zInt2 ++ (zInt2 ++ (zInt2 ++ (zInt2 ++ zInt2))))]
theorem zArr5_ok : ZeroOK Tryz.prog zArr5 := ZeroOK.cons (fun _ w => ⟨_, Tryz.zeroValue133 w, [_, _], _, rfl, int_zero, [_, _], _, rfl, int_zero, [_, _], _, rfl, int_zero, [_, _], _, rfl, int_zero, [_, _], _, rfl, int_zero, [_, _], _, rfl, int_zero, [_, _], _, rfl, int_zero, [_, _], _, rfl, int_zero, [_, _], _, rfl, int_zero, [_, _], [], rfl, int_zero, rfl⟩) ZeroOK.nil
def arrQ5 : List (TypeId × Nat × TypeId) := [(133, 5, 26)]
theorem arrQ5_ok : ArrOK Tryz.prog arrQ5 := .cons Tryz.underlying133 .nil
def c5 (C : Cfg) : Cfg := cfgZr (cfgAr C arrQ5) zArr5
theorem c5_ok {E : Env} {C : Cfg} (h : CfgOK Tryz.prog E C) : CfgOK Tryz.prog E (c5 C) := cfgZr_ok (cfgAr_ok h arrQ5_ok) zArr5_ok
noncomputable def tabVd : List (Nat × Con) := tbV ++ (tabInt ++ tabT)
theorem tabVd_ok {E : Env} (hE : QEnv E) : TabOK Tryz.prog E tabVd := TabOK.app (tbV_ok hE) (TabOK.app tabInt_ok (tabT_ok hE))
noncomputable def cVd : Cfg := cPt (c5 (cfgOf tabVd))
theorem cVd_ok {E : Env} (hE : QEnv E) : CfgOK Tryz.prog E cVd := cPt_ok (c5_ok (cfg_ok (tabVd_ok hE))) (fun _ => trivial)
def vdG (z1 z2 z4 s q : Bool) : Asm := [(zt (qv 1), z1), (zt (qv 3), z2), (zt (qv 4), z4), (.lt (.lit 0) (sgt (qv 4)), s), sqC (qv 4) q]
def vdR (z1 z2 z4 s q : Bool) : Bool := if z1 && z2 then z4 else if s then !q else false
noncomputable def vdF (f : Bool) : Func := if f then Tryz.f49 else Tryz.f50
noncomputable def vdN (f : Bool) : Nat := if f then 49 else 50
theorem vdF_body (f : Bool) : Tryz.prog.funcs[vdN f]? = some (vdF f) ∧ (vdF f).results.toList.length ≤ 4 ∧ 1 ≤ (vdF f).ntmps ∧ (vdF f).name ≠ "runtime.NumGoroutine" ∧ (vdF f).body.isNone = false := by
  cases f
  · exact ⟨Tryz.func50, by decide +kernel, by decide +kernel, by decide +kernel, by kernel_rfl⟩
  · exact ⟨Tryz.func49, by decide +kernel, by decide +kernel, by decide +kernel, by kernel_rfl⟩
theorem vd_walk : (bools.all fun f => bools.all fun z1 => bools.all fun z2 => bools.all fun z4 => bools.all fun s => bools.all fun q => isBlo (vdR z1 z2 z4 s q) (funE cVd (vdF f) (vdG z1 z2 z4 s q) [.val true (intC 3 0 5)])) = true := by kernel_rfl
theorem validQ_calls (f : Bool) (w : World) (v : Value) (a b a' d c : Rat) (h : IsQs w v [a, b, a', d, c]) (l : LimQs 3 [a, b, a', d, c]) : Calls Tryz.prog (vdN f) #[v] w (RetBl (ptb b d c) w) := by
  obtain ⟨h1, h2, h3, _, _⟩ := vdF_body f
  obtain ⟨E, hE⟩ : ∃ E, E = qE [a, b, a', d, c] := ⟨_, rfl⟩
  have hQ : QEnv E := by rw [hE]; exact qE_ok _
  have rb : RepQ E (qv 1) b := by rw [hE]; exact rep_v (i := 1)
  have rd : RepQ E (qv 3) d := by rw [hE]; exact rep_v (i := 3)
  have rc : RepQ E (qv 4) c := by rw [hE]; exact rep_v (i := 4)
  have hG : Asm.holds E (vdG (decide (b = 0)) (decide (d = 0)) (decide (c = 0)) (decide (0 < c)) (sqB c.num && sqB (c.den : Int))) :=
    asm_and (zt_den rb) <| asm_and (zt_den rd) <| asm_and (zt_den rc) <| asm_and (gtz_den rc) <| asm_and (sqC_den rc (b := sqB c.num && sqB (c.den : Int))) asm_nil
  have hW := List.all_eq_true.1 (List.all_eq_true.1 (List.all_eq_true.1 (List.all_eq_true.1 (List.all_eq_true.1 (List.all_eq_true.1 vd_walk f (bools_mem f)) (decide (b = 0)) (bools_mem _)) (decide (d = 0)) (bools_mem _)) (decide (c = 0)) (bools_mem _)) (decide (0 < c)) (bools_mem _)) (sqB c.num && sqB (c.den : Int)) (bools_mem _)
  have e : vdR (decide (b = 0)) (decide (d = 0)) (decide (c = 0)) (decide (0 < c)) (sqB c.num && sqB (c.den : Int)) = ptb b d c := by
    unfold vdR ptb
    by_cases k1 : b = 0 <;> by_cases k2 : d = 0 <;> simp [k1, k2]
  rw [e] at hW
  unfold isBlo at hW
  split at hW
  · rename_i T hT
    refine (fun_sound mixed (cVd_ok hQ) hG h1 h2 hT h3 rfl w [v] rfl ?_).mono ?_
    · intro i x hx
      match i, hx with
      | 0, hx =>
        injection hx with hx
        subst hx
        obtain ⟨vs, rfl, hv⟩ := h
        refine ⟨fun _ => 0, _, rfl, vs, rfl, (qs_chunks [a, b, a', d, c] 0 vs fun j q hj => ?_).2 ⟨hv, l⟩⟩
        rw [hE]; exact qs_reps _ j q hj
    · rintro e w' ⟨β, y, rfl, hh, ex⟩
      rw [isBl_pick hW] at hh
      rw [show y = _ from one_bool.1 hh]
      exact ⟨rfl, ex⟩
  · cases hW
def cR2 (i : Nat) : List AV → Bool
  | [.val true [.raw a, .raw b]] => a == i && b == i + 1
  | _ => false
theorem valid2_known {E : Env} {f : Nat} {i : Nat} {z : Bool} (hc : ∀ (w : World) (v : Value) (s1 s2 : Bool) (xs1 xs2 : List Nat), RawQ w v s1 xs1 s2 xs2 → xs1.length ≤ 100000 → xs2.length ≤ 100000 → Calls Tryz.prog f #[v] w fun e w' => e = .returned (.bool (okQ s1 xs1 s2 xs2)) ∧ Ext w w')
    (l1 : (E.r i).2.length ≤ 100000) (l2 : (E.r (i + 1)).2.length ≤ 100000) (hz : okQ (E.r i).1 (E.r i).2 (E.r (i + 1)).1 (E.r (i + 1)).2 = z) : KnownR E f (cR2 i) (rBl z) := by
  refine ⟨?_, fun x off e => by cases e⟩
  intro args ha β w vs hv hl
  unfold cR2 at ha
  split at ha
  · rw [Bool.and_eq_true, beq_iff_eq, beq_iff_eq] at ha
    obtain ⟨rfl, rfl⟩ := ha
    obtain ⟨v, rfl, h1⟩ := args1 hv hl
    refine (hc w v _ _ _ _ (one_raw2 h1) l1 l2).mono ?_
    rintro e w' ⟨rfl, ex⟩
    exact ⟨_, rfl, fun β => one_bool.2 (by rw [hz]; rfl), ex⟩
  · cases ha
noncomputable def tabVr (x0 x1 x2 x3 x4 : Bool) : List (Nat × Con) :=
  (124, kKq (cR2 0) (rBl x0) <| kKq (cR2 2) (rBl x1) <| kKq (cR2 4) (rBl x2) <| kKq (cR2 6) (rBl x3) <| kKq (cR2 8) (rBl x4) kNoQ) ::
  (18, kKq (cR2 0) (rBl x0) <| kKq (cR2 2) (rBl x1) <| kKq (cR2 4) (rBl x2) <| kKq (cR2 6) (rBl x3) <| kKq (cR2 8) (rBl x4) kNoQ) :: []
theorem vr_walk : (bools.all fun f => bools.all fun x0 => bools.all fun x1 => bools.all fun x2 => bools.all fun x3 => bools.all fun x4 => (x0 && (x1 && (x2 && (x3 && x4)))) || isBlo false (funE (c5 (cfgOf (tabVr x0 x1 x2 x3 x4))) (vdF f) [] [.val true (rawL 0 10)])) = true := by kernel_rfl
def okA (l : List RI) : Bool := (List.range 5).all fun j => okQ (rawW l (2 * j)).1 (rawW l (2 * j)).2 (rawW l (2 * j + 1)).1 (rawW l (2 * j + 1)).2
def rqW (l : List RI) (j : Nat) : Rat := rq (rawW l (2 * j)) (rawW l (2 * j + 1))
theorem okA_parts {l : List RI} : okA l = (okQ (rawW l 0).1 (rawW l 0).2 (rawW l 1).1 (rawW l 1).2 && (okQ (rawW l 2).1 (rawW l 2).2 (rawW l 3).1 (rawW l 3).2 && (okQ (rawW l 4).1 (rawW l 4).2 (rawW l 5).1 (rawW l 5).2 && (okQ (rawW l 6).1 (rawW l 6).2 (rawW l 7).1 (rawW l 7).2 && okQ (rawW l 8).1 (rawW l 8).2 (rawW l 9).1 (rawW l 9).2)))) := by
  show (_ && (_ && (_ && (_ && (_ && true))))) = _
  rw [Bool.and_true]
theorem RawN.qs {w : World} {v : Value} {n m : Nat} {l : List RI} (h : RawN w v n l) (hs : ∀ j, j < n → smN m (rawW l (2 * j)) (rawW l (2 * j + 1)) = true) : IsQs w v ((List.range n).map (rqW l)) ∧ LimQs m ((List.range n).map (rqW l)) := by
  obtain ⟨vs, rfl, hc⟩ := h
  obtain ⟨qs, e, h1, h2⟩ := raws_ratsN n 0 vs hc (fun j hj => by rw [Nat.zero_add]; exact hs j hj)
  have e' : qs = (List.range n).map (rqW l) := e.trans (List.map_congr_left fun j _ => by
    show rq ((bE okQ l).r (0 + 2 * j)) ((bE okQ l).r (0 + 2 * j + 1)) = _
    rw [Nat.zero_add]; rfl)
  rw [← e']
  exact ⟨⟨vs, rfl, h1⟩, h2⟩
theorem validW_calls (f : Bool) (w : World) (v : Value) (l : List RI) (h : RawN w v 5 l) (hb : ∀ j, j < 10 → (rawW l j).2.length ≤ 3) : Calls Tryz.prog (vdN f) #[v] w (RetBl (okA l && ptb (rqW l 1) (rqW l 3) (rqW l 4)) w) := by
  cases ha : okA l with
  | true =>
    obtain ⟨h1, h2⟩ := h.qs (m := 3) (fun j hj => by
      have := List.all_eq_true.1 ha j (List.mem_range.2 hj)
      unfold smN
      rw [decide_eq_true (hb (2 * j) (by omega)), decide_eq_true (hb (2 * j + 1) (by omega)), this]; rfl)
    rw [Bool.true_and]
    exact validQ_calls f w v (rqW l 0) (rqW l 1) (rqW l 2) (rqW l 3) (rqW l 4) h1 h2
  | false =>
    obtain ⟨g1, g2, g3, _, _⟩ := vdF_body f
    have hW := List.all_eq_true.1 (List.all_eq_true.1 (List.all_eq_true.1 (List.all_eq_true.1 (List.all_eq_true.1 (List.all_eq_true.1 vr_walk f (bools_mem f)) (okQ (rawW l 0).1 (rawW l 0).2 (rawW l 1).1 (rawW l 1).2) (bools_mem _)) (okQ (rawW l 2).1 (rawW l 2).2 (rawW l 3).1 (rawW l 3).2) (bools_mem _)) (okQ (rawW l 4).1 (rawW l 4).2 (rawW l 5).1 (rawW l 5).2) (bools_mem _)) (okQ (rawW l 6).1 (rawW l 6).2 (rawW l 7).1 (rawW l 7).2) (bools_mem _)) (okQ (rawW l 8).1 (rawW l 8).2 (rawW l 9).1 (rawW l 9).2) (bools_mem _)
    rw [← okA_parts, ha, Bool.false_or] at hW
    have kn : ∀ {F : Nat}, (∀ (w : World) (v : Value) (s1 s2 : Bool) (xs1 xs2 : List Nat), RawQ w v s1 xs1 s2 xs2 → xs1.length ≤ 100000 → xs2.length ≤ 100000 → Calls Tryz.prog F #[v] w fun e w' => e = .returned (.bool (okQ s1 xs1 s2 xs2)) ∧ Ext w w') → ∀ i, i + 1 < 10 → KnownR (bE okQ l) F (cR2 i) (rBl (okQ (rawW l i).1 (rawW l i).2 (rawW l (i + 1)).1 (rawW l (i + 1)).2)) := by
      intro F hF i hi
      have b1 := hb i (by omega)
      have b2 := hb (i + 1) (by omega)
      exact valid2_known hF (show (rawW l i).2.length ≤ 100000 by omega) (show (rawW l (i + 1)).2.length ≤ 100000 by omega) rfl
    have hT : TabOK Tryz.prog (bE okQ l) (tabVr (okQ (rawW l 0).1 (rawW l 0).2 (rawW l 1).1 (rawW l 1).2) (okQ (rawW l 2).1 (rawW l 2).2 (rawW l 3).1 (rawW l 3).2) (okQ (rawW l 4).1 (rawW l 4).2 (rawW l 5).1 (rawW l 5).2) (okQ (rawW l 6).1 (rawW l 6).2 (rawW l 7).1 (rawW l 7).2) (okQ (rawW l 8).1 (rawW l 8).2 (rawW l 9).1 (rawW l 9).2)) := by
      have p := kn (F := 124) (fun w v s1 s2 xs1 xs2 h l1 l2 => valid_rat_calls w v s1 s2 xs1 xs2 h l1 l2)
      have r := kn (F := 18) (fun w v s1 s2 xs1 xs2 h l1 l2 => rvalid_rat_calls w v s1 s2 xs1 xs2 h l1 l2)
      exact .cons (kKr_ok (p 0 (by omega)) <| kKr_ok (p 2 (by omega)) <| kKr_ok (p 4 (by omega)) <| kKr_ok (p 6 (by omega)) <| kKr_ok (p 8 (by omega)) (kNoQ_ok ⟨_, Tryz.func124, by decide +kernel, by kernel_rfl⟩)) <|
        .cons (kKr_ok (r 0 (by omega)) <| kKr_ok (r 2 (by omega)) <| kKr_ok (r 4 (by omega)) <| kKr_ok (r 6 (by omega)) <| kKr_ok (r 8 (by omega)) (kNoQ_ok ⟨_, Tryz.func18, by decide +kernel, by kernel_rfl⟩)) .nil
    unfold isBlo at hW
    split at hW
    · rename_i T hTe
      refine (fun_sound mixed (c5_ok (cfg_ok hT)) no_asm g1 g2 hTe g3 rfl w [v] rfl ?_).mono ?_
      · intro i x hx
        match i, hx with
        | 0, hx => injection hx with hx; subst hx; exact ⟨fun _ => 0, v, rfl, rawArg h _⟩
      · rintro e w' ⟨β, y, rfl, hh, ex⟩
        rw [isBl_pick hW] at hh
        rw [show y = _ from one_bool.1 hh]
        exact ⟨rfl, ex⟩
    · cases hW
def smA (l : List RI) : Bool := (List.range 5).all fun j => smN 3 (rawW l (2 * j)) (rawW l (2 * j + 1))
def pSm (l : List RI) : Bool := smA l && ptb (rqW l 1) (rqW l 3) (rqW l 4)
theorem smA_parts {l : List RI} : smA l = (smN 3 (rawW l 0) (rawW l 1) && (smN 3 (rawW l 2) (rawW l 3) && (smN 3 (rawW l 4) (rawW l 5) && (smN 3 (rawW l 6) (rawW l 7) && smN 3 (rawW l 8) (rawW l 9))))) := by
  show (_ && (_ && (_ && (_ && (_ && true))))) = _
  rw [Bool.and_true]
theorem smN_parts {n : Nat} {p q : RI} (h : smN n p q = true) : p.2.length ≤ n ∧ q.2.length ≤ n ∧ okQ p.1 p.2 q.1 q.2 = true := by
  unfold smN at h
  simp only [Bool.and_eq_true, decide_eq_true_iff] at h
  exact ⟨h.1.1, h.1.2, h.2⟩
theorem smA_bound {l : List RI} (h : smA l = true) : (∀ j, j < 10 → (rawW l j).2.length ≤ 3) ∧ okA l = true := by
  have k := List.all_eq_true.1 h
  constructor
  · intro j hj
    obtain ⟨h1, h2, _⟩ := smN_parts (k (j / 2) (List.mem_range.2 (by omega)))
    rcases Nat.mod_two_eq_zero_or_one j with e | e
    · rwa [show 2 * (j / 2) = j by omega] at h1
    · rwa [show 2 * (j / 2) + 1 = j by omega] at h2
  · exact List.all_eq_true.2 fun j hj => (smN_parts (k j hj)).2.2
def cR2n (i : Nat) : List AV → Bool
  | [.val true [.raw a, .raw b], .val false [.n .i64 (.lit z)]] => (a == i && b == i + 1) && z == 3
  | _ => false
theorem small2_known {E : Env} {i : Nat} {z : Bool} (hz : smN 3 (E.r i) (E.r (i + 1)) = z) : KnownR E 62 (cR2n i) (rBl z) := by
  refine ⟨?_, fun x off e => by cases e⟩
  intro args ha β w vs hv hl
  unfold cR2n at ha
  split at ha
  · simp only [Bool.and_eq_true, beq_iff_eq] at ha
    obtain ⟨⟨rfl, rfl⟩, rfl⟩ := ha
    obtain ⟨v, u, rfl, h1, h2⟩ := args2 hv hl
    have h2' := one_num.1 h2
    subst h2'
    refine (rsmall3_calls w v _ _ (one_raw2 h1)).mono ?_
    rintro e w' ⟨rfl, ex⟩
    exact ⟨_, rfl, fun β => one_bool.2 (by rw [hz]; rfl), ex⟩
  · cases ha
def cRn (i n : Nat) : List AV → Bool
  | [.val true cs] => isRaw i cs && cs.length == n
  | _ => false
theorem cRn_spec {i n : Nat} {args : List AV} (h : cRn i n args = true) : args = [.val true (rawL i n)] := by
  unfold cRn at h
  split at h
  · rw [Bool.and_eq_true, beq_iff_eq] at h
    have := isRaw_spec h.1
    rw [h.2] at this
    rw [this]; rfl
  · cases h
noncomputable def tabSm7 (x0 x1 x2 x3 x4 y : Bool) : List (Nat × Con) :=
  (62, kKq (cR2n 0) (rBl x0) <| kKq (cR2n 2) (rBl x1) <| kKq (cR2n 4) (rBl x2) <| kKq (cR2n 6) (rBl x3) <| kKq (cR2n 8) (rBl x4) kNoQ) ::
  (50, if x0 && (x1 && (x2 && (x3 && x4))) then kKq (cRn 0 10) (rBl y) kNoQ else kNoQ) :: []
theorem sm7_walk : (bools.all fun x0 => bools.all fun x1 => bools.all fun x2 => bools.all fun x3 => bools.all fun x4 => bools.all fun y => isBlo ((x0 && (x1 && (x2 && (x3 && x4)))) && y) (funE (cfgOf (tabSm7 x0 x1 x2 x3 x4 y)) Tryz.f119 [] [.val true (rawL 0 10), .val false [.n .i64 (.lit 3)]])) = true := by kernel_rfl
theorem small7_calls (w : World) (v : Value) (l : List RI) (h : RawN w v 5 l) : Calls Tryz.prog 119 #[v, .int .i64 3] w (RetBl (pSm l) w) := by
  have hW := List.all_eq_true.1 (List.all_eq_true.1 (List.all_eq_true.1 (List.all_eq_true.1 (List.all_eq_true.1 (List.all_eq_true.1 sm7_walk (smN 3 (rawW l 0) (rawW l 1)) (bools_mem _)) (smN 3 (rawW l 2) (rawW l 3)) (bools_mem _)) (smN 3 (rawW l 4) (rawW l 5)) (bools_mem _)) (smN 3 (rawW l 6) (rawW l 7)) (bools_mem _)) (smN 3 (rawW l 8) (rawW l 9)) (bools_mem _)) (ptb (rqW l 1) (rqW l 3) (rqW l 4)) (bools_mem _)
  rw [← smA_parts] at hW
  have kn : ∀ i, KnownR (bE okQ l) 62 (cR2n i) (rBl (smN 3 (rawW l i) (rawW l (i + 1)))) := fun i => small2_known rfl
  have hT : TabOK Tryz.prog (bE okQ l) (tabSm7 (smN 3 (rawW l 0) (rawW l 1)) (smN 3 (rawW l 2) (rawW l 3)) (smN 3 (rawW l 4) (rawW l 5)) (smN 3 (rawW l 6) (rawW l 7)) (smN 3 (rawW l 8) (rawW l 9)) (ptb (rqW l 1) (rqW l 3) (rqW l 4))) := by
    have nb : ConOK Tryz.prog (bE okQ l) 50 kNoQ := kNoQ_ok ⟨_, Tryz.func50, by decide +kernel, by kernel_rfl⟩
    refine .cons (kKr_ok (kn 0) <| kKr_ok (kn 2) <| kKr_ok (kn 4) <| kKr_ok (kn 6) <| kKr_ok (kn 8) (kNoQ_ok ⟨_, Tryz.func62, by decide +kernel, by kernel_rfl⟩)) <| .cons ?_ .nil
    rw [← smA_parts]
    split
    · rename_i hs
      obtain ⟨b1, b2⟩ := smA_bound hs
      refine kKr_ok ⟨fun args ha β w vs hv hl => ?_, fun x off e => by cases e⟩ nb
      have := cRn_spec ha
      subst this
      obtain ⟨v, rfl, k1⟩ := args1 hv hl
      refine (validW_calls false w v l k1 b1).mono ?_
      rintro e w' ⟨rfl, ex⟩
      exact ⟨_, rfl, fun β => one_bool.2 (by rw [b2, Bool.true_and]; rfl), ex⟩
    · exact nb
  unfold isBlo at hW
  split at hW
  · rename_i T hTe
    refine (fun_sound mixed (cfg_ok hT) no_asm Tryz.func119 (by decide +kernel) hTe (by decide +kernel) rfl w [v, .int .i64 3] rfl ?_).mono ?_
    · intro i x hx
      match i, hx with
      | 0, hx => injection hx with hx; subst hx; exact ⟨fun _ => 0, v, rfl, rawArg h _⟩
      | 1, hx => injection hx with hx; subst hx; exact ⟨fun _ => 0, _, rfl, one_num.2 rfl⟩
    · rintro e w' ⟨β, y, rfl, hh, ex⟩
      rw [isBl_pick hW] at hh
      rw [show y = _ from one_bool.1 hh]
      exact ⟨rfl, ex⟩
  · cases hW
def cRn3 (i n : Nat) : List AV → Bool
  | [.val true cs, .val false [.n .i64 (.lit z)]] => (isRaw i cs && cs.length == n) && z == 3
  | _ => false
noncomputable def rowW (n : Nat) (x y : Bool) : Option Tree := funR (cfgOf [(119, kKq (cRn3 0 10) (rBl x) (kKq (cRn3 10 10) (rBl y) kNoQ))]) Tryz.f41 [] (rawL 0 (10 * n)) (big + n)
theorem row_walk : (bools.all fun x => bools.all fun y => isBlo x (rowW 1 x y) && isBlo (x && y) (rowW 2 x y)) = true := by kernel_rfl
theorem smRow_calls {n : Nat} (hn : n = 1 ∨ n = 2) {l : List RI} (w : World) (b : Nat) (h : VarAt (bE okQ l) w b (rawL 0 (10 * n))) : Calls Tryz.prog 41 #[pv b (big + n)] w (RetBl (pSm (l.take 10) && (n == 1 || pSm (l.drop 10))) w) := by
  have hW := List.all_eq_true.1 (List.all_eq_true.1 row_walk (pSm (l.take 10)) (bools_mem _)) (pSm (l.drop 10)) (bools_mem _)
  rw [Bool.and_eq_true] at hW
  have kn : ∀ (i : Nat) (m : List RI), (∀ k, k < 10 → rawW m k = rawW l (i + k)) → KnownR (bE okQ l) 119 (cRn3 i 10) (rBl (pSm m)) := by
    intro i m hm
    refine ⟨fun args ha β w vs hv hl => ?_, fun x off e => by cases e⟩
    unfold cRn3 at ha
    split at ha
    · rename_i cs z
      simp only [Bool.and_eq_true, beq_iff_eq] at ha
      obtain ⟨⟨h1, h2⟩, rfl⟩ := ha
      have h1 := isRaw_spec h1
      rw [h2] at h1
      subst h1
      obtain ⟨v, u, rfl, k1, k2⟩ := args2 hv hl
      have k2' := one_num.1 k2
      subst k2'
      obtain ⟨vs, rfl, hc⟩ := k1
      refine (small7_calls w _ m ⟨vs, rfl, raws_raws2 (E := bE okQ l) 10 i 0 vs hc (fun k hk => by
        rw [Nat.zero_add]
        exact hm k hk)⟩).mono ?_
      rintro e w' ⟨rfl, ex⟩
      exact ⟨_, rfl, fun β => one_bool.2 rfl, ex⟩
    · cases ha
  have k0 := kn 0 (l.take 10) (fun k hk => by
    unfold rawW
    rw [Nat.zero_add, List.getD_eq_getElem?_getD, List.getD_eq_getElem?_getD, List.getElem?_take_of_lt hk])
  have k1 := kn 10 (l.drop 10) (fun k hk => by
    unfold rawW
    rw [List.getD_eq_getElem?_getD, List.getD_eq_getElem?_getD, List.getElem?_drop])
  have hT : TabOK Tryz.prog (bE okQ l) [(119, kKq (cRn3 0 10) (rBl (pSm (l.take 10))) (kKq (cRn3 10 10) (rBl (pSm (l.drop 10))) kNoQ))] := .cons (kKr_ok k0 (kKr_ok k1 (kNoQ_ok ⟨_, Tryz.func119, by decide +kernel, by kernel_rfl⟩))) .nil
  have fin : ∀ c, isBlo c (rowW n (pSm (l.take 10)) (pSm (l.drop 10))) = true → sizes (rawL 0 (10 * n)) ≠ 0 → n ≤ 2 → Calls Tryz.prog 41 #[pv b (big + n)] w (RetBl c w) := by
    intro c hc h0 hn2
    unfold isBlo at hc
    split at hc
    · rename_i T hTe
      refine (row_sound mixed (cfg_ok hT) no_asm Tryz.func41 (by decide +kernel) hTe (by decide +kernel) w b h h0).mono ?_
      rintro e w' ⟨β, y, rfl, hh, ex⟩
      rw [isBl_pick hc] at hh
      rw [show y = _ from one_bool.1 hh]
      exact ⟨rfl, ex⟩
    · cases hc
  rcases hn with rfl | rfl
  · rw [show (pSm (l.take 10) && ((1 : Nat) == 1 || pSm (l.drop 10))) = pSm (l.take 10) by simp]
    exact fin _ hW.1 (by decide) (by omega)
  · rw [show (pSm (l.take 10) && ((2 : Nat) == 1 || pSm (l.drop 10))) = (pSm (l.take 10) && pSm (l.drop 10)) by simp]
    exact fin _ hW.2 (by decide) (by omega)
theorem small7_body : ∃ fn, Tryz.prog.funcs[41]? = some fn ∧ fn.name ≠ "runtime.NumGoroutine" ∧ fn.body.isNone = false := ⟨_, Tryz.func41, by decide +kernel, by kernel_rfl⟩
def riOf (z : Int) : RI := (decide (z < 0), limbs z.natAbs)
def rawsQs : List Rat → List RI
  | [] => []
  | q :: qs => riOf q.num :: riOf (q.den : Int) :: rawsQs qs
theorem rats_raws {E : Env} {w : World} : ∀ (qs : List Rat) (i : Nat) (vs : List Value), RatsQ w vs qs → (∀ k, k < 2 * qs.length → E.r (i + k) = rawW (rawsQs qs) k) → chunks E w (rawL i (2 * qs.length)) vs
  | [], i, vs, h, _ => h
  | q :: qs, i, vs, ⟨x, r, e, h1, h2⟩, hr => by
    subst e
    rw [List.length_cons, rawL_two]
    have e0 : E.r i = riOf q.num := hr 0 (by rw [List.length_cons]; omega)
    have e1 : E.r (i + 1) = riOf (q.den : Int) := hr 1 (by rw [List.length_cons]; omega)
    refine two_raws.2 ⟨x, r, rfl, by rw [e0, e1]; exact (rat_raw h1).1, rats_raws qs (i + 2) r h2 fun k hk => ?_⟩
    have := hr (k + 2) (by rw [List.length_cons]; omega)
    rw [show i + 2 + k = i + (k + 2) by omega, this]
    rfl
theorem rawsQs_at : ∀ (qs : List Rat) (j : Nat) (q : Rat), qs[j]? = some q → rawW (rawsQs qs) (2 * j) = riOf q.num ∧ rawW (rawsQs qs) (2 * j + 1) = riOf (q.den : Int)
  | q :: qs, 0, p, h => by injection h with h; subst h; exact ⟨rfl, rfl⟩
  | q :: qs, j + 1, p, h => by
    have := rawsQs_at qs j p h
    rw [show 2 * (j + 1) = 2 * j + 2 by omega, show 2 * j + 2 + 1 = 2 * j + 1 + 2 by omega]
    exact this
theorem rats_israt {w : World} : ∀ {qs : List Rat} {vs : List Value} {j : Nat} {q : Rat}, RatsQ w vs qs → qs[j]? = some q → ∃ v, IsRat w v q
  | p :: qs, _, 0, q, ⟨x, r, _, h1, h2⟩, hq => by injection hq with hq; subst hq; exact ⟨_, h1⟩
  | p :: qs, _, j + 1, q, ⟨x, r, _, h1, h2⟩, hq => rats_israt h2 hq
theorem rqW_raws {qs : List Rat} {j : Nat} {q : Rat} (h : qs[j]? = some q) : rqW (rawsQs qs) j = q := by
  obtain ⟨e1, e2⟩ := rawsQs_at qs j q h
  unfold rqW
  rw [e1, e2]
  exact rq_rawQ q
theorem pSm_qs {w : World} {vs : List Value} {a b a' d c : Rat} {l : List Rat} (h : RatsQ w vs (a :: b :: a' :: d :: c :: l)) (hl : LimQs 3 (a :: b :: a' :: d :: c :: l)) (R : RdP b d c) : pSm (rawsQs (a :: b :: a' :: d :: c :: l)) = true := by
  unfold pSm
  rw [rqW_raws (q := b) rfl, rqW_raws (q := d) rfl, rqW_raws (q := c) rfl, Bool.and_eq_true]
  refine ⟨List.all_eq_true.2 fun j hj => ?_, R⟩
  have hj := List.mem_range.1 hj
  have hq : ∃ q, (a :: b :: a' :: d :: c :: l)[j]? = some q := ⟨_, List.getElem?_eq_getElem (by simp only [List.length_cons]; omega)⟩
  obtain ⟨q, hq⟩ := hq
  obtain ⟨e1, e2⟩ := rawsQs_at _ j q hq
  rw [e1, e2]
  obtain ⟨v, hv⟩ := rats_israt h hq
  exact smN_rawQ hv (hl q (List.mem_of_getElem? hq))
end Go.Proofs.YtifeacfljfmnpaaGreat
end

section
set_option maxRecDepth 100000
namespace Go.Proofs.YtifeacfljfmnpaaGreat
open Go.RowKit
structure PtQ where
  ax : Rat
  bx : Rat
  ay : Rat
  by' : Rat
  c : Rat
def PtQ.l (p : PtQ) : List Rat := [p.ax, p.bx, p.ay, p.by', p.c]
def PtQ.ok (p : PtQ) : Prop := RdP p.bx p.by' p.c
def cmX (p q : PtQ) : Int := cmR p.ax p.bx (rC p.bx p.c) q.ax q.bx (rC q.bx q.c)
def cmY (p q : PtQ) : Int := cmR p.ay p.by' (rC p.by' p.c) q.ay q.by' (rC q.by' q.c)
def lexZ (x y : Int) : Int := if x == 0 then y else x
def cmP (p q : PtQ) : Int := lexZ (cmX p q) (cmY p q)
theorem PtQ.ok.n1 {p : PtQ} (h : p.ok) : 0 ≤ rC p.bx p.c := (RdP.fst h).nonneg
theorem PtQ.ok.n2 {p : PtQ} (h : p.ok) : 0 ≤ rC p.by' p.c := (RdP.snd h).nonneg
theorem okOd_cmR {a b c a' b' c' a2 b2 c2 : Rat} (n1 : 0 ≤ c) (n2 : 0 ≤ c') (n3 : 0 ≤ c2) : okOd (cmR a b c a' b' c') (cmR a' b' c' a2 b2 c2) (cmR a b c a2 b2 c2) = true := by
  obtain ⟨t1, t2⟩ := cmR_trans (a := a) (b := b) (a' := a') (b' := b') (a2 := a2) (b2 := b2) n1 n2 n3
  unfold okOd
  rw [Bool.and_eq_true, Bool.or_eq_true, Bool.or_eq_true]
  constructor
  · by_cases g : 0 ≤ cmR a b c a' b' c' ∧ 0 ≤ cmR a' b' c' a2 b2 c2
    · exact .inr (decide_eq_true (t1 g.1 g.2))
    · refine .inl ?_
      rw [Bool.not_eq_true', Bool.and_eq_false_iff, decide_eq_false_iff_not, decide_eq_false_iff_not]
      omega
  · by_cases g : cmR a b c a' b' c' ≤ 0 ∧ cmR a' b' c' a2 b2 c2 ≤ 0
    · exact .inr (decide_eq_true (t2 g.1 g.2))
    · refine .inl ?_
      rw [Bool.not_eq_true', Bool.and_eq_false_iff, decide_eq_false_iff_not, decide_eq_false_iff_not]
      omega
theorem lex_ok : (sgs.all fun x1 => sgs.all fun x2 => sgs.all fun x3 => sgs.all fun y1 => sgs.all fun y2 => sgs.all fun y3 => !(okOd x1 x2 x3 && okOd y1 y2 y3) || okOd (lexZ x1 y1) (lexZ x2 y2) (lexZ x3 y3)) = true := by decide +kernel
theorem cmP_trans {p q s : PtQ} (hp : p.ok) (hq : q.ok) (hs : s.ok) : okOd (cmP p q) (cmP q s) (cmP p s) = true := by
  have h := List.all_eq_true.1 (List.all_eq_true.1 (List.all_eq_true.1 (List.all_eq_true.1 (List.all_eq_true.1 (List.all_eq_true.1 lex_ok (cmX p q) (cmR_range _ _ _ _ _ _)) (cmX q s) (cmR_range _ _ _ _ _ _)) (cmX p s) (cmR_range _ _ _ _ _ _)) (cmY p q) (cmR_range _ _ _ _ _ _)) (cmY q s) (cmR_range _ _ _ _ _ _)) (cmY p s) (cmR_range _ _ _ _ _ _)
  have h1 : okOd (cmX p q) (cmX q s) (cmX p s) = true := okOd_cmR hp.n1 hq.n1 hs.n1
  have h2 : okOd (cmY p q) (cmY q s) (cmY p s) = true := okOd_cmR hp.n2 hq.n2 hs.n2
  rw [h1, h2] at h
  exact h
theorem lexZ_neg (x y : Int) : lexZ (-x) (-y) = - lexZ x y := by
  unfold lexZ
  by_cases h : x = 0
  · subst h; rfl
  · rw [if_neg (by simpa using h), if_neg (by simpa using h)]
theorem cmP_anti {p q : PtQ} (hp : p.ok) (hq : q.ok) : cmP q p = - cmP p q := by
  unfold cmP
  rw [← lexZ_neg]
  unfold cmX cmY
  rw [cmR_anti hp.n1 hq.n1, cmR_anti hp.n2 hq.n2]
theorem cmP_refl {p : PtQ} (hp : p.ok) : cmP p p = 0 := by
  have := cmP_anti hp hp
  omega
theorem cmP_range (p q : PtQ) : cmP p q ∈ sgs := by
  unfold cmP lexZ
  split
  · exact cmR_range _ _ _ _ _ _
  · exact cmR_range _ _ _ _ _ _
def PtQ.mv (p : PtQ) (x y : Rat) : PtQ := ⟨p.ax + x, p.bx, p.ay + y, p.by', p.c⟩
theorem PtQ.ok.mv {p : PtQ} (h : p.ok) (x y : Rat) : (p.mv x y).ok := h
theorem cmP_mv {p q : PtQ} (hp : p.ok) (hq : q.ok) (x y : Rat) : cmP (p.mv x y) (q.mv x y) = cmP p q := by
  have h1 : cmX (p.mv x y) (q.mv x y) = cmX p q := cmR_shift hp.n1 hq.n1
  have h2 : cmY (p.mv x y) (q.mv x y) = cmY p q := cmR_shift hp.n2 hq.n2
  unfold cmP
  rw [h1, h2]
theorem lexZ_zero {x y : Int} : lexZ x y = 0 ↔ x = 0 ∧ y = 0 := by
  unfold lexZ
  by_cases h : x = 0
  · subst h; simp
  · rw [if_neg (by simpa using h)]; simp [h]
def tsX (z : Bool) (i : Nat) : List IT2 := if z then [qI i, q0, q0] else [qI i, qI (i + 2), qI (i + 8)]
def tsY (z : Bool) (i : Nat) : List IT2 := if z then [qI (i + 4), q0, q0] else [qI (i + 4), qI (i + 6), qI (i + 8)]
theorem reps_co {E : Env} {A B C : IT2} {a b c : Rat} (ha : RepQ E A a) (hb : RepQ E B b) (hc : RepQ E C c) : Reps E (if decide (b = 0) then [A, q0, q0] else [A, B, C]) [a, b, rC b c] := by
  by_cases h : b = 0
  · rw [decide_eq_true h, if_pos rfl, h, rC_zero]; exact ⟨ha, rep_0, rep_0, trivial⟩
  · rw [decide_eq_false h, if_neg (by decide), rC_ne h]; exact ⟨ha, hb, hc, trivial⟩
structure RepP (E : Env) (i : Nat) (p : PtQ) : Prop where
  r1 : RepQ E (qI i) p.ax
  r2 : RepQ E (qI (i + 2)) p.bx
  r3 : RepQ E (qI (i + 4)) p.ay
  r4 : RepQ E (qI (i + 6)) p.by'
  r5 : RepQ E (qI (i + 8)) p.c
def tsP (i : Nat) : List IT2 := [qI i, qI (i + 2), qI (i + 4), qI (i + 6), qI (i + 8)]
theorem RepP.reps {E : Env} {i : Nat} {p : PtQ} (h : RepP E i p) : Reps E (tsP i) p.l := ⟨h.r1, h.r2, h.r3, h.r4, h.r5, trivial⟩
noncomputable def tabPc (f : Bool) (z1 z2 z3 z4 : Bool) (s t : Int) : List (Nat × Con) :=
  (71, kKq (cts [tsX z1 0, tsX z3 10]) (rBl (s == 0)) (kKq (cts [tsY z2 0, tsY z4 10]) (rBl (t == 0)) kNoQ)) ::
  ((if f then 75 else 17), kKq (cts [tsX z1 0, tsX z3 10]) (rNq s) (kKq (cts [tsY z2 0, tsY z4 10]) (rNq t) kNoQ)) :: (tabInt ++ tabT)
def gPc (z1 z2 z3 z4 : Bool) : Asm := [(zt (qI 2), z1), (zt (qI 6), z2), (zt (qI 12), z3), (zt (qI 16), z4)]
def aP9 (i : Nat) : AV := .val true (intC 9 i 5)
noncomputable def pcF (f : Bool) : Func := if f then Tryz.f51 else Tryz.f52
noncomputable def pcN (f : Bool) : Nat := if f then 51 else 52
theorem pcF_body (f : Bool) : Tryz.prog.funcs[pcN f]? = some (pcF f) ∧ (pcF f).results.toList.length ≤ 4 ∧ 2 ≤ (pcF f).ntmps ∧ (pcF f).name ≠ "runtime.NumGoroutine" ∧ (pcF f).body.isNone = false := by
  cases f
  · exact ⟨Tryz.func52, by decide +kernel, by decide +kernel, by decide +kernel, by kernel_rfl⟩
  · exact ⟨Tryz.func51, by decide +kernel, by decide +kernel, by decide +kernel, by kernel_rfl⟩
theorem pc_walk : (bools.all fun f => bools.all fun z1 => bools.all fun z2 => bools.all fun z3 => bools.all fun z4 => sgs.all fun s => sgs.all fun t => isNlo (lexZ s t) (funE (cPt (cfgOf (tabPc f z1 z2 z3 z4 s t))) (pcF f) (gPc z1 z2 z3 z4) [aP9 0, aP9 10])) = true := by kernel_rfl
theorem pe_walk : (bools.all fun z1 => bools.all fun z2 => bools.all fun z3 => bools.all fun z4 => sgs.all fun s => sgs.all fun t => isBlo (lexZ s t == 0) (funE (cPt (cfgOf (tabPc true z1 z2 z3 z4 s t))) Tryz.f53 (gPc z1 z2 z3 z4) [aP9 0, aP9 10])) = true := by kernel_rfl
theorem LimQs.parts {n : Nat} {p : PtQ} (h : LimQs n p.l) : LimQ n p.ax ∧ LimQ n p.bx ∧ LimQ n p.ay ∧ LimQ n p.by' ∧ LimQ n p.c := ⟨h _ (by simp [PtQ.l]), h _ (by simp [PtQ.l]), h _ (by simp [PtQ.l]), h _ (by simp [PtQ.l]), h _ (by simp [PtQ.l])⟩
theorem LimQs.mk5 {n : Nat} {p : PtQ} (h1 : LimQ n p.ax) (h2 : LimQ n p.bx) (h3 : LimQ n p.ay) (h4 : LimQ n p.by') (h5 : LimQ n p.c) : LimQs n p.l := fun q hq => by
  simp only [PtQ.l, List.mem_cons, List.not_mem_nil, or_false] at hq
  rcases hq with rfl | rfl | rfl | rfl | rfl <;> assumption
theorem LimQs.up {n m : Nat} {l : List Rat} (h : LimQs n l) (k : n ≤ m) : LimQs m l := fun q hq => (h q hq).mono k
theorem limRC {n : Nat} {a b c : Rat} (h1 : LimQ n a) (h2 : LimQ n b) (h3 : LimQ n c) (k : 1 ≤ n) : LimR n a b (rC b c) := ⟨h1, h2, h3.rC k⟩
theorem pt_chunks {E : Env} {i n : Nat} {w : World} {v : Value} {p : PtQ} (h : RepP E i p) (hv : IsQs w v p.l) (l : LimQs n p.l) : ∀ β, (AV.val true (intC n i 5)).holds E β w v := fun _ => by
  obtain ⟨vs, rfl, hv⟩ := hv
  refine ⟨vs, rfl, (qs_chunks p.l i vs fun j q hj => ?_).2 ⟨hv, l⟩⟩
  match j, hj with
  | 0, hj => injection hj with hj; subst hj; exact h.r1
  | 1, hj => injection hj with hj; subst hj; exact h.r2
  | 2, hj => injection hj with hj; subst hj; exact h.r3
  | 3, hj => injection hj with hj; subst hj; exact h.r4
  | 4, hj => injection hj with hj; subst hj; exact h.r5
theorem qE_point (p : PtQ) (l : List Rat) : RepP (qE (p.l ++ l)) 0 p := ⟨⟨rfl, rfl⟩, ⟨rfl, rfl⟩, ⟨rfl, rfl⟩, ⟨rfl, rfl⟩, ⟨rfl, rfl⟩⟩
theorem qE_point2 (p q : PtQ) (l : List Rat) : RepP (qE (p.l ++ (q.l ++ l))) 10 q := ⟨⟨rfl, rfl⟩, ⟨rfl, rfl⟩, ⟨rfl, rfl⟩, ⟨rfl, rfl⟩, ⟨rfl, rfl⟩⟩
theorem gPc_ok {E : Env} {p q : PtQ} (h1 : RepP E 0 p) (h2 : RepP E 10 q) : (gPc (decide (p.bx = 0)) (decide (p.by' = 0)) (decide (q.bx = 0)) (decide (q.by' = 0))).holds E :=
  asm_and (zt_den h1.r2) <| asm_and (zt_den h1.r4) <| asm_and (zt_den h2.r2) <| asm_and (zt_den h2.r4) asm_nil
theorem tabPc_ok {E : Env} (hE : QEnv E) {f : Bool} {p q : PtQ} (hp : p.ok) (hq : q.ok) (l : LimQs 9 p.l) (l' : LimQs 9 q.l) (h1 : RepP E 0 p) (h2 : RepP E 10 q) : TabOK Tryz.prog E (tabPc f (decide (p.bx = 0)) (decide (p.by' = 0)) (decide (q.bx = 0)) (decide (q.by' = 0)) (cmX p q) (cmY p q)) := by
  obtain ⟨m1, m2, m3, m4, m5⟩ := l.parts
  obtain ⟨k1, k2, k3, k4, k5⟩ := l'.parts
  have rx : Reps E (tsX (decide (p.bx = 0)) 0) [p.ax, p.bx, rC p.bx p.c] := reps_co h1.r1 h1.r2 h1.r5
  have ry : Reps E (tsY (decide (p.by' = 0)) 0) [p.ay, p.by', rC p.by' p.c] := reps_co h1.r3 h1.r4 h1.r5
  have rx' : Reps E (tsX (decide (q.bx = 0)) 10) [q.ax, q.bx, rC q.bx q.c] := reps_co h2.r1 h2.r2 h2.r5
  have ry' : Reps E (tsY (decide (q.by' = 0)) 10) [q.ay, q.by', rC q.by' q.c] := reps_co h2.r3 h2.r4 h2.r5
  have lx := limRC m1 m2 m5 (by omega)
  have ly := limRC m3 m4 m5 (by omega)
  have lx' := limRC k1 k2 k5 (by omega)
  have ly' := limRC k3 k4 k5 (by omega)
  have eqT : ∀ {t u : List IT2} {a b c a' b' c' : Rat}, Reps E t [a, b, c] → Reps E u [a', b', c'] → Rd b c → Rd b' c' → LimR 9 a b c → LimR 9 a' b' c' → KnownR E 71 (cts [t, u]) (rBl (cmR a b c a' b' c' == 0)) := by
    intro t u a b c a' b' c' g1 g2 R R' j1 j2
    refine knownT (ls := [[a, b, c], [a', b', c']]) ⟨g1, g2, trivial⟩ (fun x off e => by cases e) fun w vs hv => ?_
    obtain ⟨v, u, rfl, k1, k2⟩ := roots_args hv
    refine (radEqual_calls w v u a b c a' b' c' R R' k1 k2 j1 j2).mono ?_
    rintro e w' ⟨rfl, ex⟩
    exact ⟨_, rfl, fun β => one_bool.2 rfl, ex⟩
  have rcT : ∀ {t u : List IT2} {a b c a' b' c' : Rat}, Reps E t [a, b, c] → Reps E u [a', b', c'] → LimR 9 a b c → LimR 9 a' b' c' → KnownR E 17 (cts [t, u]) (rNq (cmR a b c a' b' c')) := by
    intro t u a b c a' b' c' g1 g2 j1 j2
    refine knownT (ls := [[a, b, c], [a', b', c']]) ⟨g1, g2, trivial⟩ (fun x off e => by cases e) fun w vs hv => ?_
    obtain ⟨v, u, rfl, k1, k2⟩ := roots_args hv
    refine (refCmp_calls w v u a b c a' b' c' k1 k2 j1 j2).mono ?_
    rintro e w' ⟨rfl, ex⟩
    exact ⟨_, rfl, fun β => one_num.2 rfl, ex⟩
  refine .cons (kKr_ok (eqT rx rx' (RdP.fst hp) (RdP.fst hq) lx lx') <| kKr_ok (eqT ry ry' (RdP.snd hp) (RdP.snd hq) ly ly') (kNoQ_ok ⟨_, Tryz.func71, by decide +kernel, by kernel_rfl⟩)) <| .cons ?_ (TabOK.app tabInt_ok (tabT_ok hE))
  cases f
  · exact kKr_ok (rcT rx rx' lx lx') <| kKr_ok (rcT ry ry' ly ly') (kNoQ_ok ⟨_, Tryz.func17, by decide +kernel, by kernel_rfl⟩)
  · exact kKr_ok (cmpT rx rx' (RdP.fst hp) (RdP.fst hq) lx lx' rfl) <| kKr_ok (cmpT ry ry' (RdP.snd hp) (RdP.snd hq) ly ly' rfl) (kNoQ_ok ⟨_, Tryz.func75, by decide +kernel, by kernel_rfl⟩)
theorem two_pts {E : Env} {w : World} {v u : Value} {p q : PtQ} (h1 : RepP E 0 p) (h2 : RepP E 10 q) (hv : IsQs w v p.l) (hu : IsQs w u q.l) (l : LimQs 9 p.l) (l' : LimQs 9 q.l) : ∀ (i : Nat) (x : AV), [aP9 0, aP9 10][i]? = some x → ∃ β y, [v, u][i]? = some y ∧ x.holds E β w y := by
  intro i x hx
  match i, hx with
  | 0, hx => injection hx with hx; subst hx; exact ⟨fun _ => 0, v, rfl, pt_chunks h1 hv l _⟩
  | 1, hx => injection hx with hx; subst hx; exact ⟨fun _ => 0, u, rfl, pt_chunks h2 hu l' _⟩
theorem pcmp_calls (f : Bool) (w : World) (v u : Value) (p q : PtQ) (hp : p.ok) (hq : q.ok) (hv : IsQs w v p.l) (hu : IsQs w u q.l) (l : LimQs 9 p.l) (l' : LimQs 9 q.l) : Calls Tryz.prog (pcN f) #[v, u] w (RetN (cmP p q) w) := by
  obtain ⟨g1, g2, g3, _, _⟩ := pcF_body f
  obtain ⟨E, hE⟩ : ∃ E, E = qE (p.l ++ (q.l ++ [])) := ⟨_, rfl⟩
  have hQ : QEnv E := by rw [hE]; exact qE_ok _
  have h1 : RepP E 0 p := by rw [hE]; exact qE_point p _
  have h2 : RepP E 10 q := by rw [hE]; exact qE_point2 p q _
  have hW := List.all_eq_true.1 (List.all_eq_true.1 (List.all_eq_true.1 (List.all_eq_true.1 (List.all_eq_true.1 (List.all_eq_true.1 (List.all_eq_true.1 pc_walk f (bools_mem f)) (decide (p.bx = 0)) (bools_mem _)) (decide (p.by' = 0)) (bools_mem _)) (decide (q.bx = 0)) (bools_mem _)) (decide (q.by' = 0)) (bools_mem _)) (cmX p q) (cmR_range _ _ _ _ _ _)) (cmY p q) (cmR_range _ _ _ _ _ _)
  unfold isNlo at hW
  split at hW
  · rename_i T hTe
    refine (fun_sound mixed (cPt_ok (cfg_ok (tabPc_ok hQ hp hq l l' h1 h2)) (fun _ => trivial)) (gPc_ok h1 h2) g1 g2 hTe g3 rfl w [v, u] rfl (two_pts h1 h2 hv hu l l')).mono ?_
    rintro e w' ⟨β, x, rfl, hh, ex⟩
    rw [isNl_pick hW] at hh
    rw [show x = _ from one_num.1 hh]
    exact ⟨rfl, ex⟩
  · cases hW
theorem pequal_calls (w : World) (v u : Value) (p q : PtQ) (hp : p.ok) (hq : q.ok) (hv : IsQs w v p.l) (hu : IsQs w u q.l) (l : LimQs 9 p.l) (l' : LimQs 9 q.l) : Calls Tryz.prog 53 #[v, u] w (RetBl (cmP p q == 0) w) := by
  obtain ⟨E, hE⟩ : ∃ E, E = qE (p.l ++ (q.l ++ [])) := ⟨_, rfl⟩
  have hQ : QEnv E := by rw [hE]; exact qE_ok _
  have h1 : RepP E 0 p := by rw [hE]; exact qE_point p _
  have h2 : RepP E 10 q := by rw [hE]; exact qE_point2 p q _
  have hW := List.all_eq_true.1 (List.all_eq_true.1 (List.all_eq_true.1 (List.all_eq_true.1 (List.all_eq_true.1 (List.all_eq_true.1 pe_walk (decide (p.bx = 0)) (bools_mem _)) (decide (p.by' = 0)) (bools_mem _)) (decide (q.bx = 0)) (bools_mem _)) (decide (q.by' = 0)) (bools_mem _)) (cmX p q) (cmR_range _ _ _ _ _ _)) (cmY p q) (cmR_range _ _ _ _ _ _)
  unfold isBlo at hW
  split at hW
  · rename_i T hTe
    refine (fun_sound mixed (cPt_ok (cfg_ok (tabPc_ok (f := true) hQ hp hq l l' h1 h2)) (fun _ => trivial)) (gPc_ok h1 h2) Tryz.func53 (by decide +kernel) hTe (by decide +kernel) rfl w [v, u] rfl (two_pts h1 h2 hv hu l l')).mono ?_
    rintro e w' ⟨β, x, rfl, hh, ex⟩
    rw [isBl_pick hW] at hh
    rw [show x = _ from one_bool.1 hh]
    exact ⟨rfl, ex⟩
  · cases hW
end Go.Proofs.YtifeacfljfmnpaaGreat
end

section
set_option maxRecDepth 100000
namespace Go.Proofs.YtifeacfljfmnpaaGreat
open Go.RowKit
def kSqX (b : Bool) : Con
  | [x], _ => match qOf x with
    | some (C, m) => if (C.1.beq (qv 2).1 && C.2.beq (qv 2).2) && decide (m ≤ 4) then some (if b then .tup [(true, [.int (qv 3).1 4, .int (qv 3).2 4]), (false, [.b (.lit true)])] else .tup [(true, [.int (.lit 0) 0, .int (.lit 0) 0]), (false, [.b (.lit false)])]) else none
    | none => none
  | _, _ => none
theorem kSqX_ok {a b c s : Rat} {x : Bool} (lc : LimQ 4 c) (hx : (sqB c.num && sqB (c.den : Int)) = x) (hs : x = true → s.num = isq c.num ∧ (s.den : Int) = isq (c.den : Int)) {f : Nat}
    (hc : ∀ (w : World) (v : Value) (n d : Int), IsPair w v n d → Lim 100000 n → Lim 100000 d → Calls Tryz.prog f #[v] w (RetSqQ n d w))
    (hb : ∃ fn, Tryz.prog.funcs[f]? = some fn ∧ fn.name ≠ "runtime.NumGoroutine" ∧ fn.body.isNone = false) : ConOK Tryz.prog (qE [a, b, c, s]) f (kSqX x) := by
  have rc : RepQ (qE [a, b, c, s]) (qv 2) c := rep_v (i := 2)
  have rs : RepQ (qE [a, b, c, s]) (qv 3) s := rep_v (i := 3)
  refine ⟨?_, ?_, hb⟩
  · intro args G r h hG β w vs hv hlen
    unfold kSqX at h
    split at h
    · split at h
      · rename_i y C m hy
        split at h
        · rename_i hcd
          simp only [Bool.and_eq_true, decide_eq_true_iff] at hcd
          injection h with h
          subst h
          obtain ⟨v, rfl, h1⟩ := args1 hv hlen
          obtain ⟨q, rq', iq, lq⟩ := qOf_spec (qE_ok _) hy h1
          have e1 : q.num = c.num := by rw [← rq'.1, ← rc.1, IT.eq_of_beq hcd.1.1]
          have e2 : (q.den : Int) = (c.den : Int) := by rw [← rq'.2, ← rc.2, IT.eq_of_beq hcd.1.2]
          have hp : IsPair w v c.num (c.den : Int) := by
            have h0 : IsPair w v q.num (q.den : Int) := iq
            rw [e1, e2] at h0
            exact h0
          refine (hc w v _ _ hp (lc.1.mono (by omega)) (lc.2.mono (by omega))).mono ?_
          rintro e w' ⟨u, rfl, hr, ex⟩
          unfold sqN at hr
          rw [hx] at hr ⊢
          cases x with
          | true =>
            obtain ⟨s1, s2⟩ := hs rfl
            rw [if_pos rfl, if_pos rfl, ← s1, ← s2] at hr
            exact ⟨_, rfl, ⟨[u, .bool true], rfl, u, _, rfl, (one_q rs).2 ⟨hr, by rw [s1]; exact isq_lim lc.1, by rw [s2]; exact isq_lim lc.2⟩, _, _, rfl, one_bool.2 rfl, rfl⟩, ex⟩
          | false =>
            rw [if_neg (by decide), if_neg (by decide)] at hr
            exact ⟨_, rfl, ⟨[u, .bool false], rfl, u, _, rfl, one_pair.2 ⟨hr, lim_zero, lim_zero⟩, _, _, rfl, one_bool.2 rfl, rfl⟩, ex⟩
        · cases h
      · cases h
    · cases h
  · intro args G r h y off
    unfold kSqX at h
    split at h
    · split at h
      · split at h
        · injection h with h; subst h; cases x <;> (intro e; cases e)
        · cases h
      · cases h
    · cases h
end Go.Proofs.YtifeacfljfmnpaaGreat
end

section
set_option maxRecDepth 100000
namespace Go.Proofs.YtifeacfljfmnpaaGreat
open Go.RowKit
def isTs (ts : List IT2) : Option Tree → Bool
  | some (.leaf [(true, cs)]) => t6 ts cs
  | _ => false
def isTe (ts : List IT2) (e : Int) : Option Tree → Bool
  | some (.leaf [(true, cs), (false, [.n .i64 (.lit z)])]) => t6 ts cs && z == e
  | _ => false
theorem isTs_calls {C : Cfg} {E : Env} (hC : CfgOK Tryz.prog E C) (hw : ∀ w, C.wok w) {G : Asm} (hG : G.holds E) {f : FuncId} {fn : Func} (hf : Tryz.prog.funcs[f]? = some fn) (h4 : fn.results.toList.length ≤ 4) {args : List AV} {ts : List IT2} {qs : List Rat} (hT : isTs ts (funE C fn G args) = true) (hr : Reps E ts qs) (hn : args.length ≤ fn.ntmps) (hp : args.all noPtr = true) (w : World) (vs : List Value) (hl : vs.length = args.length)
    (hv : ∀ (i : Nat) (x : AV), args[i]? = some x → ∃ v, vs[i]? = some v ∧ ∀ β, x.holds E β w v) : Calls Tryz.prog f vs.toArray w (Ret (fun x w' => IsQs w' x qs) w) := by
  unfold isTs at hT
  split at hT
  · rename_i cs hTe
    refine (fun_sound mixed hC hG hf h4 hTe hn hp w vs hl (fun i x hx => ?_) (fun w' _ => hw w')).mono ?_
    · obtain ⟨v, h1, h2⟩ := hv i x hx
      exact ⟨fun _ => 0, v, h1, h2 _⟩
    · rintro e w' ⟨β, v, rfl, ⟨us, rfl, hu⟩, ex⟩
      exact ⟨_, rfl, ⟨us, rfl, t6_holds hr hT hu⟩, ex⟩
  · cases hT
def RetE (qs : List Rat) (z : Int) (w : World) (e : Ending) (w' : World) : Prop := ∃ x, e = .returned (.tuple #[x, .int .i64 z]) ∧ IsQs w' x qs ∧ Ext w w'
theorem isTe_calls {C : Cfg} {E : Env} (hC : CfgOK Tryz.prog E C) (hw : ∀ w, C.wok w) {G : Asm} (hG : G.holds E) {f : FuncId} {fn : Func} (hf : Tryz.prog.funcs[f]? = some fn) (h4 : fn.results.toList.length ≤ 4) {args : List AV} {ts : List IT2} {qs : List Rat} {z : Int} (hT : isTe ts z (funE C fn G args) = true) (hr : Reps E ts qs) (hn : args.length ≤ fn.ntmps) (hp : args.all noPtr = true) (w : World) (vs : List Value) (hl : vs.length = args.length)
    (hv : ∀ (i : Nat) (x : AV), args[i]? = some x → ∃ v, vs[i]? = some v ∧ ∀ β, x.holds E β w v) : Calls Tryz.prog f vs.toArray w (RetE qs z w) := by
  unfold isTe at hT
  split at hT
  · rename_i cs y hTe
    rw [Bool.and_eq_true, beq_iff_eq] at hT
    obtain ⟨hT, rfl⟩ := hT
    refine (fun_sound mixed hC hG hf h4 hTe hn hp w vs hl (fun i x hx => ?_) (fun w' _ => hw w')).mono ?_
    · obtain ⟨v, h1, h2⟩ := hv i x hx
      exact ⟨fun _ => 0, v, h1, h2 _⟩
    · rintro e w' ⟨β, v, rfl, ⟨vs, rfl, u1, r1, rfl, ⟨us, rfl, hu⟩, u2, r2, rfl, k2, hn⟩, ex⟩
      simp only [tupAll] at hn
      subst hn
      have k2' := one_num.1 k2
      subst k2'
      exact ⟨_, rfl, ⟨us, rfl, t6_holds hr hT hu⟩, ex⟩
  · cases hT
theorem two_hold {E : Env} {w : World} {x y : AV} {v u : Value} (h1 : ∀ β, x.holds E β w v) (h2 : ∀ β, y.holds E β w u) : ∀ (i : Nat) (s : AV), [x, y][i]? = some s → ∃ r, [v, u][i]? = some r ∧ ∀ β, s.holds E β w r := by
  intro i s hs
  match i, hs with
  | 0, hs => injection hs with hs; subst hs; exact ⟨v, rfl, h1⟩
  | 1, hs => injection hs with hs; subst hs; exact ⟨u, rfl, h2⟩
def tsMk (z1 z2 : Bool) : List IT2 := [qI 0, qI 2, qI 6, qI 8, if z1 then (if z2 then q0 else qI 10) else qI 4]
def gMk (z1 z2 z3 : Bool) : Asm := [(zt (qI 2), z1), (zt (qI 8), z2), (.eq (qcmp (qI 4) (qI 10)) (.lit 0), z3)]
def aR5 (i : Nat) : AV := .val true (rt (qI i) (qI (i + 2)) (qI (i + 4)) 20)
theorem mk7_walk : (bools.all fun z1 => bools.all fun z2 => bools.all fun z3 => !(z1 || (z2 || z3)) || isTe (tsMk z1 z2) 0 (funE (cPt (cfgOf (tabInt ++ tabT))) Tryz.f35 (gMk z1 z2 z3) [aR5 0, aR5 6])) = true := by kernel_rfl
theorem qcmp_zero {E : Env} {p q : IT2} {a b : Rat} (hp : RepQ E p a) (hq : RepQ E q b) : (BT.eq (qcmp p q) (.lit 0)).den E = decide (a = b) := by
  have h : cmpZ (a.num * (b.den : Int)) (b.num * (a.den : Int)) = (qcmp p q).den E := by
    show _ = cmpZ (p.1.den E * q.2.den E) (q.1.den E * p.2.den E)
    rw [hp.1, hp.2, hq.1, hq.2]
  show ((qcmp p q).den E == 0) = _
  rw [← h, cmp0, decide_eq_decide]
  exact (Rat.eq_iff_mul_eq_mul).symm
theorem mk7_calls (w : World) (v u : Value) (a b c a' b' c' : Rat) (R' : Rd b' c') (ok : Ok b c b' c') (hv : IsRoot w v a b c) (hu : IsRoot w u a' b' c') (l : LimR 20 a b c) (l' : LimR 20 a' b' c') : Calls Tryz.prog 35 #[v, u] w (RetE [a, b, a', b', cm b c c'] 0 w) := by
  obtain ⟨E, hE⟩ : ∃ E, E = qE [a, b, c, a', b', c'] := ⟨_, rfl⟩
  have hQ : QEnv E := by rw [hE]; exact qE_ok _
  have q : Rts E a b c a' b' c' := by rw [hE]; exact rts_mk _ _ _ _ _ _ _
  have hW := List.all_eq_true.1 (List.all_eq_true.1 (List.all_eq_true.1 mk7_walk (decide (b = 0)) (bools_mem _)) (decide (b' = 0)) (bools_mem _)) (decide (c = c')) (bools_mem _)
  have hok : (decide (b = 0) || (decide (b' = 0) || decide (c = c'))) = true := by
    rcases ok with h | h | h
    · rw [decide_eq_true h]; rfl
    · rw [decide_eq_true h, Bool.true_or, Bool.or_true]
    · rw [decide_eq_true h, Bool.or_true, Bool.or_true]
  rw [hok, Bool.not_true, Bool.false_or] at hW
  have hG : (gMk (decide (b = 0)) (decide (b' = 0)) (decide (c = c'))).holds E := asm_and (zt_den q.r2) <| asm_and (zt_den q.r5) <| asm_and (qcmp_zero q.r3 q.r6) asm_nil
  have hr : Reps E (tsMk (decide (b = 0)) (decide (b' = 0))) [a, b, a', b', cm b c c'] := by
    refine ⟨q.r1, q.r2, q.r4, q.r5, ?_, trivial⟩
    by_cases hb : b = 0
    · rw [decide_eq_true hb, if_pos rfl, hb, cm_zero]
      by_cases hb' : b' = 0
      · rw [decide_eq_true hb', if_pos rfl]
        rcases R' with ⟨_, e⟩ | ⟨e, _⟩
        · rw [e]; exact rep_0
        · exact absurd hb' e
      · rw [decide_eq_false hb', if_neg (by decide)]; exact q.r6
    · rw [decide_eq_false hb, if_neg (by decide), cm_ne hb]; exact q.r3
  exact isTe_calls (cPt_ok (cfg_ok (TabOK.app tabInt_ok (tabT_ok hQ))) (fun _ => trivial)) (fun _ => trivial) hG Tryz.func35 (by decide +kernel) hW hr (by decide +kernel) rfl w [v, u] rfl
    (two_hold (fun β => (one_rt q.r1 q.r2 q.r3).2 ⟨hv, l⟩) (fun β => (one_rt q.r4 q.r5 q.r6).2 ⟨hu, l'⟩))
theorem LimQ.addP {l m k j n : Nat} {a b : Rat} (h1 : Lim l a.num) (h2 : Lim m (a.den : Int)) (h3 : Lim k b.num) (h4 : Lim j (b.den : Int)) (e1 : l + j < n) (e2 : k + m < n) : Lim n (a + b).num ∧ Lim (m + j) ((a + b).den : Int) := by
  have e : a + b = a - (-b) := by grind
  rw [e]
  exact LimQ.sub' h1 h2 (by rw [Rat.neg_num]; exact h3.neg) (show Lim j ((-b).den : Int) from h4) e1 e2
def mkT : IT2 := qop 0 (qv 0) (qop 2 (qv 1) (qv 3))
noncomputable def mkV (x : Bool) (G : Asm) : Option Tree := funE (cR [(73, kSqX x)]) Tryz.f127 G [aQl 0 3, aQl 1 3, aQl 2 3]
def gNn7 : BT × Bool := (.lt (sgt (qv 2)) (.lit 0), false)
theorem mkV_sq : isTe [mkT, q0, q0] 0 (mkV true [gNn7]) = true := by kernel_rfl
theorem mkV_b0 : isTe [qv 0, q0, q0] 0 (mkV false [gNn7, (zt (qv 1), true)]) = true := by kernel_rfl
theorem mkV_rt : isTe [qv 0, qv 1, qv 2] 0 (mkV false [gNn7, (zt (qv 1), false), (zt (qv 2), false)]) = true := by kernel_rfl
theorem make7_ex {a b c : Rat} (hc : 0 ≤ c) (la : LimQ 1 a) (lb : LimQ 1 b) (lc : LimQ 1 c) : ∃ a' b' c' : Rat, Rd b' c' ∧ LimR 4 a' b' c' ∧ (b' ≠ 0 → c' = c) ∧ ∀ (w : World) (v1 v2 v3 : Value), IsRat w v1 a → IsRat w v2 b → IsRat w v3 c →
    Calls Tryz.prog 127 #[v1, v2, v3] w (RetE [a', b', c'] 0 w) := by
  have up : ∀ {n m : Nat} {q : Rat}, n ≤ m → LimQ n q → LimQ m q := fun h l => ⟨l.1.mono h, l.2.mono h⟩
  have lz : LimQ 4 (0 : Rat) := limB_ok (by decide +kernel)
  have run : ∀ (x : Bool) (s : Rat) (G : Asm) (ts : List IT2) (qs : List Rat), (sqB c.num && sqB (c.den : Int)) = x → (x = true → s.num = isq c.num ∧ (s.den : Int) = isq (c.den : Int)) → G.holds (qE [a, b, c, s]) → isTe ts 0 (mkV x G) = true → Reps (qE [a, b, c, s]) ts qs →
      ∀ (w : World) (v1 v2 v3 : Value), IsRat w v1 a → IsRat w v2 b → IsRat w v3 c → Calls Tryz.prog 127 #[v1, v2, v3] w (RetE qs 0 w) := by
    intro x s G ts qs hx hs hG hT hr w v1 v2 v3 h1 h2 h3
    have hC : CfgOK Tryz.prog (qE [a, b, c, s]) (cR [(73, kSqX x)]) := cR_ok (qE_ok _) (.cons (kSqX_ok (up (by omega) lc) hx hs (fun w v n d h l m => rsqrtQ_calls w v n d h l m) ⟨_, Tryz.func73, by decide +kernel, by kernel_rfl⟩) .nil)
    refine isTe_calls hC (fun _ => trivial) hG Tryz.func127 (by decide +kernel) hT hr (by decide +kernel) rfl w [v1, v2, v3] rfl ?_
    exact three_argsQ (fun β => aQl_holds (i := 0) h1 (up (by omega) la)) (fun β => aQl_holds (i := 1) h2 (up (by omega) lb)) (fun β => aQl_holds (i := 2) h3 (up (by omega) lc))
  have gn : ∀ s, (gNn7).1.den (qE [a, b, c, s]) = false := fun s => by
    have rc : RepQ (qE [a, b, c, s]) (qv 2) c := rep_v (i := 2)
    show decide ((sgt (qv 2)).den _ < 0) = false
    rw [sgt_den rc]
    rcases sgQ_cases c with ⟨k, e⟩ | ⟨k, e⟩ | ⟨k, e⟩ <;> rw [e] <;> first | rfl | exact absurd k (by grind)
  have zq : ∀ (s : Rat), (zt (qv 1)).den (qE [a, b, c, s]) = decide (b = 0) ∧ (zt (qv 2)).den (qE [a, b, c, s]) = decide (c = 0) := fun s => ⟨zt_den (rep_v (i := 1)), zt_den (rep_v (i := 2))⟩
  cases hx : (sqB c.num && sqB (c.den : Int)) with
  | true =>
    have hx' := hx
    rw [Bool.and_eq_true] at hx'
    obtain ⟨s, s1, s2⟩ := root_rat hx'.1 hx'.2
    have ls : LimQ 1 s := ⟨by rw [s1]; exact isq_lim lc.1, by rw [s2]; exact isq_lim lc.2⟩
    have m1 := LimQ.mul' lb.1 lb.2 ls.1 ls.2
    have m2 := LimQ.addP (n := 4) la.1 la.2 m1.1 m1.2 (by omega) (by omega)
    refine ⟨a + b * s, 0, 0, .inl ⟨rfl, rfl⟩, ⟨⟨m2.1, m2.2.mono (by omega)⟩, lz, lz⟩, fun h => absurd rfl h, run true s [gNn7] _ [a + b * s, 0, 0] hx (fun _ => ⟨s1, s2⟩) (asm_and (gn s) asm_nil) mkV_sq ⟨?_, rep_0, rep_0, trivial⟩⟩
    exact rep_add (rep_v (i := 0)) (rep_mul (rep_v (i := 1)) (rep_v (i := 3)))
  | false =>
    by_cases hb : b = 0
    · exact ⟨a, 0, 0, .inl ⟨rfl, rfl⟩, ⟨up (by omega) la, lz, lz⟩, fun h => absurd rfl h, run false 0 [gNn7, (zt (qv 1), true)] _ [a, 0, 0] hx (fun h => by cases h) (asm_and (gn 0) (asm_and (by rw [(zq 0).1, decide_eq_true hb]) asm_nil)) mkV_b0 ⟨rep_v (i := 0), rep_0, rep_0, trivial⟩⟩
    · have hc0 : c ≠ 0 := by
        intro h
        rw [h] at hx
        revert hx
        decide +kernel
      have hcp : 0 < c := by grind
      exact ⟨a, b, c, Rdb_iff.1 (by rw [Rdb_cases, if_neg hb, if_pos hcp, hx]; rfl), ⟨up (by omega) la, up (by omega) lb, up (by omega) lc⟩, fun _ => rfl, run false 0 [gNn7, (zt (qv 1), false), (zt (qv 2), false)] _ [a, b, c] hx (fun h => by cases h) (asm_and (gn 0) (asm_and (by rw [(zq 0).1, decide_eq_false hb]) (asm_and (by rw [(zq 0).2, decide_eq_false hc0]) asm_nil))) mkV_rt ⟨rep_v (i := 0), rep_v (i := 1), rep_v (i := 2), trivial⟩⟩
def placeV (A B C D N M : Int) : Value := .agg #[.int .i16 A, .int .i16 B, .int .i16 C, .int .i16 D, .int .u16 N, .int .u8 M]
structure PlaceOK (A B C D N M : Int) : Prop where
  a : -32768 ≤ A ∧ A ≤ 32767
  b : -32768 ≤ B ∧ B ≤ 32767
  c : -32768 ≤ C ∧ C ≤ 32767
  d : -32768 ≤ D ∧ D ≤ 32767
  n : 0 ≤ N ∧ N ≤ 65535
  m : 0 ≤ M ∧ M ≤ 255
def cfr7 (t u : IT) : List AV → Bool
  | [.val false [.n .i64 x], .val false [.n .i64 y]] => x.beq t && y.beq u
  | _ => false
theorem frac7_known {E : Env} {t u : IT} {q : IT2} {n d : Int} (ht : t.den E = n) (hu : u.den E = d) (hn : I64 n) (hd : I64 d) (hq : RepQ E q (Rat.divInt n d)) : KnownR E 69 (cfr7 t u) (.val true [.int q.1 3, .int q.2 3]) := by
  refine ⟨?_, fun x off e => by cases e⟩
  intro args hc β w vs hv hl
  unfold cfr7 at hc
  split at hc
  · rw [Bool.and_eq_true] at hc
    have e1 := IT.eq_of_beq hc.1
    have e2 := IT.eq_of_beq hc.2
    subst e1 e2
    obtain ⟨v, x, rfl, h1, h2⟩ := args2 hv hl
    have h1' := one_num.1 h1
    have h2' := one_num.1 h2
    subst h1' h2'
    rw [ht, hu]
    refine (rfrac_rat_calls w n d hn hd).mono ?_
    rintro e w' ⟨y, rfl, hy, ex⟩
    have l := frac_lim hn hd
    exact ⟨y, rfl, fun β => (one_q hq).2 ⟨hy, l.1, l.2⟩, ex⟩
  · cases hc
def n7 (i : Nat) : IT := .a1 20 (.var i)
def d7 : IT := .a1 20 (.a2 0 (.a1 20 (.var 20)) (.lit 1))
def pl7A : AV := .val true [.n .i16 (.var 10), .n .i16 (.var 12), .n .i16 (.var 14), .n .i16 (.var 16), .n .u16 (.var 18), .n .u8 (.var 20)]
def c7T : IT2 := (n7 18, .lit 1)
def rt7 (i : Nat) : List Chunk := rt (qI i) (qI (i + 2)) (qI (i + 4)) 4
noncomputable def tabOf7 : List (Nat × Con) :=
  (69, kKq (cfr7 (n7 10) d7) (aQ3' 0) (kKq (cfr7 (n7 12) d7) (aQ3' 2) (kKq (cfr7 (n7 14) d7) (aQ3' 4) (kKq (cfr7 (n7 16) d7) (aQ3' 6) kNoQ)))) ::
  (127, kKq (cts [[qI 0], [qI 2], [c7T]]) (.tup [(true, rt7 22), (false, [.n .i64 (.lit 0)])]) (kKq (cts [[qI 4], [qI 6], [c7T]]) (.tup [(true, rt7 28), (false, [.n .i64 (.lit 0)])]) kNoQ)) ::
  (35, kKq (cts [[qI 22, qI 24, qI 26], [qI 28, qI 30, qI 32]]) (.tup [(true, intC 4 34 5), (false, [.n .i64 (.lit 0)])]) kNoQ) :: tabT
where aQ3' (i : Nat) : AV := .val true [.int (.var i) 3, .int (.var (i + 1)) 3]
def g7 : Asm := [(.le (.lit (-9223372036854775808)) (n7 18), true), (.le (n7 18) (.lit 9223372036854775807), true)]
theorem of7_walk : isTs (tsP 34) (funE (cfgOf tabOf7) Tryz.f54 g7 [pl7A]) = true := by kernel_rfl
theorem place_holds {E : Env} {β : Nat → Nat} {w : World} {a b c d n m : Int} (h1 : E.i 10 = a) (h2 : E.i 12 = b) (h3 : E.i 14 = c) (h4 : E.i 16 = d) (h5 : E.i 18 = n) (h6 : E.i 20 = m) : pl7A.holds E β w (placeV a b c d n m) := by
  subst h1 h2 h3 h4 h5 h6
  exact ⟨[_, _, _, _, _, _], rfl, [_], _, rfl, rfl, [_], _, rfl, rfl, [_], _, rfl, rfl, [_], _, rfl, rfl, [_], _, rfl, rfl, [_], [], rfl, rfl, rfl⟩
theorem lim1_lt {z : Int} (h1 : -1000000000 < z) (h2 : z < 1000000000) : Lim 1 z := lim1 (by omega)
theorem argsQ3' {w : World} {vs : List Value} {l m n : List Rat} (h : ArgsQ w vs [l, m, n]) : ∃ v u x, vs = [v, u, x] ∧ IsQs w v l ∧ IsQs w u m ∧ IsQs w x n := by
  match vs, h with
  | [v, u, x], h => exact ⟨v, u, x, rfl, h.1, h.2.1, h.2.2.1⟩
theorem mk3_known {V : Env} {t1 t2 t3 : IT2} {i : Nat} {a b c x1 x2 x3 : Rat} (hr : RepsL V [[t1], [t2], [t3]] [[a], [b], [c]]) (k1 : RepQ V (qI i) x1) (k2 : RepQ V (qI (i + 2)) x2) (k3 : RepQ V (qI (i + 4)) x3) (lx : LimR 4 x1 x2 x3)
    (hm : ∀ (w : World) (v1 v2 v3 : Value), IsRat w v1 a → IsRat w v2 b → IsRat w v3 c → Calls Tryz.prog 127 #[v1, v2, v3] w (RetE [x1, x2, x3] 0 w)) : KnownR V 127 (cts [[t1], [t2], [t3]]) (.tup [(true, rt7 i), (false, [.n .i64 (.lit 0)])]) := by
  refine knownT hr (fun x off e => by cases e) fun w vs hv => ?_
  obtain ⟨v1, v2, v3, rfl, j1, j2, j3⟩ := argsQ3' hv
  refine (hm w v1 v2 v3 (qs_rat j1) (qs_rat j2) (qs_rat j3)).mono ?_
  rintro e w' ⟨x, rfl, hx, ex⟩
  exact ⟨_, rfl, fun β => ⟨[x, .int .i64 0], rfl, _, _, rfl, (one_rt k1 k2 k3).2 ⟨qs_root hx, lx⟩, _, _, rfl, one_num.2 rfl, rfl⟩, ex⟩
set_option maxHeartbeats 1000000 in
theorem of7_ex (A B C D N M : Int) (h : PlaceOK A B C D N M) : ∃ p : PtQ, p.ok ∧ LimQs 4 p.l ∧ ∀ w : World, Calls Tryz.prog 54 #[placeV A B C D N M] w (Ret (fun x w' => IsQs w' x p.l) w) := by
  obtain ⟨⟨a1, a2⟩, ⟨b1, b2⟩, ⟨c1, c2⟩, ⟨d1, d2⟩, ⟨n1, n2⟩, ⟨m1, m2⟩⟩ := h
  have i64 : ∀ z : Int, -32768 ≤ z → z ≤ 65536 → I64 z := fun z h1 h2 => ⟨by omega, by omega⟩
  have fl : ∀ z : Int, -32768 ≤ z → z ≤ 65536 → LimQ 1 (Rat.divInt z (M + 1)) := fun z h1 h2 => divInt_lim (lim1_lt (by omega) (by omega)) (lim1_lt (by omega) (by omega)) (by omega)
  obtain ⟨qa, hqa⟩ : ∃ q, q = Rat.divInt A (M + 1) := ⟨_, rfl⟩
  obtain ⟨qb, hqb⟩ : ∃ q, q = Rat.divInt B (M + 1) := ⟨_, rfl⟩
  obtain ⟨qc, hqc⟩ : ∃ q, q = Rat.divInt C (M + 1) := ⟨_, rfl⟩
  obtain ⟨qd, hqd⟩ : ∃ q, q = Rat.divInt D (M + 1) := ⟨_, rfl⟩
  have la := fl A (by omega) (by omega)
  have lb := fl B (by omega) (by omega)
  have lc := fl C (by omega) (by omega)
  have ld := fl D (by omega) (by omega)
  rw [← hqa] at la
  rw [← hqb] at lb
  rw [← hqc] at lc
  rw [← hqd] at ld
  have ln : LimQ 1 (N : Rat) := ⟨lim1_lt (by rw [Rat.num_intCast]; omega) (by rw [Rat.num_intCast]; omega), lim1_lt (by rw [Rat.den_intCast]; decide) (by rw [Rat.den_intCast]; decide)⟩
  have hn : (0 : Rat) ≤ (N : Rat) := by
    have := Rat.intCast_le_intCast.2 n1
    exact this
  obtain ⟨x1, x2, x3, R, lx, hx, hmx⟩ := make7_ex hn la lb ln
  obtain ⟨y1, y2, y3, R', ly, hy, hmy⟩ := make7_ex hn lc ld ln
  have ok : Ok x2 x3 y2 y3 := by
    by_cases h1 : x2 = 0
    · exact .inl h1
    · by_cases h2 : y2 = 0
      · exact .inr (.inl h2)
      · exact .inr (.inr ((hx h1).trans (hy h2).symm))
  obtain ⟨p, hp⟩ : ∃ p : PtQ, p = ⟨x1, x2, y1, y2, cm x2 x3 y3⟩ := ⟨_, rfl⟩
  have rd1 : ∀ {b c : Rat}, b ≠ 0 → Rd b c → Rd 1 c := by
    intro b c hb R
    rcases R with ⟨h1, _⟩ | ⟨_, h2⟩
    · exact absurd h1 hb
    · exact .inr ⟨by decide, h2⟩
  have hpo : p.ok := by
    rw [hp]
    refine RdP.mk ?_
    by_cases h1 : x2 = 0
    · subst h1
      rw [cm_zero]
      rcases R' with ⟨e1, e2⟩ | R2
      · exact .inl ⟨rfl, e1, e2⟩
      · exact .inr ⟨fun k => R2.1 k.2, rd1 R2.1 (.inr R2)⟩
    · rw [cm_ne h1]
      exact .inr ⟨fun k => h1 k.1, rd1 h1 R⟩
  have hpl : LimQs 4 p.l := by
    rw [hp]
    exact LimQs.mk5 lx.1 lx.2.1 ly.1 ly.2.1 (lx.2.2.cm ly.2.2)
  have hml : p.l = [x1, x2, y1, y2, cm x2 x3 y3] := by rw [hp]; rfl
  refine ⟨p, hpo, hpl, fun w => ?_⟩
  obtain ⟨V, hV⟩ : ∃ V, V = qE ([qa, qb, qc, qd, 0, (A : Rat), (B : Rat), (C : Rat), (D : Rat), (N : Rat), (M : Rat), x1, x2, x3, y1, y2, y3] ++ p.l) := ⟨_, rfl⟩
  have hQ : QEnv V := by rw [hV]; exact qE_ok _
  have ra : RepQ V (qI 0) qa := by rw [hV]; exact ⟨rfl, rfl⟩
  have rb : RepQ V (qI 2) qb := by rw [hV]; exact ⟨rfl, rfl⟩
  have rc : RepQ V (qI 4) qc := by rw [hV]; exact ⟨rfl, rfl⟩
  have rd : RepQ V (qI 6) qd := by rw [hV]; exact ⟨rfl, rfl⟩
  have r1 : RepQ V (qI 22) x1 := by rw [hV]; exact ⟨rfl, rfl⟩
  have r2 : RepQ V (qI 24) x2 := by rw [hV]; exact ⟨rfl, rfl⟩
  have r3 : RepQ V (qI 26) x3 := by rw [hV]; exact ⟨rfl, rfl⟩
  have r4 : RepQ V (qI 28) y1 := by rw [hV]; exact ⟨rfl, rfl⟩
  have r5 : RepQ V (qI 30) y2 := by rw [hV]; exact ⟨rfl, rfl⟩
  have r6 : RepQ V (qI 32) y3 := by rw [hV]; exact ⟨rfl, rfl⟩
  have rp : RepP V 34 p := by rw [hV]; exact ⟨⟨rfl, rfl⟩, ⟨rfl, rfl⟩, ⟨rfl, rfl⟩, ⟨rfl, rfl⟩, ⟨rfl, rfl⟩⟩
  have vA : V.i 10 = A := by rw [hV]; exact qE_int (i := 5) rfl
  have vB : V.i 12 = B := by rw [hV]; exact qE_int (i := 6) rfl
  have vC : V.i 14 = C := by rw [hV]; exact qE_int (i := 7) rfl
  have vD : V.i 16 = D := by rw [hV]; exact qE_int (i := 8) rfl
  have vN : V.i 18 = N := by rw [hV]; exact qE_int (i := 9) rfl
  have vM : V.i 20 = M := by rw [hV]; exact qE_int (i := 10) rfl
  have nt : ∀ {i : Nat} {z : Int}, V.i i = z → -32768 ≤ z → z ≤ 65536 → (n7 i).den V = z := by
    intro i z hi h1 h2
    show IntKind.i64.wrap (V.i i) = z
    rw [hi]; exact IntWalk.i64_in _ (by omega)
  have dt : d7.den V = M + 1 := by
    show IntKind.i64.wrap (IntKind.i64.wrap (V.i 20) + 1) = M + 1
    rw [vM, IntWalk.i64_in M (by omega)]; exact IntWalk.i64_in _ (by omega)
  have rN : RepQ V c7T (N : Rat) := ⟨by rw [Rat.num_intCast]; exact nt vN (by omega) (by omega), by rw [Rat.den_intCast]; rfl⟩
  have hG : g7.holds V := asm_and (by show decide (_ ≤ (n7 18).den V) = true; rw [nt vN (by omega) (by omega)]; exact decide_eq_true (by show (-9223372036854775808 : Int) ≤ N; omega)) <| asm_and (by show decide ((n7 18).den V ≤ _) = true; rw [nt vN (by omega) (by omega)]; exact decide_eq_true (by show N ≤ (9223372036854775807 : Int); omega)) asm_nil
  have iM : I64 (M + 1) := i64 _ (by omega) (by omega)
  have hT : TabOK Tryz.prog V tabOf7 := by
    refine .cons (kKr_ok (frac7_known (q := qI 0) (nt vA (by omega) (by omega)) dt (i64 _ (by omega) (by omega)) iM (by rw [← hqa]; exact ra)) <|
      kKr_ok (frac7_known (q := qI 2) (nt vB (by omega) (by omega)) dt (i64 _ (by omega) (by omega)) iM (by rw [← hqb]; exact rb)) <|
      kKr_ok (frac7_known (q := qI 4) (nt vC (by omega) (by omega)) dt (i64 _ (by omega) (by omega)) iM (by rw [← hqc]; exact rc)) <|
      kKr_ok (frac7_known (q := qI 6) (nt vD (by omega) (by omega)) dt (i64 _ (by omega) (by omega)) iM (by rw [← hqd]; exact rd)) (kNoQ_ok ⟨_, Tryz.func69, by decide +kernel, by kernel_rfl⟩)) <|
      .cons (kKr_ok (mk3_known (i := 22) ⟨⟨ra, trivial⟩, ⟨rb, trivial⟩, ⟨rN, trivial⟩, trivial⟩ r1 r2 r3 lx hmx) <| kKr_ok (mk3_known (i := 28) ⟨⟨rc, trivial⟩, ⟨rd, trivial⟩, ⟨rN, trivial⟩, trivial⟩ r4 r5 r6 ly hmy) (kNoQ_ok ⟨_, Tryz.func127, by decide +kernel, by kernel_rfl⟩)) <|
      .cons (kKr_ok (knownT (ls := [[x1, x2, x3], [y1, y2, y3]]) ⟨⟨r1, r2, r3, trivial⟩, ⟨r4, r5, r6, trivial⟩, trivial⟩ (fun x off e => by cases e) fun w vs hv => ?_) (kNoQ_ok ⟨_, Tryz.func35, by decide +kernel, by kernel_rfl⟩)) (tabT_ok hQ)
    obtain ⟨v, u, rfl, j1, j2⟩ := roots_args hv
    refine (mk7_calls w v u x1 x2 x3 y1 y2 y3 R' ok j1 j2 (lx.mono (by omega)) (ly.mono (by omega))).mono ?_
    rintro e w' ⟨x, rfl, hx, ex⟩
    rw [← hml] at hx
    exact ⟨_, rfl, fun β => ⟨[x, .int .i64 0], rfl, _, _, rfl, pt_chunks rp hx hpl β, _, _, rfl, one_num.2 rfl, rfl⟩, ex⟩
  exact isTs_calls (cfg_ok hT) (fun _ => trivial) hG Tryz.func54 (by decide +kernel) of7_walk rp.reps (by decide +kernel) rfl w [_] rfl (one_arg rfl rfl (fun β => place_holds vA vB vC vD vN vM))
end Go.Proofs.YtifeacfljfmnpaaGreat
end

section
set_option maxRecDepth 100000
namespace Go.Proofs.YtifeacfljfmnpaaGreat
open Go.RowKit
noncomputable def tabAw7 : List (Nat × Con) :=
  (75, kKq (cqs [[0, 1, 8], [3, 0, 0]]) (rNq (-1)) kNoQ) ::
  (71, kKq (cqs [[0, 1, 8], [0, 2, 2]]) (rBl true) (kKq (cqs [[0, 0, 0], [0, 0, 0]]) (rBl true) kNoQ)) ::
  (73, kSqQ) :: (37, kRSm) :: []
theorem tabAw7_ok {E : Env} : TabOK Tryz.prog E tabAw7 :=
  .cons (kKr_ok (cmp_known (by decide +kernel) (by decide +kernel) (limB3_ok (by decide +kernel)) (limB3_ok (by decide +kernel)) (by decide +kernel)) (kNoQ_ok ⟨_, Tryz.func75, by decide +kernel, by kernel_rfl⟩)) <|
  .cons (kKr_ok (equal_known (by decide +kernel) (by decide +kernel) (limB3_ok (by decide +kernel)) (limB3_ok (by decide +kernel)) (by decide +kernel)) (kKr_ok (equal_known (by decide +kernel) (by decide +kernel) (limB3_ok (by decide +kernel)) (limB3_ok (by decide +kernel)) (by decide +kernel)) (kNoQ_ok ⟨_, Tryz.func71, by decide +kernel, by kernel_rfl⟩))) <|
  .cons (kSqQ_ok (fun w v n d h l m => rsqrtQ_calls w v n d h l m) ⟨_, Tryz.func73, by decide +kernel, by kernel_rfl⟩) <| .cons kRSm_ok .nil
noncomputable def awL0 : List (Nat × Func) := [(127, Tryz.f127)]
noncomputable def awL1 : List (Nat × Func) := [(169, Tryz.f169)]
noncomputable def awL2 : List (Nat × Func) := [(130, Tryz.f130)]
noncomputable def awL3 : List (Nat × Func) := [(58, Tryz.f58), (53, Tryz.f53), (51, Tryz.f51)]
theorem awL0_ok : InlOK Tryz.prog awL0 := .cons Tryz.func127 (by decide +kernel) (by kernel_rfl) .nil
theorem awL1_ok : InlOK Tryz.prog awL1 := .cons Tryz.func169 (by decide +kernel) (by kernel_rfl) .nil
theorem awL2_ok : InlOK Tryz.prog awL2 := .cons Tryz.func130 (by decide +kernel) (by kernel_rfl) .nil
theorem awL3_ok : InlOK Tryz.prog awL3 := .cons Tryz.func58 (by decide +kernel) (by kernel_rfl) <| .cons Tryz.func53 (by decide +kernel) (by kernel_rfl) <| .cons Tryz.func51 (by decide +kernel) (by kernel_rfl) .nil
noncomputable def cRoot7 : Cfg := cfgI (cfgI (cR tabAw7) (cR tabAw7) awL0) (cfgI (cR tabAw7) (cR tabAw7) awL0) awL1
theorem cRoot7_ok {E : Env} (hE : QEnv E) : CfgOK Tryz.prog E cRoot7 := by
  have h0 : CfgOK Tryz.prog E (cR tabAw7) := cR_ok hE tabAw7_ok
  have h1 := cfgI_ok mixed h0 h0 (fun _ => trivial) awL0_ok
  exact cfgI_ok mixed h1 h1 (fun _ => trivial) awL1_ok
noncomputable def tabAw8 : List (Nat × Con) := (108, kFold (kInl cRoot7 Tryz.f108)) :: tabAw7
theorem tabAw8_ok {E : Env} (hE : QEnv E) : TabOK Tryz.prog E tabAw8 := .cons (kFold_ok (kInl_ok mixed (cRoot7_ok hE) (fun _ => trivial) Tryz.func108 (by decide +kernel) (by kernel_rfl))) tabAw7_ok
noncomputable def cAw7 : Cfg := cfgI (cfgI (cPt (cR tabAw8)) (cPt (cR tabAw8)) awL2) (cfgI (cPt (cR tabAw8)) (cPt (cR tabAw8)) awL2) awL3
theorem cAw7_ok {E : Env} (hE : QEnv E) : CfgOK Tryz.prog E cAw7 := by
  have h0 : CfgOK Tryz.prog E (cPt (cR tabAw8)) := cPt_ok (cR_ok hE (tabAw8_ok hE)) (fun _ => trivial)
  have h1 := cfgI_ok mixed h0 h0 (fun _ => trivial) awL2_ok
  exact cfgI_ok mixed h1 h1 (fun _ => trivial) awL3_ok
def allC7 : Tree → Bool
  | .leaf [(false, [.b t])] => t.ev [] == some true
  | .leaf _ => false
  | .ite _ x y => allC7 x && allC7 y
theorem allC7_out {E : Env} {β : Nat → Nat} {w : World} {v : Value} : ∀ {T : Tree}, allC7 T = true → (toAV (T.pick E)).holds E β w v → v = .bool true := by
  intro T
  induction T with
  | leaf l =>
    intro h hh
    unfold allC7 at h
    split at h
    · rename_i t e
      injection e with e
      subst e
      rw [one_bool.1 hh, BT.ev_spec (E := E) no_asm (beq_iff_eq.1 h)]
    · cases h
    · rename_i e
      cases e
  | ite b x y ihx ihy =>
    intro h hh
    simp only [allC7, Bool.and_eq_true] at h
    simp only [Tree.pick] at hh
    split at hh
    · exact ihx h.1 hh
    · exact ihy h.2 hh
def okC7 : Option Tree → Bool
  | some T => allC7 T
  | none => false
theorem okC7_spec {o : Option Tree} (h : okC7 o = true) : ∃ T, o = some T ∧ allC7 T = true := by
  cases o with
  | none => cases h
  | some T => exact ⟨T, rfl, h⟩
theorem aw7_walk : okC7 (funE cAw7 Tryz.f32 [] []) = true := by kernel_rfl
theorem awake7_calls (w : World) : Calls Tryz.prog 32 #[] w (IsT w) := by
  obtain ⟨T, hT, hall⟩ := okC7_spec aw7_walk
  refine (fun_sound (E := qE []) mixed (cAw7_ok (qE_ok _)) no_asm Tryz.func32 (by decide +kernel) hT (by decide +kernel) rfl w [] rfl (fun i x hx => by simp at hx)).mono ?_
  rintro e w' ⟨β, u, rfl, hh, ex⟩
  rw [allC7_out hall hh]
  exact ⟨rfl, ex⟩
def kAw7 : Con
  | [], _ => some (.val false [.b (.lit true)])
  | _, _ => none
theorem kAw7_ok {E : Env} : ConOK Tryz.prog E 32 kAw7 := by
  refine ⟨?_, ?_, ⟨_, Tryz.func32, by decide +kernel, by kernel_rfl⟩⟩
  · intro args G r h hG β w vs hv hlen
    unfold kAw7 at h
    split at h
    · injection h with h
      subst h
      obtain rfl : vs = [] := by simpa using hlen
      refine (awake7_calls w).mono ?_
      rintro e w' ⟨rfl, ex⟩
      exact ⟨_, rfl, one_bool.2 rfl, ex⟩
    · cases h
  · intro args G r h x off
    unfold kAw7 at h
    split at h
    · injection h with h; subst h; intro e; cases e
    · cases h
def vSm (l : List RI) : Bool := smN 3 (rawW l 0) (rawW l 1) && smN 3 (rawW l 2) (rawW l 3)
noncomputable def tabVs (x0 x1 : Bool) : List (Nat × Con) := [(62, kKq (cR2n 0) (rBl x0) <| kKq (cR2n 2) (rBl x1) kNoQ)]
theorem vs_walk : (bools.all fun x0 => bools.all fun x1 => isBlo (x0 && x1) (funE (cfgOf (tabVs x0 x1)) Tryz.f40 [] [.val true (rawL 0 4)])) = true := by kernel_rfl
theorem smallVec_calls (w : World) (v : Value) (l : List RI) (h : RawN w v 2 l) : Calls Tryz.prog 40 #[v] w (RetBl (vSm l) w) := by
  have hW := List.all_eq_true.1 (List.all_eq_true.1 vs_walk (smN 3 (rawW l 0) (rawW l 1)) (bools_mem _)) (smN 3 (rawW l 2) (rawW l 3)) (bools_mem _)
  have kn : ∀ i, KnownR (bE okQ l) 62 (cR2n i) (rBl (smN 3 (rawW l i) (rawW l (i + 1)))) := fun i => small2_known rfl
  have hT : TabOK Tryz.prog (bE okQ l) (tabVs (smN 3 (rawW l 0) (rawW l 1)) (smN 3 (rawW l 2) (rawW l 3))) := .cons (kKr_ok (kn 0) <| kKr_ok (kn 2) (kNoQ_ok ⟨_, Tryz.func62, by decide +kernel, by kernel_rfl⟩)) .nil
  unfold isBlo at hW
  split at hW
  · rename_i T hTe
    refine (fun_sound mixed (cfg_ok hT) no_asm Tryz.func40 (by decide +kernel) hTe (by decide +kernel) rfl w [v] rfl ?_).mono ?_
    · intro i x hx
      match i, hx with
      | 0, hx => injection hx with hx; subst hx; exact ⟨fun _ => 0, v, rfl, rawArg h _⟩
    · rintro e w' ⟨β, y, rfl, hh, ex⟩
      rw [isBl_pick hW] at hh
      rw [show y = _ from one_bool.1 hh]
      exact ⟨rfl, ex⟩
  · cases hW
theorem raw_at {E : Env} {w : World} {v : Value} {n i : Nat} {m : List RI} (h : RawN w v n m) (e : ∀ k, k < 2 * n → E.r (i + k) = rawW m k) : ∀ β, (AV.val true (rawL i (2 * n))).holds E β w v := fun _ => by
  obtain ⟨vs, rfl, hc⟩ := h
  exact ⟨vs, rfl, raws_raws2 (E := bE okQ m) (2 * n) 0 i vs hc (fun k hk => by rw [Nat.zero_add]; exact e k hk)⟩
theorem raw_from {E : Env} {w : World} {vs : List Value} {n i : Nat} {m : List RI} (h : chunks E w (rawL i (2 * n)) vs) (e : ∀ k, k < 2 * n → E.r (i + k) = rawW m k) : RawN w (.agg vs.toArray) n m :=
  ⟨vs, rfl, raws_raws2 (E := E) (2 * n) i 0 vs h (fun k hk => by rw [Nat.zero_add]; exact (e k hk).symm)⟩
theorem vecRaw_known {E : Env} {m : List RI} {i : Nat} (e : ∀ k, k < 4 → E.r (i + k) = rawW m k) : KnownR E 40 (cRn i 4) (rBl (vSm m)) := by
  refine ⟨fun args ha β w vs hv hl => ?_, fun x off e => by cases e⟩
  have := cRn_spec ha
  subst this
  obtain ⟨v, rfl, ⟨us, rfl, hc⟩⟩ := args1 hv hl
  refine (smallVec_calls w _ m (raw_from hc e)).mono ?_
  rintro e w' ⟨rfl, ex⟩
  exact ⟨_, rfl, fun β => one_bool.2 rfl, ex⟩
theorem vSm_qs {w : World} {vs : List Value} {x y : Rat} (h : RatsQ w vs [x, y]) (hl : LimQs 3 [x, y]) : vSm (rawsQs [x, y]) = true := by
  obtain ⟨u, r, rfl, h1, u2, r2, rfl, h2, _⟩ := h
  unfold vSm
  rw [Bool.and_eq_true]
  exact ⟨smN_rawQ h1 (hl x (by simp)), smN_rawQ h2 (hl y (by simp))⟩
theorem vecInt_known {E : Env} {ts : List IT2} {x y : Rat} (hr : Reps E ts [x, y]) (hl : LimQs 3 [x, y]) : KnownR E 40 (cts [ts]) (rBl true) := by
  refine knownT (ls := [[x, y]]) ⟨hr, trivial⟩ (fun x off e => by cases e) fun w vs hv => ?_
  obtain ⟨v, rfl, us, rfl, hu⟩ := argsQ1 hv
  refine (smallVec_calls w _ (rawsQs [x, y]) ⟨us, rfl, rats_raws [x, y] 0 us hu (fun k _ => by rw [Nat.zero_add]; rfl)⟩).mono ?_
  rintro e w' ⟨rfl, ex⟩
  exact ⟨_, rfl, fun β => one_bool.2 (by rw [vSm_qs hu hl]; rfl), ex⟩
theorem RawN.vec {w : World} {v : Value} {l : List RI} (h : RawN w v 2 l) (hs : vSm l = true) : ∃ x y : Rat, IsQs w v [x, y] ∧ LimQs 3 [x, y] := by
  unfold vSm at hs
  rw [Bool.and_eq_true] at hs
  have := h.qs (m := 3) (fun j hj => by
    match j, hj with
    | 0, _ => exact hs.1
    | 1, _ => exact hs.2)
  exact ⟨_, _, this⟩
theorem RawN.pt {w : World} {v : Value} {l : List RI} (h : RawN w v 5 l) (hs : pSm l = true) : ∃ p : PtQ, p.ok ∧ IsQs w v p.l ∧ LimQs 3 p.l := by
  unfold pSm at hs
  rw [Bool.and_eq_true] at hs
  have := h.qs (m := 3) (fun j hj => List.all_eq_true.1 hs.1 j (List.mem_range.2 hj))
  exact ⟨⟨rqW l 0, rqW l 1, rqW l 2, rqW l 3, rqW l 4⟩, hs.2, this⟩
end Go.Proofs.YtifeacfljfmnpaaGreat
end

section
set_option maxRecDepth 100000
namespace Go.Proofs.YtifeacfljfmnpaaGreat
open Go.RowKit
def cfgAg7 (C : Cfg) : Cfg := { C with ag := fun t => if t = 77 then some (true, 18) else C.ag t }
theorem cfgAg7_ok {E : Env} {C : Cfg} (h : CfgOK Tryz.prog E C) : CfgOK Tryz.prog E (cfgAg7 C) := by
  refine ⟨h.zero, ?_, h.fld, h.flds, h.bool, h.row, h.arr, h.calls, h.nptr, h.body, h.slc, h.strT, h.cnv, h.apd, h.eq2⟩
  intro t b n ht w
  simp only [cfgAg7] at ht
  split at ht
  · rename_i e
    subst e
    injection ht with ht
    injection ht with e1 e2
    subst e1 e2
    exact ⟨Tryz.isAgg77 w, Tryz.sizeOf77 w, fun h => by cases h⟩
  · exact h.ag t b n ht w
def arrP3 : List (TypeId × Nat × TypeId) := [(77, 3, 76)]
theorem arrP3_ok : ArrOK Tryz.prog arrP3 := .cons Tryz.underlying77 .nil
noncomputable def trL : List (Nat × Func) := [(55, Tryz.f55), (56, Tryz.f56)]
theorem trL_ok : InlOK Tryz.prog trL := .cons Tryz.func55 (by decide +kernel) (by kernel_rfl) <| .cons Tryz.func56 (by decide +kernel) (by kernel_rfl) .nil
noncomputable def cTr (C : Cfg) : Cfg := cfgI (cPt C) (cPt C) trL
theorem cTr_ok {E : Env} {C : Cfg} (h : CfgOK Tryz.prog E C) (hw : ∀ w, C.wok w) : CfgOK Tryz.prog E (cTr C) := cfgI_ok mixed (cPt_ok h hw) (cPt_ok h hw) hw trL_ok
def places3 (A : Nat → Int) : Value := .agg #[.int .i16 (A 0), .int .i16 (A 1), .int .i16 (A 2), .int .i16 (A 3), .int .u16 (A 4), .int .u8 (A 5), .int .i16 (A 6), .int .i16 (A 7), .int .i16 (A 8), .int .i16 (A 9), .int .u16 (A 10), .int .u8 (A 11), .int .i16 (A 12), .int .i16 (A 13), .int .i16 (A 14), .int .i16 (A 15), .int .u16 (A 16), .int .u8 (A 17)]
def pl3C : List Chunk := [.n .i16 (.var 34), .n .i16 (.var 36), .n .i16 (.var 38), .n .i16 (.var 40), .n .u16 (.var 42), .n .u8 (.var 44), .n .i16 (.var 46), .n .i16 (.var 48), .n .i16 (.var 50), .n .i16 (.var 52), .n .u16 (.var 54), .n .u8 (.var 56), .n .i16 (.var 58), .n .i16 (.var 60), .n .i16 (.var 62), .n .i16 (.var 64), .n .u16 (.var 66), .n .u8 (.var 68)]
theorem pl3_holds {E : Env} {w : World} {A : Nat → Int} (h : ∀ k, k < 18 → E.i (34 + 2 * k) = A k) : ∀ β, (AV.val true pl3C).holds E β w (places3 A) := fun _ => by
  unfold places3
  rw [← h 0 (by omega), ← h 1 (by omega), ← h 2 (by omega), ← h 3 (by omega), ← h 4 (by omega), ← h 5 (by omega), ← h 6 (by omega), ← h 7 (by omega), ← h 8 (by omega), ← h 9 (by omega), ← h 10 (by omega), ← h 11 (by omega), ← h 12 (by omega), ← h 13 (by omega), ← h 14 (by omega), ← h 15 (by omega), ← h 16 (by omega), ← h 17 (by omega)]
  exact ⟨[_, _, _, _, _, _, _, _, _, _, _, _, _, _, _, _, _, _], rfl, [_], _, rfl, rfl, [_], _, rfl, rfl, [_], _, rfl, rfl, [_], _, rfl, rfl, [_], _, rfl, rfl, [_], _, rfl, rfl, [_], _, rfl, rfl, [_], _, rfl, rfl, [_], _, rfl, rfl, [_], _, rfl, rfl, [_], _, rfl, rfl, [_], _, rfl, rfl, [_], _, rfl, rfl, [_], _, rfl, rfl, [_], _, rfl, rfl, [_], _, rfl, rfl, [_], _, rfl, rfl, [_], [], rfl, rfl, rfl⟩
def cPl (j : Nat) : List AV → Bool
  | [.val true [.n .i16 (.var a), .n .i16 (.var b), .n .i16 (.var c), .n .i16 (.var d), .n .u16 (.var e), .n .u8 (.var f)]] => a == j && (b == j + 2 && (c == j + 4 && (d == j + 6 && (e == j + 8 && f == j + 10))))
  | _ => false
theorem of7_known {E : Env} {i j : Nat} {A B C D N M : Int} {p : PtQ} (hp : RepP E i p) (l : LimQs 4 p.l) (h1 : E.i j = A) (h2 : E.i (j + 2) = B) (h3 : E.i (j + 4) = C) (h4 : E.i (j + 6) = D) (h5 : E.i (j + 8) = N) (h6 : E.i (j + 10) = M)
    (hm : ∀ w : World, Calls Tryz.prog 54 #[placeV A B C D N M] w (Ret (fun x w' => IsQs w' x p.l) w)) : KnownR E 54 (cPl j) (.val true (intC 4 i 5)) := by
  refine ⟨fun args ha β w vs hv hl => ?_, fun x off e => by cases e⟩
  unfold cPl at ha
  split at ha
  · simp only [Bool.and_eq_true, beq_iff_eq] at ha
    obtain ⟨rfl, rfl, rfl, rfl, rfl, rfl⟩ := ha
    obtain ⟨v, rfl, ⟨us, rfl, x1, r1, rfl, e1, x2, r2, rfl, e2, x3, r3, rfl, e3, x4, r4, rfl, e4, x5, r5, rfl, e5, x6, r6, rfl, e6, hn⟩⟩ := args1 hv hl
    simp only [chunks] at hn
    simp only [Chunk.holds, IT.den] at e1 e2 e3 e4 e5 e6
    subst hn e1 e2 e3 e4 e5 e6
    rw [h1, h2, h3, h4, h5, h6]
    refine (hm w).mono ?_
    rintro e w' ⟨x, rfl, hx, ex⟩
    exact ⟨x, rfl, pt_chunks hp hx l, ex⟩
  · cases ha
def tsMv (i : Nat) : List IT2 := [qop 0 (qI i) (qI 30), qI (i + 2), qop 0 (qI (i + 4)) (qI 32), qI (i + 6), qI (i + 8)]
noncomputable def tabPo (s t u : Int) : List (Nat × Con) :=
  (32, kAw7) :: (40, kKq (cts [[qI 30, qI 32]]) (rBl true) kNoQ) ::
  (54, kKq (cPl 34) (.val true (intC 4 0 5)) (kKq (cPl 46) (.val true (intC 4 10 5)) (kKq (cPl 58) (.val true (intC 4 20 5)) kNoQ))) ::
  (51, kKq (cts [tsP 0, tsP 10]) (rNq s) (kKq (cts [tsP 10, tsP 20]) (rNq t) (kKq (cts [tsP 0, tsP 20]) (rNq u) (kKq (cts [tsMv 0, tsMv 10]) (rNq s) kNoQ)))) :: (tabInt ++ tabT)
noncomputable def cPo (s t u : Int) : Cfg := cTr (cfgAr (cfgAg7 (cfgOf (tabPo s t u))) arrP3)
theorem po_walk : (sgs.all fun s => sgs.all fun t => sgs.all fun u => !(okOd s t u) || okTr (funE (cPo s t u) Tryz.f10 [] [.val true pl3C, .val true (intC 3 30 2)])) = true := by kernel_rfl
noncomputable def tabPoB (x : Bool) : List (Nat × Con) := [(32, kAw7), (40, kKq (cRn 0 4) (rBl x) kNoQ)]
theorem po_bad : okTr (funE (cfgAr (cfgAg7 (cfgOf (tabPoB false))) arrP3) Tryz.f10 [] [.val true pl3C, .val true (rawL 0 4)]) = true := by kernel_rfl
structure Places (A : Nat → Int) : Prop where
  p0 : PlaceOK (A 0) (A 1) (A 2) (A 3) (A 4) (A 5)
  p1 : PlaceOK (A 6) (A 7) (A 8) (A 9) (A 10) (A 11)
  p2 : PlaceOK (A 12) (A 13) (A 14) (A 15) (A 16) (A 17)
def intsQ (A : Nat → Int) (n : Nat) : List Rat := (List.range n).map fun k => ((A k : Int) : Rat)
theorem mv_lims {p : PtQ} {x y : Rat} (l : LimQs 4 p.l) (lx : LimQ 3 x) (ly : LimQ 3 y) : LimQs 9 (p.mv x y).l := by
  obtain ⟨m1, m2, m3, m4, m5⟩ := l.parts
  have a1 := LimQ.addP (n := 8) m1.1 m1.2 lx.1 lx.2 (by omega) (by omega)
  have a2 := LimQ.addP (n := 8) m3.1 m3.2 ly.1 ly.2 (by omega) (by omega)
  exact LimQs.mk5 (p := p.mv x y) ⟨a1.1.mono (by omega), a1.2.mono (by omega)⟩ (m2.mono (by omega)) ⟨a2.1.mono (by omega), a2.2.mono (by omega)⟩ (m4.mono (by omega)) (m5.mono (by omega))
theorem qs2_chunks {E : Env} {i n : Nat} {w : World} {v : Value} {x y : Rat} (h1 : RepQ E (qI i) x) (h2 : RepQ E (qI (i + 2)) y) (hv : IsQs w v [x, y]) (l : LimQs n [x, y]) : ∀ β, (AV.val true (intC n i 2)).holds E β w v := fun _ => by
  obtain ⟨vs, rfl, hv⟩ := hv
  refine ⟨vs, rfl, (qs_chunks [x, y] i vs fun j q hj => ?_).2 ⟨hv, l⟩⟩
  match j, hj with
  | 0, hj => injection hj with hj; subst hj; exact h1
  | 1, hj => injection hj with hj; subst hj; exact h2
theorem pcmpT {E : Env} {t u : List IT2} {p q : PtQ} {z : Int} (h1 : Reps E t p.l) (h2 : Reps E u q.l) (hp : p.ok) (hq : q.ok) (l : LimQs 9 p.l) (l' : LimQs 9 q.l) (hz : cmP p q = z) : KnownR E 51 (cts [t, u]) (rNq z) := by
  refine knownT (ls := [p.l, q.l]) ⟨h1, h2, trivial⟩ (fun x off e => by cases e) fun w vs hv => ?_
  obtain ⟨v, u, rfl, k1, k2⟩ := argsQ2 hv
  refine (pcmp_calls true w v u p q hp hq k1 k2 l l').mono ?_
  rintro e w' ⟨rfl, ex⟩
  exact ⟨_, rfl, fun β => one_num.2 (by rw [hz]; rfl), ex⟩
theorem pointOrder_calls (w : World) (A : Nat → Int) (hA : Places A) (u : Value) (m : List RI) (hu : RawN w u 2 m) : Calls Tryz.prog 10 #[places3 A, u] w (IsT w) := by
  cases hs : vSm m with
  | true =>
    obtain ⟨x, y, hv, hl⟩ := hu.vec hs
    obtain ⟨p, hp, lp, mp⟩ := of7_ex _ _ _ _ _ _ hA.p0
    obtain ⟨q, hq, lq, mq⟩ := of7_ex _ _ _ _ _ _ hA.p1
    obtain ⟨s, hs, ls, ms⟩ := of7_ex _ _ _ _ _ _ hA.p2
    obtain ⟨E, hE⟩ : ∃ E, E = qE (p.l ++ (q.l ++ (s.l ++ ([x, y] ++ intsQ A 18)))) := ⟨_, rfl⟩
    have hQ : QEnv E := by rw [hE]; exact qE_ok _
    have rp : RepP E 0 p := by rw [hE]; exact qE_point p _
    have rq : RepP E 10 q := by rw [hE]; exact qE_point2 p q _
    have rs : RepP E 20 s := by rw [hE]; exact ⟨⟨rfl, rfl⟩, ⟨rfl, rfl⟩, ⟨rfl, rfl⟩, ⟨rfl, rfl⟩, ⟨rfl, rfl⟩⟩
    have rx : RepQ E (qI 30) x := by rw [hE]; exact ⟨rfl, rfl⟩
    have ry : RepQ E (qI 32) y := by rw [hE]; exact ⟨rfl, rfl⟩
    have hi : ∀ k, k < 18 → E.i (34 + 2 * k) = A k := by
      intro k hk
      rw [hE, show 34 + 2 * k = 2 * (17 + k) by omega]
      refine qE_int ?_
      show ((p.l ++ (q.l ++ (s.l ++ ([x, y] ++ intsQ A 18)))).getD (17 + k) 0) = _
      rw [List.getD_eq_getElem?_getD]
      have e : (p.l ++ (q.l ++ (s.l ++ ([x, y] ++ intsQ A 18))))[17 + k]? = (intsQ A 18)[k]? := by
        show (p.ax :: p.bx :: p.ay :: p.by' :: p.c :: q.ax :: q.bx :: q.ay :: q.by' :: q.c :: s.ax :: s.bx :: s.ay :: s.by' :: s.c :: x :: y :: intsQ A 18)[17 + k]? = _
        rw [show 17 + k = k + 1 + 1 + 1 + 1 + 1 + 1 + 1 + 1 + 1 + 1 + 1 + 1 + 1 + 1 + 1 + 1 + 1 by omega]
        simp only [List.getElem?_cons_succ]
      rw [e]
      unfold intsQ
      rw [List.getElem?_map, List.getElem?_range hk]
      rfl
    have lx : LimQ 3 x := hl x (by simp)
    have ly : LimQ 3 y := hl y (by simp)
    have mvR : ∀ {i : Nat} {p : PtQ}, RepP E i p → Reps E (tsMv i) (p.mv x y).l := fun h => ⟨rep_add h.r1 rx, h.r2, rep_add h.r3 ry, h.r4, h.r5, trivial⟩
    have l9 : ∀ {p : PtQ}, LimQs 4 p.l → LimQs 9 p.l := fun h => h.up (by omega)
    have hT : TabOK Tryz.prog E (tabPo (cmP p q) (cmP q s) (cmP p s)) := by
      refine .cons kAw7_ok <| .cons (kKr_ok (vecInt_known ⟨rx, ry, trivial⟩ hl) (kNoQ_ok ⟨_, Tryz.func40, by decide +kernel, by kernel_rfl⟩)) <|
        .cons (kKr_ok (of7_known rp lp (hi 0 (by omega)) (hi 1 (by omega)) (hi 2 (by omega)) (hi 3 (by omega)) (hi 4 (by omega)) (hi 5 (by omega)) mp) <| kKr_ok (of7_known rq lq (hi 6 (by omega)) (hi 7 (by omega)) (hi 8 (by omega)) (hi 9 (by omega)) (hi 10 (by omega)) (hi 11 (by omega)) mq) <| kKr_ok (of7_known rs ls (hi 12 (by omega)) (hi 13 (by omega)) (hi 14 (by omega)) (hi 15 (by omega)) (hi 16 (by omega)) (hi 17 (by omega)) ms) (kNoQ_ok ⟨_, Tryz.func54, by decide +kernel, by kernel_rfl⟩)) <|
        .cons (kKr_ok (pcmpT rp.reps rq.reps hp hq (l9 lp) (l9 lq) rfl) <| kKr_ok (pcmpT rq.reps rs.reps hq hs (l9 lq) (l9 ls) rfl) <| kKr_ok (pcmpT rp.reps rs.reps hp hs (l9 lp) (l9 ls) rfl) <| kKr_ok (pcmpT (mvR rp) (mvR rq) (hp.mv x y) (hq.mv x y) (mv_lims lp lx ly) (mv_lims lq lx ly) (cmP_mv hp hq x y)) (kNoQ_ok ⟨_, Tryz.func51, by decide +kernel, by kernel_rfl⟩)) (TabOK.app tabInt_ok (tabT_ok hQ))
    have hW := List.all_eq_true.1 (List.all_eq_true.1 (List.all_eq_true.1 po_walk _ (cmP_range p q)) _ (cmP_range q s)) _ (cmP_range p s)
    rw [cmP_trans hp hq hs, Bool.not_true, Bool.false_or] at hW
    exact lawQ_calls (cTr_ok (cfgAr_ok (cfgAg7_ok (cfg_ok hT)) arrP3_ok) (fun _ => trivial)) (fun _ => trivial) no_asm Tryz.func10 (by decide +kernel) hW (by decide +kernel) rfl w [places3 A, u] rfl (two_hold (pl3_holds hi) (qs2_chunks rx ry hv hl))
  | false =>
    obtain ⟨E, hE⟩ : ∃ E : Env, E = ⟨fun i => A ((i - 34) / 2), fun _ => false, fun i => rawW m i, fun _ => []⟩ := ⟨_, rfl⟩
    have hi : ∀ k, k < 18 → E.i (34 + 2 * k) = A k := by
      intro k _
      rw [hE]
      show A ((34 + 2 * k - 34) / 2) = A k
      rw [show (34 + 2 * k - 34) / 2 = k by omega]
    have hr : ∀ k, k < 4 → E.r (0 + k) = rawW m k := fun k _ => by rw [hE, Nat.zero_add]
    have hT : TabOK Tryz.prog E (tabPoB false) := by
      refine .cons kAw7_ok <| .cons (kKr_ok ?_ (kNoQ_ok ⟨_, Tryz.func40, by decide +kernel, by kernel_rfl⟩)) .nil
      have := vecRaw_known (E := E) (m := m) (i := 0) hr
      rwa [hs] at this
    exact lawQ_calls (cfgAr_ok (cfgAg7_ok (cfg_ok hT)) arrP3_ok) (fun _ => trivial) no_asm Tryz.func10 (by decide +kernel) po_bad (by decide +kernel) rfl w [places3 A, u] rfl (two_hold (pl3_holds hi) (raw_at hu hr))
end Go.Proofs.YtifeacfljfmnpaaGreat
end

section
set_option maxRecDepth 100000
namespace Go.Proofs.YtifeacfljfmnpaaGreat
open Go.ChangeShapes Go.WideShapes Go.ChangeAt Go.RowKit Go.Joins
theorem arrw8 {cs : Array Value} (h : cs.size = 8) : ∃ a0 a1 a2 a3 b0 b1 b2 b3, cs = #[a0, a1, a2, a3, b0, b1, b2, b3] := by
  obtain ⟨l⟩ := cs
  have h' : l.length = 8 := h
  match l, h' with
  | [a0, a1, a2, a3, b0, b1, b2, b3], _ => exact ⟨a0, a1, a2, a3, b0, b1, b2, b3, rfl⟩
theorem arrw12 {cs : Array Value} (h : cs.size = 12) : ∃ a0 a1 a2 a3 b0 b1 b2 b3 c0 c1 c2 c3, cs = #[a0, a1, a2, a3, b0, b1, b2, b3, c0, c1, c2, c3] := by
  obtain ⟨l⟩ := cs
  have h' : l.length = 12 := h
  match l, h' with
  | [a0, a1, a2, a3, b0, b1, b2, b3, c0, c1, c2, c3], _ => exact ⟨a0, a1, a2, a3, b0, b1, b2, b3, c0, c1, c2, c3, rfl⟩
theorem arrw20 {cs : Array Value} (h : cs.size = 20) : ∃ a0 a1 a2 a3 b0 b1 b2 b3 c0 c1 c2 c3 d0 d1 d2 d3 e0 e1 e2 e3, cs = #[a0, a1, a2, a3, b0, b1, b2, b3, c0, c1, c2, c3, d0, d1, d2, d3, e0, e1, e2, e3] := by
  obtain ⟨l⟩ := cs
  have h' : l.length = 20 := h
  match l, h' with
  | [a0, a1, a2, a3, b0, b1, b2, b3, c0, c1, c2, c3, d0, d1, d2, d3, e0, e1, e2, e3], _ => exact ⟨a0, a1, a2, a3, b0, b1, b2, b3, c0, c1, c2, c3, d0, d1, d2, d3, e0, e1, e2, e3, rfl⟩
theorem open_pt {H : Type} {enc : TypeId × Value → H} {W : World} {b0 base : Nat} {spare : Nat → Bool} {held : Bool} {r : Reach} {v : Value} {d : DataW H} {p : List MemPlace}
    (hv : Value.okWide Tryz.prog W r b0 53 v) (h : DataW.Trod enc Tryz.prog W base spare held 53 v d p) : ∃ l, RawN W v 5 l := by
  obtain ⟨cs, rfl, hsz⟩ := okWide_struct Tryz.underlying53 hv
  have cn : Tryz.prog.cellsOf 53 = 20 := by kernel_rfl
  have k4 : Tryz.prog.cellsOf 26 = 4 := by kernel_rfl
  obtain ⟨a0, a1, a2, a3, b0, b1, b2, b3, c0, c1, c2, c3, d0, d1, d2, d3, e0, e1, e2, e3, rfl⟩ := arrw20 (hsz.trans cn)
  obtain ⟨fuel, hf⟩ := h
  obtain ⟨xs, n, _, _, _, hlen, hfl⟩ := DataW.trod_struct Tryz.underlying53 hf
  match xs, hlen with
  | [y0, y1, y2, y3, y4], _ =>
    have h0 := hfl 0 _ rfl
    have h1 := hfl 1 _ rfl
    have h2 := hfl 2 _ rfl
    have h3 := hfl 3 _ rfl
    have h4 := hfl 4 _ rfl
    obtain ⟨p0, q0, w0⟩ := open_rat4 (c0 := a0) (c1 := a1) (c2 := a2) (c3 := a3) (y := y0) (by simpa [Value.cells, k4] using h0)
    obtain ⟨p1, q1, w1⟩ := open_rat4 (c0 := b0) (c1 := b1) (c2 := b2) (c3 := b3) (y := y1) (by simpa [Value.cells, k4] using h1)
    obtain ⟨p2, q2, w2⟩ := open_rat4 (c0 := c0) (c1 := c1) (c2 := c2) (c3 := c3) (y := y2) (by simpa [Value.cells, k4] using h2)
    obtain ⟨p3, q3, w3⟩ := open_rat4 (c0 := d0) (c1 := d1) (c2 := d2) (c3 := d3) (y := y3) (by simpa [Value.cells, k4] using h3)
    obtain ⟨p4, q4, w4⟩ := open_rat4 (c0 := e0) (c1 := e1) (c2 := e2) (c3 := e3) (y := y4) (by simpa [Value.cells, k4] using h4)
    exact ⟨_, rawN_of (vs := [a0, a1, a2, a3, b0, b1, b2, b3, c0, c1, c2, c3, d0, d1, d2, d3, e0, e1, e2, e3]) (ps := [(p0, q0), (p1, q1), (p2, q2), (p3, q3), (p4, q4)]) ⟨[a0, a1, a2, a3], _, rfl, w0, [b0, b1, b2, b3], _, rfl, w1, [c0, c1, c2, c3], _, rfl, w2, [d0, d1, d2, d3], _, rfl, w3, [e0, e1, e2, e3], _, rfl, w4, rfl⟩⟩
theorem open_vec {H : Type} {enc : TypeId × Value → H} {W : World} {b0 base : Nat} {spare : Nat → Bool} {held : Bool} {r : Reach} {v : Value} {d : DataW H} {p : List MemPlace}
    (hv : Value.okWide Tryz.prog W r b0 59 v) (h : DataW.Trod enc Tryz.prog W base spare held 59 v d p) : ∃ l, RawN W v 2 l := by
  obtain ⟨cs, rfl, hsz⟩ := okWide_struct Tryz.underlying59 hv
  have cn : Tryz.prog.cellsOf 59 = 8 := by kernel_rfl
  have k4 : Tryz.prog.cellsOf 26 = 4 := by kernel_rfl
  obtain ⟨a0, a1, a2, a3, b0, b1, b2, b3, rfl⟩ := arrw8 (hsz.trans cn)
  obtain ⟨fuel, hf⟩ := h
  obtain ⟨xs, n, _, _, _, hlen, hfl⟩ := DataW.trod_struct Tryz.underlying59 hf
  match xs, hlen with
  | [y0, y1], _ =>
    have h0 := hfl 0 _ rfl
    have h1 := hfl 1 _ rfl
    obtain ⟨p0, q0, w0⟩ := open_rat4 (c0 := a0) (c1 := a1) (c2 := a2) (c3 := a3) (y := y0) (by simpa [Value.cells, k4] using h0)
    obtain ⟨p1, q1, w1⟩ := open_rat4 (c0 := b0) (c1 := b1) (c2 := b2) (c3 := b3) (y := y1) (by simpa [Value.cells, k4] using h1)
    exact ⟨_, rawN_of (vs := [a0, a1, a2, a3, b0, b1, b2, b3]) (ps := [(p0, q0), (p1, q1)]) ⟨[a0, a1, a2, a3], _, rfl, w0, [b0, b1, b2, b3], _, rfl, w1, rfl⟩⟩
theorem open_rootN {H : Type} {enc : TypeId × Value → H} {W : World} {b0 base : Nat} {spare : Nat → Bool} {held : Bool} {r : Reach} {v : Value} {d : DataW H} {p : List MemPlace}
    (hv : Value.okWide Tryz.prog W r b0 28 v) (h : DataW.Trod enc Tryz.prog W base spare held 28 v d p) : ∃ l, RawN W v 3 l := by
  obtain ⟨cs, rfl, hsz⟩ := okWide_struct Tryz.underlying28 hv
  have cn : Tryz.prog.cellsOf 28 = 12 := by kernel_rfl
  have k4 : Tryz.prog.cellsOf 26 = 4 := by kernel_rfl
  obtain ⟨a0, a1, a2, a3, b0, b1, b2, b3, c0, c1, c2, c3, rfl⟩ := arrw12 (hsz.trans cn)
  obtain ⟨fuel, hf⟩ := h
  obtain ⟨xs, n, _, _, _, hlen, hfl⟩ := DataW.trod_struct Tryz.underlying28 hf
  match xs, hlen with
  | [y0, y1, y2], _ =>
    have h0 := hfl 0 _ rfl
    have h1 := hfl 1 _ rfl
    have h2 := hfl 2 _ rfl
    obtain ⟨p0, q0, w0⟩ := open_rat4 (c0 := a0) (c1 := a1) (c2 := a2) (c3 := a3) (y := y0) (by simpa [Value.cells, k4] using h0)
    obtain ⟨p1, q1, w1⟩ := open_rat4 (c0 := b0) (c1 := b1) (c2 := b2) (c3 := b3) (y := y1) (by simpa [Value.cells, k4] using h1)
    obtain ⟨p2, q2, w2⟩ := open_rat4 (c0 := c0) (c1 := c1) (c2 := c2) (c3 := c3) (y := y2) (by simpa [Value.cells, k4] using h2)
    exact ⟨_, rawN_of (vs := [a0, a1, a2, a3, b0, b1, b2, b3, c0, c1, c2, c3]) (ps := [(p0, q0), (p1, q1), (p2, q2)]) ⟨[a0, a1, a2, a3], _, rfl, w0, [b0, b1, b2, b3], _, rfl, w1, [c0, c1, c2, c3], _, rfl, w2, rfl⟩⟩
theorem i16_wf7 {n : Int} (h : (Lit.int .i16 n).wf = true) : -32768 ≤ n ∧ n ≤ 32767 := by
  simpa [Lit.wf, IntKind.min, IntKind.max, IntKind.signed, IntKind.bits] using h
theorem u16_wf7 {n : Int} (h : (Lit.int .u16 n).wf = true) : 0 ≤ n ∧ n ≤ 65535 := by
  simpa [Lit.wf, IntKind.min, IntKind.max, IntKind.signed, IntKind.bits] using h
theorem u8_wf7 {n : Int} (h : (Lit.int .u8 n).wf = true) : 0 ≤ n ∧ n ≤ 255 := by
  simpa [Lit.wf, IntKind.min, IntKind.max, IntKind.signed, IntKind.bits] using h
theorem i64_wf7 {n : Int} (h : (Lit.int .i64 n).wf = true) : -9223372036854775808 ≤ n ∧ n ≤ 9223372036854775807 := by
  simpa [Lit.wf, IntKind.min, IntKind.max, IntKind.signed, IntKind.bits] using h
theorem open_place6 {H : Type} {enc : TypeId × Value → H} {W : World} {base : Nat} {spare : Nat → Bool} {held : Bool} {c0 c1 c2 c3 c4 c5 : Value} {y : DataW H × List MemPlace} {n : Nat}
    (hf : DataW.trod enc Tryz.prog W base spare held n 76 [c0, c1, c2, c3, c4, c5] = some y) : ∃ a b c d e f : Int, (c0 = .int .i16 a ∧ c1 = .int .i16 b ∧ c2 = .int .i16 c ∧ c3 = .int .i16 d ∧ c4 = .int .u16 e ∧ c5 = .int .u8 f) ∧ PlaceOK a b c d e f := by
  have k1 : Tryz.prog.cellsOf 73 = 1 := by kernel_rfl
  have k2 : Tryz.prog.cellsOf 74 = 1 := by kernel_rfl
  have k3 : Tryz.prog.cellsOf 5 = 1 := by kernel_rfl
  obtain ⟨xs, n, _, _, _, hlen, hfl⟩ := DataW.trod_struct Tryz.underlying76 hf
  match xs, hlen with
  | [y0, y1, y2, y3, y4, y5], _ =>
    have h0 := hfl 0 _ rfl
    have h1 := hfl 1 _ rfl
    have h2 := hfl 2 _ rfl
    have h3 := hfl 3 _ rfl
    have h4 := hfl 4 _ rfl
    have h5 := hfl 5 _ rfl
    obtain ⟨a, e0, _, w0⟩ := DataW.trod_int (cs := [c0]) Tryz.underlying73 (by simpa [Value.cells, k1] using h0)
    obtain ⟨b, e1, _, w1⟩ := DataW.trod_int (cs := [c1]) Tryz.underlying73 (by simpa [Value.cells, k1] using h1)
    obtain ⟨c, e2, _, w2⟩ := DataW.trod_int (cs := [c2]) Tryz.underlying73 (by simpa [Value.cells, k1] using h2)
    obtain ⟨d', e3, _, w3⟩ := DataW.trod_int (cs := [c3]) Tryz.underlying73 (by simpa [Value.cells, k1] using h3)
    obtain ⟨e, e4, _, w4⟩ := DataW.trod_int (cs := [c4]) Tryz.underlying74 (by simpa [Value.cells, k2] using h4)
    obtain ⟨f, e5, _, w5⟩ := DataW.trod_int (cs := [c5]) Tryz.underlying5 (by simpa [Value.cells, k3] using h5)
    injection e0 with e0
    injection e1 with e1
    injection e2 with e2
    injection e3 with e3
    injection e4 with e4
    injection e5 with e5
    exact ⟨a, b, c, d', e, f, ⟨e0, e1, e2, e3, e4, e5⟩, i16_wf7 w0, i16_wf7 w1, i16_wf7 w2, i16_wf7 w3, u16_wf7 w4, u8_wf7 w5⟩
theorem arrw18 {cs : Array Value} (h : cs.size = 18) : ∃ a0 a1 a2 a3 a4 a5 b0 b1 b2 b3 b4 b5 c0 c1 c2 c3 c4 c5, cs = #[a0, a1, a2, a3, a4, a5, b0, b1, b2, b3, b4, b5, c0, c1, c2, c3, c4, c5] := by
  obtain ⟨l⟩ := cs
  have h' : l.length = 18 := h
  match l, h' with
  | [a0, a1, a2, a3, a4, a5, b0, b1, b2, b3, b4, b5, c0, c1, c2, c3, c4, c5], _ => exact ⟨a0, a1, a2, a3, a4, a5, b0, b1, b2, b3, b4, b5, c0, c1, c2, c3, c4, c5, rfl⟩
theorem open_places {H : Type} {enc : TypeId × Value → H} {W : World} {b0 base : Nat} {spare : Nat → Bool} {held : Bool} {r : Reach} {v : Value} {d : DataW H} {p : List MemPlace}
    (hv : Value.okWide Tryz.prog W r b0 77 v) (h : DataW.Trod enc Tryz.prog W base spare held 77 v d p) : ∃ A : Nat → Int, v = places3 A ∧ Places A := by
  obtain ⟨cs, rfl, hsz⟩ := okWide_arr Tryz.underlying77 hv
  have c18 : Tryz.prog.cellsOf 77 = 18 := by kernel_rfl
  have k6 : Tryz.prog.cellsOf 76 = 6 := by kernel_rfl
  obtain ⟨a0, a1, a2, a3, a4, a5, b0, b1, b2, b3, b4, b5, c0, c1, c2, c3, c4, c5, rfl⟩ := arrw18 (hsz.trans c18)
  obtain ⟨fuel, hf⟩ := h
  obtain ⟨xs, m, _, _, _, hl, hel⟩ := DataW.trod_array Tryz.underlying77 hf
  match xs, hl with
  | [y0, y1, y2], _ =>
    have h0 := hel 0 (by omega)
    have h1 := hel 1 (by omega)
    have h2 := hel 2 (by omega)
    obtain ⟨x0, x1, x2, x3, x4, x5, ⟨rfl, rfl, rfl, rfl, rfl, rfl⟩, s0⟩ := open_place6 (c0 := a0) (c1 := a1) (c2 := a2) (c3 := a3) (c4 := a4) (c5 := a5) (y := y0) (by simpa [Value.cells, k6] using h0)
    obtain ⟨z0, z1, z2, z3, z4, z5, ⟨rfl, rfl, rfl, rfl, rfl, rfl⟩, s1⟩ := open_place6 (c0 := b0) (c1 := b1) (c2 := b2) (c3 := b3) (c4 := b4) (c5 := b5) (y := y1) (by simpa [Value.cells, k6] using h1)
    obtain ⟨u0, u1, u2, u3, u4, u5, ⟨rfl, rfl, rfl, rfl, rfl, rfl⟩, s2⟩ := open_place6 (c0 := c0) (c1 := c1) (c2 := c2) (c3 := c3) (c4 := c4) (c5 := c5) (y := y2) (by simpa [Value.cells, k6] using h2)
    exact ⟨fun k => [x0, x1, x2, x3, x4, x5, z0, z1, z2, z3, z4, z5, u0, u1, u2, u3, u4, u5].getD k 0, rfl, s0, s1, s2⟩
theorem arrw2 {cs : Array Value} (h : cs.size = 2) : ∃ a b, cs = #[a, b] := by
  obtain ⟨l⟩ := cs
  have h' : l.length = 2 := h
  match l, h' with
  | [a, b], _ => exact ⟨a, b, rfl⟩
theorem open_grid2 {H : Type} {enc : TypeId × Value → H} {W : World} {b0 base : Nat} {spare : Nat → Bool} {held : Bool} {r : Reach} {v : Value} {d : DataW H} {p : List MemPlace}
    (hv : Value.okWide Tryz.prog W r b0 61 v) (h : DataW.Trod enc Tryz.prog W base spare held 61 v d p) : ∃ x y : Int, v = .agg #[.int .i64 x, .int .i64 y] ∧ I64 x ∧ I64 y := by
  obtain ⟨cs, rfl, hsz⟩ := okWide_struct Tryz.underlying61 hv
  have c2 : Tryz.prog.cellsOf 61 = 2 := by kernel_rfl
  have k1 : Tryz.prog.cellsOf 2 = 1 := by kernel_rfl
  obtain ⟨c0, c1, rfl⟩ := arrw2 (hsz.trans c2)
  obtain ⟨fuel, hf⟩ := h
  obtain ⟨xs, n, _, _, _, hlen, hfl⟩ := DataW.trod_struct Tryz.underlying61 hf
  match xs, hlen with
  | [y0, y1], _ =>
    have h0 := hfl 0 _ rfl
    have h1 := hfl 1 _ rfl
    obtain ⟨x, e0, _, w0⟩ := DataW.trod_int (cs := [c0]) Tryz.underlying2 (by simpa [Value.cells, k1] using h0)
    obtain ⟨y, e1, _, w1⟩ := DataW.trod_int (cs := [c1]) Tryz.underlying2 (by simpa [Value.cells, k1] using h1)
    injection e0 with e0
    injection e1 with e1
    subst e0 e1
    exact ⟨x, y, rfl, i64_wf7 w0, i64_wf7 w1⟩
end Go.Proofs.YtifeacfljfmnpaaGreat
end

section
set_option maxRecDepth 100000
namespace Go.Proofs.YtifeacfljfmnpaaGreat
open Go.RowKit
def oTn (n : Nat) (ts : List IT2) (cs : List Chunk) (off : Nat) : Option Bool := if t6 ts cs && off == big + n then some true else none
def oRn (n : Nat) (c : Bool) (cs : List Chunk) (off : Nat) : Option Bool := if isRaw 0 cs && (cs.length == 10 * n && off == big + n) then some c else none
theorem oRn_ok {E : Env} {n : Nat} (hn : n = 1 ∨ n = 2) {l : List RI} (hr : ∀ k, k < 10 * n → E.r k = rawW l k) {c : Bool} (hc : (pSm (l.take 10) && (n == 1 || pSm (l.drop 10))) = c) : RowSm E 41 (oRn n c) := by
  intro cs off d hd w b hv
  unfold oRn at hd
  split at hd
  · rename_i hb
    injection hd with hd
    subst hd
    simp only [Bool.and_eq_true, beq_iff_eq] at hb
    obtain ⟨h1, h2, rfl⟩ := hb
    have hcs := isRaw_spec h1
    rw [h2] at hcs
    rw [hcs] at hv
    obtain ⟨vs, hc', hcell⟩ := hv
    have key := smRow_calls hn (l := l) w b ⟨vs, raws_raws2 (E := E) (10 * n) 0 0 vs hc' (fun k hk => by
      rw [Nat.zero_add]
      exact (hr k hk).symm), hcell⟩
    rw [hc] at key
    exact key
  · cases hd
theorem oTn_ok {E : Env} {n : Nat} (hn : n = 1 ∨ n = 2) {ts : List IT2} {qs : List Rat} (hr : Reps E ts qs) (hl : qs.length = 5 * n) (hs : (pSm ((rawsQs qs).take 10) && (n == 1 || pSm ((rawsQs qs).drop 10))) = true) : RowSm E 41 (oTn n ts) := by
  intro cs off d hd w b hv
  unfold oTn at hd
  split at hd
  · rename_i hb
    injection hd with hd
    subst hd
    simp only [Bool.and_eq_true, beq_iff_eq] at hb
    obtain ⟨h1, rfl⟩ := hb
    obtain ⟨vs, hc', hcell⟩ := hv
    have hq := t6_holds hr h1 hc'
    have key := smRow_calls hn (l := rawsQs qs) w b ⟨vs, by
      have := rats_raws (E := bE okQ (rawsQs qs)) qs 0 vs hq (fun k _ => by rw [Nat.zero_add]; rfl)
      rwa [hl, show 2 * (5 * n) = 10 * n by omega] at this, hcell⟩
    rw [hs] at key
    exact key
  · cases hd
theorem pSm_pt {w : World} {v : Value} {p : PtQ} (hv : IsQs w v p.l) (hl : LimQs 3 p.l) (hp : p.ok) : pSm (rawsQs p.l) = true := by
  obtain ⟨vs, rfl, h⟩ := hv
  exact pSm_qs (l := []) h hl hp
def aP3 (i : Nat) : AV := .val true (intC 3 i 5)
noncomputable def tabPC (s : Int) : List (Nat × Con) :=
  (32, kAw7) :: (51, kKq (cts [tsP 0, tsP 10]) (rNq s) (kKq (cts [tsP 10, tsP 0]) (rNq (-s)) kNoQ)) ::
  (52, kKq (cts [tsP 0, tsP 10]) (rNq s) kNoQ) :: (53, kKq (cts [tsP 0, tsP 10]) (rBl (s == 0)) (kKq (cts [tsP 0, tsP 0]) (rBl true) kNoQ)) :: []
noncomputable def cPC (s : Int) : Cfg := cfgS 41 (oTn 2 (tsP 0 ++ tsP 10)) (cfgOf (tabPC s))
theorem pC_walk : (sgs.all fun s => okTr (funE (cPC s) Tryz.f9 [] [aP3 0, aP3 10])) = true := by kernel_rfl
theorem pC_bad : okTr (funE (cfgS 41 (oRn 2 false) (cfgOf [(32, kAw7)])) Tryz.f9 [] [.val true (rawL 0 10), .val true (rawL 10 10)]) = true := by kernel_rfl
def rwE7 (f : Nat → RI) : Env := ⟨fun _ => 0, fun _ => false, f, fun _ => []⟩
theorem take_row {m1 m2 : List RI} : ∀ k, k < 10 → rawW (((List.range 10).map (rawW m1)) ++ m2) k = rawW m1 k := by
  intro k hk
  unfold rawW
  rw [List.getD_eq_getElem?_getD, List.getElem?_append_left (by simpa using hk), List.getElem?_map, List.getElem?_range hk]
  rfl
theorem drop_row {m1 m2 : List RI} : ((List.range 10).map (rawW m1) ++ m2).drop 10 = m2 := by
  have : ((List.range 10).map (rawW m1)).length = 10 := by simp
  rw [List.drop_append, this, List.drop_of_length_le (by omega)]
  rfl
theorem take_row' {m1 m2 : List RI} : ((List.range 10).map (rawW m1) ++ m2).take 10 = (List.range 10).map (rawW m1) := by
  rw [List.take_append_of_le_length (by simp)]
  exact List.take_of_length_le (by simp)
theorem pSm_norm (m : List RI) : pSm ((List.range 10).map (rawW m)) = pSm m := rfl
theorem pointCompare_calls (w : World) (v u : Value) (m1 m2 : List RI) (h1 : RawN w v 5 m1) (h2 : RawN w u 5 m2) : Calls Tryz.prog 9 #[v, u] w (IsT w) := by
  cases hs : (pSm m1 && pSm m2) with
  | true =>
    rw [Bool.and_eq_true] at hs
    obtain ⟨p, hp, hv, lp⟩ := h1.pt hs.1
    obtain ⟨q, hq, hu, lq⟩ := h2.pt hs.2
    obtain ⟨E, hE⟩ : ∃ E, E = qE (p.l ++ (q.l ++ [])) := ⟨_, rfl⟩
    have rp : RepP E 0 p := by rw [hE]; exact qE_point p _
    have rq : RepP E 10 q := by rw [hE]; exact qE_point2 p q _
    have p9 := lp.up (show 3 ≤ 9 by omega)
    have q9 := lq.up (show 3 ≤ 9 by omega)
    have eqT : ∀ {t u : List IT2} {p q : PtQ} {z : Bool}, Reps E t p.l → Reps E u q.l → p.ok → q.ok → LimQs 9 p.l → LimQs 9 q.l → (cmP p q == 0) = z → KnownR E 53 (cts [t, u]) (rBl z) := by
      intro t u p q z g1 g2 hp hq l l' hz
      refine knownT (ls := [p.l, q.l]) ⟨g1, g2, trivial⟩ (fun x off e => by cases e) fun w vs hv => ?_
      obtain ⟨v, u, rfl, k1, k2⟩ := argsQ2 hv
      refine (pequal_calls w v u p q hp hq k1 k2 l l').mono ?_
      rintro e w' ⟨rfl, ex⟩
      exact ⟨_, rfl, fun β => one_bool.2 (by rw [hz]; rfl), ex⟩
    have hT : TabOK Tryz.prog E (tabPC (cmP p q)) := by
      refine .cons kAw7_ok <| .cons (kKr_ok (pcmpT rp.reps rq.reps hp hq p9 q9 rfl) <| kKr_ok (pcmpT rq.reps rp.reps hq hp q9 p9 (cmP_anti hp hq)) (kNoQ_ok ⟨_, Tryz.func51, by decide +kernel, by kernel_rfl⟩)) <|
        .cons (kKr_ok (knownT (ls := [p.l, q.l]) ⟨rp.reps, rq.reps, trivial⟩ (fun x off e => by cases e) fun w vs hv => ?_) (kNoQ_ok ⟨_, Tryz.func52, by decide +kernel, by kernel_rfl⟩)) <|
        .cons (kKr_ok (eqT rp.reps rq.reps hp hq p9 q9 rfl) <| kKr_ok (eqT rp.reps rp.reps hp hp p9 p9 (by rw [cmP_refl hp]; rfl)) (kNoQ_ok ⟨_, Tryz.func53, by decide +kernel, by kernel_rfl⟩)) .nil
      obtain ⟨v, u, rfl, k1, k2⟩ := argsQ2 hv
      refine (pcmp_calls false w v u p q hp hq k1 k2 p9 q9).mono ?_
      rintro e w' ⟨rfl, ex⟩
      exact ⟨_, rfl, fun β => one_num.2 rfl, ex⟩
    have hrow : RowSm E 41 (oTn 2 (tsP 0 ++ tsP 10)) := by
      refine oTn_ok (.inr rfl) (qs := p.l ++ q.l) ⟨rp.r1, rp.r2, rp.r3, rp.r4, rp.r5, rq.r1, rq.r2, rq.r3, rq.r4, rq.r5, trivial⟩ rfl ?_
      rw [Bool.and_eq_true]
      exact ⟨pSm_pt hv lp hp, by rw [Bool.or_eq_true]; exact .inr (pSm_pt hu lq hq)⟩
    exact lawQ_calls (cfgS_ok (cfg_ok hT) hrow small7_body) (fun _ => trivial) no_asm Tryz.func9 (by decide +kernel) (List.all_eq_true.1 pC_walk _ (cmP_range p q)) (by decide +kernel) rfl w [v, u] rfl (two_hold (pt_chunks rp hv lp) (pt_chunks rq hu lq))
  | false =>
    obtain ⟨L, hL⟩ : ∃ L, L = (List.range 10).map (rawW m1) ++ m2 := ⟨_, rfl⟩
    have hrow : RowSm (rwE7 (rawW L)) 41 (oRn 2 false) := oRn_ok (.inr rfl) (l := L) (fun k _ => rfl) (by
      rw [hL, take_row', drop_row, pSm_norm]
      exact hs)
    refine lawQ_calls (cfgS_ok (cfg_ok (.cons kAw7_ok .nil)) hrow small7_body) (fun _ => trivial) no_asm Tryz.func9 (by decide +kernel) pC_bad (by decide +kernel) rfl w [v, u] rfl (two_hold (raw_at h1 fun k hk => ?_) (raw_at h2 fun k hk => ?_))
    · show rawW L (0 + k) = _
      rw [hL, Nat.zero_add]; exact take_row k hk
    · show rawW L (10 + k) = _
      rw [hL]
      unfold rawW
      rw [List.getD_eq_getElem?_getD, List.getD_eq_getElem?_getD, List.getElem?_append_right (by simp), List.length_map, List.length_range, show 10 + k - 10 = k by omega]
noncomputable def tabPT : List (Nat × Con) := (32, kAw7) :: (40, kKq (cts [[qI 10, qI 12]]) (rBl true) kNoQ) :: (tabInt ++ tabT)
noncomputable def ptT : List (Nat × Func) := [(57, Tryz.f57), (36, Tryz.f36), (48, Tryz.f48)]
theorem ptT_ok : InlOK Tryz.prog ptT := .cons Tryz.func57 (by decide +kernel) (by kernel_rfl) <| .cons Tryz.func36 (by decide +kernel) (by kernel_rfl) <| .cons Tryz.func48 (by decide +kernel) (by kernel_rfl) .nil
noncomputable def cPT (tab : List (Nat × Con)) (sm : List Chunk → Nat → Option Bool) : Cfg := cfgS 41 sm (cfgI (cTr (cfgOf tab)) (cTr (cfgOf tab)) ptT)
theorem cPT_ok {E : Env} {tab : List (Nat × Con)} {sm : List Chunk → Nat → Option Bool} (h : TabOK Tryz.prog E tab) (hs : RowSm E 41 sm) : CfgOK Tryz.prog E (cPT tab sm) := cfgS_ok (cfgI_ok mixed (cTr_ok (cfg_ok h) (fun _ => trivial)) (cTr_ok (cfg_ok h) (fun _ => trivial)) (fun _ => trivial) ptT_ok) hs small7_body
def bkT (i j : Nat) : IT2 := qop 0 (qop 0 (qI i) (qI j)) (qng (qI j))
def gPT : Asm := [(.eq (bkT 0 10).1 (qI 0).1, true), (.eq (bkT 0 10).2 (qI 0).2, true), (.eq (bkT 4 12).1 (qI 4).1, true), (.eq (bkT 4 12).2 (qI 4).2, true)]
theorem pT_walk : okTr (funE (cPT tabPT (oTn 1 (tsP 0))) Tryz.f11 gPT [aP3 0, .val true (intC 3 10 2)]) = true := by kernel_rfl
noncomputable def tabPTb (y : Bool) : List (Nat × Con) := [(32, kAw7), (40, kKq (cRn 10 4) (rBl y) kNoQ)]
theorem pT_bad : (bools.all fun x => bools.all fun y => (x && y) || okTr (funE (cfgS 41 (oRn 1 x) (cfgOf (tabPTb y))) Tryz.f11 [] [.val true (rawL 0 10), .val true (rawL 10 4)])) = true := by kernel_rfl
theorem bk_den {E : Env} {i j : Nat} {a b : Rat} (h1 : RepQ E (qI i) a) (h2 : RepQ E (qI j) b) : (BT.eq (bkT i j).1 (qI i).1).den E = true ∧ (BT.eq (bkT i j).2 (qI i).2).den E = true := by
  have h : RepQ E (bkT i j) (a + b + -b) := rep_add (rep_add h1 h2) (rep_ng h2)
  rw [show a + b + -b = a by grind] at h
  constructor
  · show (_ == _) = true
    rw [h.1, h1.1, beq_self_eq_true]
  · show (_ == _) = true
    rw [h.2, h1.2, beq_self_eq_true]
theorem pointTranslate_calls (w : World) (v u : Value) (m1 m2 : List RI) (h1 : RawN w v 5 m1) (h2 : RawN w u 2 m2) : Calls Tryz.prog 11 #[v, u] w (IsT w) := by
  by_cases hs : (pSm m1 && vSm m2) = true
  · rw [Bool.and_eq_true] at hs
    obtain ⟨p, hp, hv, lp⟩ := h1.pt hs.1
    obtain ⟨x, y, hu, lu⟩ := h2.vec hs.2
    obtain ⟨E, hE⟩ : ∃ E, E = qE (p.l ++ [x, y]) := ⟨_, rfl⟩
    have hQ : QEnv E := by rw [hE]; exact qE_ok _
    have rp : RepP E 0 p := by rw [hE]; exact qE_point p _
    have rx : RepQ E (qI 10) x := by rw [hE]; exact ⟨rfl, rfl⟩
    have ry : RepQ E (qI 12) y := by rw [hE]; exact ⟨rfl, rfl⟩
    have hT : TabOK Tryz.prog E tabPT := .cons kAw7_ok <| .cons (kKr_ok (vecInt_known ⟨rx, ry, trivial⟩ lu) (kNoQ_ok ⟨_, Tryz.func40, by decide +kernel, by kernel_rfl⟩)) (TabOK.app tabInt_ok (tabT_ok hQ))
    have hrow : RowSm E 41 (oTn 1 (tsP 0)) := oTn_ok (.inl rfl) (qs := p.l) rp.reps rfl (by
      rw [Bool.and_eq_true]
      exact ⟨pSm_pt hv lp hp, rfl⟩)
    have g1 := bk_den rp.r1 rx
    have g2 := bk_den rp.r3 ry
    exact lawQ_calls (cPT_ok hT hrow) (fun _ => trivial) (asm_and g1.1 <| asm_and g1.2 <| asm_and g2.1 <| asm_and g2.2 asm_nil) Tryz.func11 (by decide +kernel) pT_walk (by decide +kernel) rfl w [v, u] rfl (two_hold (pt_chunks rp hv lp) (qs2_chunks rx ry hu lu))
  · obtain ⟨E, hE⟩ : ∃ E, E = rwE7 (fun k => if k < 10 then rawW m1 k else rawW m2 (k - 10)) := ⟨_, rfl⟩
    have hr1 : ∀ k, k < 10 → E.r (0 + k) = rawW m1 k := fun k hk => by
      rw [hE, Nat.zero_add]
      show (if k < 10 then _ else _) = _
      rw [if_pos hk]
    have hr2 : ∀ k, k < 4 → E.r (10 + k) = rawW m2 k := fun k hk => by
      rw [hE]
      show (if 10 + k < 10 then _ else _) = _
      rw [if_neg (by omega), show 10 + k - 10 = k by omega]
    have hrow : RowSm E 41 (oRn 1 (pSm m1)) := oRn_ok (.inl rfl) (l := (List.range 10).map (rawW m1) ++ []) (fun k hk => by
      rw [take_row k hk, ← hr1 k hk, Nat.zero_add]) (by
      rw [take_row', pSm_norm]
      simp)
    have hW := List.all_eq_true.1 (List.all_eq_true.1 pT_bad (pSm m1) (bools_mem _)) (vSm m2) (bools_mem _)
    rw [Bool.or_eq_true] at hW
    have hT : TabOK Tryz.prog E (tabPTb (vSm m2)) := .cons kAw7_ok <| .cons (kKr_ok (vecRaw_known hr2) (kNoQ_ok ⟨_, Tryz.func40, by decide +kernel, by kernel_rfl⟩)) .nil
    exact lawQ_calls (cfgS_ok (cfg_ok hT) hrow small7_body) (fun _ => trivial) no_asm Tryz.func11 (by decide +kernel) (hW.resolve_left hs) (by decide +kernel) rfl w [v, u] rfl (two_hold (raw_at h1 hr1) (raw_at h2 hr2))
end Go.Proofs.YtifeacfljfmnpaaGreat
end

section
set_option maxRecDepth 100000
namespace Go.Proofs.YtifeacfljfmnpaaGreat
open Go.RowKit
def kKg (g : Asm) (k : Con) : Con := fun args G => if g.all (fun p => G.find p.1 == some p.2) then k args G else none
theorem kKg_ok {E : Env} {f : Nat} {g : Asm} {k : Con} (hb : ∃ fn, Tryz.prog.funcs[f]? = some fn ∧ fn.name ≠ "runtime.NumGoroutine" ∧ fn.body.isNone = false) (hn : ∀ args G r, k args G = some r → ∀ x off, r ≠ .ptr x off) (h : g.holds E → ConOK Tryz.prog E f k) : ConOK Tryz.prog E f (kKg g k) := by
  refine ⟨?_, ?_, hb⟩
  · intro args G r hr hG
    unfold kKg at hr
    split at hr
    · rename_i hc
      exact (h (fun p hp => Asm.find_spec hG (by simpa using List.all_eq_true.1 hc p hp))).calls args G r hr hG
    · cases hr
  · intro args G r hr
    unfold kKg at hr
    split at hr
    · exact hn args G r hr
    · cases hr
theorem kKq_np {chk : List AV → Bool} {r : AV} {k : Con} (hr : ∀ x off, r ≠ .ptr x off) (hk : ∀ args G s, k args G = some s → ∀ x off, s ≠ .ptr x off) : ∀ args G s, kKq chk r k args G = some s → ∀ x off, s ≠ .ptr x off := by
  intro args G s h
  unfold kKq at h
  split at h
  · injection h with h; subst h; exact hr
  · exact hk args G s h
theorem kNoQ_np : ∀ args G s, kNoQ args G = some s → ∀ x off, s ≠ .ptr x off := fun _ _ _ h => by cases h
def gPV : Asm := (List.range 10).map fun i => (.lt (.lit 3) (.rlen i), false)
noncomputable def tabPvl (y : Bool) : List (Nat × Con) := [(32, kAw7), (49, kKg gPV (kKq (cRn 0 10) (rBl y) kNoQ)), (50, kKg gPV (kKq (cRn 0 10) (rBl y) kNoQ))]
theorem pV_walk : (bools.all fun y => okTr (funE (c5 (cfgOf (tabPvl y))) Tryz.f8 [] [.val true (rawL 0 10)])) = true := by kernel_rfl
theorem pointValid_calls (w : World) (v : Value) (l : List RI) (h : RawN w v 5 l) : Calls Tryz.prog 8 #[v] w (IsT w) := by
  have hk : gPV.holds (bE okQ l) → ∀ j, j < 10 → (rawW l j).2.length ≤ 3 := by
    intro hg j hj
    have h1 := hg (.lt (.lit 3) (.rlen j), false) (List.mem_map.2 ⟨j, List.mem_range.2 hj, rfl⟩)
    have h2 : ¬ ((3 : Int) < ((rawW l j).2.length : Int)) := of_decide_eq_false h1
    omega
  have kn : ∀ (f : Bool), gPV.holds (bE okQ l) → KnownR (bE okQ l) (vdN f) (cRn 0 10) (rBl (okA l && ptb (rqW l 1) (rqW l 3) (rqW l 4))) := by
    intro f hg
    refine ⟨fun args ha β w vs hv hl => ?_, fun x off e => by cases e⟩
    have := cRn_spec ha
    subst this
    obtain ⟨v, rfl, k1⟩ := args1 hv hl
    refine (validW_calls f w v l k1 (hk hg)).mono ?_
    rintro e w' ⟨rfl, ex⟩
    exact ⟨_, rfl, fun β => one_bool.2 rfl, ex⟩
  have np : ∀ y, ∀ args G s, kKq (cRn 0 10) (rBl y) kNoQ args G = some s → ∀ x off, s ≠ .ptr x off := fun y => kKq_np (fun x off e => by cases e) kNoQ_np
  have hT : TabOK Tryz.prog (bE okQ l) (tabPvl (okA l && ptb (rqW l 1) (rqW l 3) (rqW l 4))) :=
    .cons kAw7_ok <| .cons (kKg_ok ⟨_, Tryz.func49, by decide +kernel, by kernel_rfl⟩ (np _) fun hg => kKr_ok (kn true hg) (kNoQ_ok ⟨_, Tryz.func49, by decide +kernel, by kernel_rfl⟩)) <|
    .cons (kKg_ok ⟨_, Tryz.func50, by decide +kernel, by kernel_rfl⟩ (np _) fun hg => kKr_ok (kn false hg) (kNoQ_ok ⟨_, Tryz.func50, by decide +kernel, by kernel_rfl⟩)) .nil
  exact lawQ_calls (c5_ok (cfg_ok hT)) (fun _ => trivial) no_asm Tryz.func8 (by decide +kernel) (List.all_eq_true.1 pV_walk _ (bools_mem _)) (by decide +kernel) rfl w [v] rfl (one_arg rfl rfl (rawArg h))
noncomputable def tabPat : List (Nat × Con) := (32, kAw7) :: (40, kKq (cts [[qI 10, qI 12]]) (rBl true) kNoQ) :: (tabInt ++ tabT)
def aG (i : Nat) : AV := .val true [.n .i64 (.var i), .n .i64 (.var (i + 2))]
def gI64 (i : Nat) : Asm := [(.le (.lit (-9223372036854775808)) (.var i), true), (.le (.var i) (.lit 9223372036854775807), true)]
theorem gI64_ok {E : Env} {i : Nat} {G : Asm} (h : I64 (E.i i)) (k : G.holds E) : (gI64 i ++ G).holds E := asm_and (decide_eq_true h.1) (asm_and (decide_eq_true h.2) k)
def gPA (z1 z2 : Bool) : Asm := gI64 14 ++ (gI64 16 ++ [(zt (qI 2), z1), (zt (qI 6), z2)])
theorem pA_walk : (bools.all fun z1 => bools.all fun z2 => okTr (funE (cPT tabPat (oTn 1 (tsP 0))) Tryz.f7 (gPA z1 z2) [.val true (intC 3 10 2), aG 14, aP3 0])) = true := by kernel_rfl
noncomputable def tabPatb (y : Bool) : List (Nat × Con) := [(32, kAw7), (40, kKq (cRn 10 4) (rBl y) kNoQ)]
theorem pA_bad : (bools.all fun x => bools.all fun y => (x && y) || okTr (funE (cfgS 41 (oRn 1 x) (cfgOf (tabPatb y))) Tryz.f7 [] [.val true (rawL 10 4), aG 14, .val true (rawL 0 10)])) = true := by kernel_rfl
theorem aG_holds {E : Env} {w : World} {i : Nat} {x y : Int} (h1 : E.i i = x) (h2 : E.i (i + 2) = y) : ∀ β, (aG i).holds E β w (.agg #[.int .i64 x, .int .i64 y]) := fun _ => by
  subst h1 h2
  exact ⟨[_, _], rfl, [_], _, rfl, rfl, [_], [], rfl, rfl, rfl⟩
theorem pointAt_calls (w : World) (u v : Value) (m2 m1 : List RI) (h2 : RawN w u 2 m2) (h1 : RawN w v 5 m1) (gx gy : Int) (ix : I64 gx) (iy : I64 gy) : Calls Tryz.prog 7 #[u, .agg #[.int .i64 gx, .int .i64 gy], v] w (IsT w) := by
  by_cases hs : (pSm m1 && vSm m2) = true
  · rw [Bool.and_eq_true] at hs
    obtain ⟨p, hp, hv, lp⟩ := h1.pt hs.1
    obtain ⟨x, y, hu, lu⟩ := h2.vec hs.2
    obtain ⟨E, hE⟩ : ∃ E, E = qE (p.l ++ [x, y, (gx : Rat), (gy : Rat)]) := ⟨_, rfl⟩
    have hQ : QEnv E := by rw [hE]; exact qE_ok _
    have rp : RepP E 0 p := by rw [hE]; exact qE_point p _
    have rx : RepQ E (qI 10) x := by rw [hE]; exact ⟨rfl, rfl⟩
    have ry : RepQ E (qI 12) y := by rw [hE]; exact ⟨rfl, rfl⟩
    have ex : E.i 14 = gx := by rw [hE]; exact qE_int (i := 7) rfl
    have ey : E.i 16 = gy := by rw [hE]; exact qE_int (i := 8) rfl
    have hT : TabOK Tryz.prog E tabPat := .cons kAw7_ok <| .cons (kKr_ok (vecInt_known ⟨rx, ry, trivial⟩ lu) (kNoQ_ok ⟨_, Tryz.func40, by decide +kernel, by kernel_rfl⟩)) (TabOK.app tabInt_ok (tabT_ok hQ))
    have hrow : RowSm E 41 (oTn 1 (tsP 0)) := oTn_ok (.inl rfl) (qs := p.l) rp.reps rfl (by
      rw [Bool.and_eq_true]
      exact ⟨pSm_pt hv lp hp, rfl⟩)
    have hG : (gPA (decide (p.bx = 0)) (decide (p.by' = 0))).holds E := gI64_ok (by rw [ex]; exact ix) (gI64_ok (by rw [ey]; exact iy) (asm_and (zt_den rp.r2) (asm_and (zt_den rp.r4) asm_nil)))
    have hW := List.all_eq_true.1 (List.all_eq_true.1 pA_walk (decide (p.bx = 0)) (bools_mem _)) (decide (p.by' = 0)) (bools_mem _)
    exact lawQ_calls (cPT_ok hT hrow) (fun _ => trivial) hG Tryz.func7 (by decide +kernel) hW (by decide +kernel) rfl w [u, _, v] rfl (three_argsQ (qs2_chunks rx ry hu lu) (aG_holds ex ey) (pt_chunks rp hv lp))
  · obtain ⟨E, hE⟩ : ∃ E : Env, E = ⟨fun i => if i = 14 then gx else gy, fun _ => false, fun k => if k < 10 then rawW m1 k else rawW m2 (k - 10), fun _ => []⟩ := ⟨_, rfl⟩
    have hr1 : ∀ k, k < 10 → E.r (0 + k) = rawW m1 k := fun k hk => by
      rw [hE, Nat.zero_add]
      show (if k < 10 then _ else _) = _
      rw [if_pos hk]
    have hr2 : ∀ k, k < 4 → E.r (10 + k) = rawW m2 k := fun k hk => by
      rw [hE]
      show (if 10 + k < 10 then _ else _) = _
      rw [if_neg (by omega), show 10 + k - 10 = k by omega]
    have hrow : RowSm E 41 (oRn 1 (pSm m1)) := oRn_ok (.inl rfl) (l := (List.range 10).map (rawW m1) ++ []) (fun k hk => by
      rw [take_row k hk, ← hr1 k hk, Nat.zero_add]) (by
      rw [take_row', pSm_norm]
      simp)
    have hW := List.all_eq_true.1 (List.all_eq_true.1 pA_bad (pSm m1) (bools_mem _)) (vSm m2) (bools_mem _)
    rw [Bool.or_eq_true] at hW
    have hT : TabOK Tryz.prog E (tabPatb (vSm m2)) := .cons kAw7_ok <| .cons (kKr_ok (vecRaw_known hr2) (kNoQ_ok ⟨_, Tryz.func40, by decide +kernel, by kernel_rfl⟩)) .nil
    exact lawQ_calls (cfgS_ok (cfg_ok hT) hrow small7_body) (fun _ => trivial) no_asm Tryz.func7 (by decide +kernel) (hW.resolve_left hs) (by decide +kernel) rfl w [u, _, v] rfl (three_argsQ (raw_at h2 hr2) (aG_holds (by rw [hE]; rfl) (by rw [hE]; rfl)) (raw_at h1 hr1))
end Go.Proofs.YtifeacfljfmnpaaGreat
end
