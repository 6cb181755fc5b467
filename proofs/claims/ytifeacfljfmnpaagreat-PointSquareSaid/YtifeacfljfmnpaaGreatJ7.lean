/-
  Texts of this seat, joined.
-/
import Derived.Test.YtifeacfljfmnpaaGreatJ6
section
set_option maxRecDepth 100000
namespace Go.Proofs.YtifeacfljfmnpaaGreat
open Go.RowKit
theorem lawC_calls {C : Cfg} {E : Env} (hC : CfgOK Tryz.prog E C) (hw : ∀ w, C.wok w) {G : Asm} (hG : G.holds E) {f : FuncId} {fn : Func} (hf : Tryz.prog.funcs[f]? = some fn) (h4 : fn.results.toList.length ≤ 4) {args : List AV} (hT : okC7 (funE C fn G args) = true) (hn : args.length ≤ fn.ntmps) (hp : args.all noPtr = true) (w : World) (vs : List Value) (hl : vs.length = args.length)
    (hv : ∀ (i : Nat) (x : AV), args[i]? = some x → ∃ v, vs[i]? = some v ∧ ∀ β, x.holds E β w v) : Calls Tryz.prog f vs.toArray w (IsT w) := by
  obtain ⟨T, hT, hall⟩ := okC7_spec hT
  refine (fun_sound mixed hC hG hf h4 hT hn hp w vs hl (fun i x hx => ?_) (fun w' _ => hw w')).mono ?_
  · obtain ⟨v, h1, h2⟩ := hv i x hx
    exact ⟨fun _ => 0, v, h1, h2 _⟩
  · rintro e w' ⟨β, v, rfl, hh, ex⟩
    rw [allC7_out hall hh]
    exact ⟨rfl, ex⟩
def smR3 (l : List RI) : Bool := (smN 3 (rawW l 0) (rawW l 1) && (smN 3 (rawW l 2) (rawW l 3) && smN 3 (rawW l 4) (rawW l 5))) && Rdb (rqW l 1) (rqW l 2)
noncomputable def tabS3 (x0 x1 x2 y : Bool) : List (Nat × Con) :=
  (62, kKq (cR2n 0) (rBl x0) <| kKq (cR2n 2) (rBl x1) <| kKq (cR2n 4) (rBl x2) kNoQ) ::
  (110, if x0 && (x1 && x2) then kKq (cRn 0 6) (rBl y) kNoQ else kNoQ) :: []
theorem s3_walk : (bools.all fun x0 => bools.all fun x1 => bools.all fun x2 => bools.all fun y => isBlo ((x0 && (x1 && x2)) && y) (funE (cfgOf (tabS3 x0 x1 x2 y)) Tryz.f33 [] [.val true (rawL 0 6), .val false [.n .i64 (.lit 3)]])) = true := by kernel_rfl
theorem RawN.root3 {w : World} {v : Value} {l : List RI} (h : RawN w v 3 l) (h1 : smN 3 (rawW l 0) (rawW l 1) = true) (h2 : smN 3 (rawW l 2) (rawW l 3) = true) (h3 : smN 3 (rawW l 4) (rawW l 5) = true) : IsRoot w v (rqW l 0) (rqW l 1) (rqW l 2) ∧ LimR 3 (rqW l 0) (rqW l 1) (rqW l 2) := by
  obtain ⟨k1, k2⟩ := h.qs (m := 3) (fun j hj => by
    match j, hj with
    | 0, _ => exact h1
    | 1, _ => exact h2
    | 2, _ => exact h3)
  exact ⟨qs_root k1, k2 _ (List.mem_map.2 ⟨0, List.mem_range.2 (by omega), rfl⟩), k2 _ (List.mem_map.2 ⟨1, List.mem_range.2 (by omega), rfl⟩), k2 _ (List.mem_map.2 ⟨2, List.mem_range.2 (by omega), rfl⟩)⟩
theorem smallR3_calls (w : World) (v : Value) (l : List RI) (h : RawN w v 3 l) : Calls Tryz.prog 33 #[v, .int .i64 3] w (RetBl (smR3 l) w) := by
  have hW := List.all_eq_true.1 (List.all_eq_true.1 (List.all_eq_true.1 (List.all_eq_true.1 s3_walk (smN 3 (rawW l 0) (rawW l 1)) (bools_mem _)) (smN 3 (rawW l 2) (rawW l 3)) (bools_mem _)) (smN 3 (rawW l 4) (rawW l 5)) (bools_mem _)) (Rdb (rqW l 1) (rqW l 2)) (bools_mem _)
  have kn : ∀ i, KnownR (bE okQ l) 62 (cR2n i) (rBl (smN 3 (rawW l i) (rawW l (i + 1)))) := fun i => small2_known rfl
  have hT : TabOK Tryz.prog (bE okQ l) (tabS3 (smN 3 (rawW l 0) (rawW l 1)) (smN 3 (rawW l 2) (rawW l 3)) (smN 3 (rawW l 4) (rawW l 5)) (Rdb (rqW l 1) (rqW l 2))) := by
    have nb : ConOK Tryz.prog (bE okQ l) 110 kNoQ := kNoQ_ok ⟨_, Tryz.func110, by decide +kernel, by kernel_rfl⟩
    refine .cons (kKr_ok (kn 0) <| kKr_ok (kn 2) <| kKr_ok (kn 4) (kNoQ_ok ⟨_, Tryz.func62, by decide +kernel, by kernel_rfl⟩)) <| .cons ?_ .nil
    split
    · rename_i hs
      simp only [Bool.and_eq_true] at hs
      refine kKr_ok ⟨fun args ha β w vs hv hl => ?_, fun x off e => by cases e⟩ nb
      have := cRn_spec ha
      subst this
      obtain ⟨v, rfl, k1⟩ := args1 hv hl
      obtain ⟨i1, l1⟩ := RawN.root3 k1 hs.1 hs.2.1 hs.2.2
      refine (r_valid i1 (l1.mono (by omega))).mono ?_
      rintro e w' ⟨rfl, ex⟩
      exact ⟨_, rfl, fun β => one_bool.2 rfl, ex⟩
    · exact nb
  unfold isBlo at hW
  split at hW
  · rename_i T hTe
    refine (fun_sound mixed (cfg_ok hT) no_asm Tryz.func33 (by decide +kernel) hTe (by decide +kernel) rfl w [v, .int .i64 3] rfl ?_).mono ?_
    · intro i x hx
      match i, hx with
      | 0, hx => injection hx with hx; subst hx; exact ⟨fun _ => 0, v, rfl, rawArg h _⟩
      | 1, hx => injection hx with hx; subst hx; exact ⟨fun _ => 0, _, rfl, one_num.2 rfl⟩
    · rintro e w' ⟨β, y, rfl, hh, ex⟩
      rw [isBl_pick hW] at hh
      rw [show y = _ from one_bool.1 hh]
      exact ⟨rfl, ex⟩
  · cases hW
theorem rats_RawN {w : World} {v : Value} {qs : List Rat} (h : IsQs w v qs) : RawN w v qs.length (rawsQs qs) := by
  obtain ⟨vs, rfl, hv⟩ := h
  exact ⟨vs, rfl, rats_raws qs 0 vs hv (fun k _ => by rw [Nat.zero_add]; rfl)⟩
theorem smR3_qs {w : World} {v : Value} {a b c : Rat} (h : IsQs w v [a, b, c]) (l : LimR 3 a b c) (R : Rd b c) : smR3 (rawsQs [a, b, c]) = true := by
  obtain ⟨vs, rfl, u, r, rfl, h1, u2, r2, rfl, h2, u3, r3, rfl, h3, _⟩ := h
  unfold smR3
  rw [rqW_raws (q := b) rfl, rqW_raws (q := c) rfl, Rdb_iff.2 R]
  simp only [Bool.and_eq_true, and_true]
  exact ⟨smN_rawQ h1 l.1, smN_rawQ h2 l.2.1, smN_rawQ h3 l.2.2⟩
def cSm3 (ts : List IT2) : List AV → Bool
  | [.val true cs, .val false [.n .i64 (.lit z)]] => t6 ts cs && z == 3
  | _ => false
theorem smR3_int {E : Env} {ts : List IT2} {a b c : Rat} (hr : Reps E ts [a, b, c]) (l : LimR 3 a b c) (R : Rd b c) : KnownR E 33 (cSm3 ts) (rBl true) := by
  refine ⟨fun args ha β w vs hv hl => ?_, fun x off e => by cases e⟩
  unfold cSm3 at ha
  split at ha
  · simp only [Bool.and_eq_true, beq_iff_eq] at ha
    obtain ⟨ht, rfl⟩ := ha
    obtain ⟨v, u, rfl, ⟨us, rfl, hu⟩, h2⟩ := args2 hv hl
    have h2' := one_num.1 h2
    subst h2'
    have hq : IsQs w (.agg us.toArray) [a, b, c] := ⟨us, rfl, t6_holds hr ht hu⟩
    refine (smallR3_calls w _ _ (rats_RawN hq)).mono ?_
    rintro e w' ⟨rfl, ex⟩
    exact ⟨_, rfl, fun β => one_bool.2 (by rw [smR3_qs hq l R]; rfl), ex⟩
  · cases ha
theorem smR3_raw {E : Env} {m : List RI} {i : Nat} (e : ∀ k, k < 6 → E.r (i + k) = rawW m k) : KnownR E 33 (cRn3 i 6) (rBl (smR3 m)) := by
  refine ⟨fun args ha β w vs hv hl => ?_, fun x off e => by cases e⟩
  unfold cRn3 at ha
  split at ha
  · simp only [Bool.and_eq_true, beq_iff_eq] at ha
    obtain ⟨⟨h1, h2⟩, rfl⟩ := ha
    have h1 := isRaw_spec h1
    rw [h2] at h1
    subst h1
    obtain ⟨v, u, rfl, ⟨us, rfl, hc⟩, k2⟩ := args2 hv hl
    have k2' := one_num.1 k2
    subst k2'
    refine (smallR3_calls w _ m (raw_from (n := 3) hc e)).mono ?_
    rintro e w' ⟨rfl, ex⟩
    exact ⟨_, rfl, fun β => one_bool.2 rfl, ex⟩
  · cases ha
def tsRz (z : Bool) (i : Nat) : List IT2 := if z then [qI i, q0, q0] else [qI i, qI (i + 2), qI (i + 4)]
def cY (z3 : Bool) : IT2 := if z3 then qI 4 else qI 10
def tsRy (z2 z3 : Bool) : List IT2 := if z2 then [qI 6, q0, q0] else [qI 6, qI 8, cY z3]
noncomputable def tabPmk (z1 z2 z3 : Bool) : List (Nat × Con) := (32, kAw7) :: (33, kKq (cSm3 (tsRz z1 0)) (rBl true) (kKq (cSm3 (tsRy z2 z3)) (rBl true) kNoQ)) :: (37, kRSm) :: (tabInt ++ tabT)
def gPmk (z1 z2 z3 : Bool) : Asm := (if z1 then [] else [(zt (qI 2), false)]) ++ ((if z2 then [] else [(zt (qI 8), false)]) ++ [(.eq (qcmp (qI 4) (cY z3)) (.lit 0), z3)])
noncomputable def cPmk (z1 z2 z3 : Bool) : Cfg := cfgI (cPt (cfgOf (tabPmk z1 z2 z3))) (cPt (cfgOf (tabPmk z1 z2 z3))) ptT
theorem pmk_walk : (bools.all fun z1 => bools.all fun z2 => bools.all fun z3 => okC7 (funE (cPmk z1 z2 z3) Tryz.f6 (gPmk z1 z2 z3) [.val true (termC 3 (tsRz z1 0)), .val true (termC 3 (tsRy z2 z3))])) = true := by kernel_rfl
noncomputable def tabPmkb (x y : Bool) : List (Nat × Con) := [(32, kAw7), (33, kKq (cRn3 0 6) (rBl x) (kKq (cRn3 6 6) (rBl y) kNoQ))]
theorem pmk_bad : (bools.all fun x => bools.all fun y => (x && y) || okTr (funE (cfgOf (tabPmkb x y)) Tryz.f6 [] [.val true (rawL 0 6), .val true (rawL 6 6)])) = true := by kernel_rfl
theorem root_qs {w : World} {v : Value} {a b c : Rat} (h : IsRoot w v a b c) : IsQs w v [a, b, c] := root_rats h
theorem reps_rz {E : Env} {i : Nat} {a b c : Rat} (ha : RepQ E (qI i) a) (hb : RepQ E (qI (i + 2)) b) (hc : RepQ E (qI (i + 4)) c) (R : Rd b c) : Reps E (tsRz (decide (b = 0)) i) [a, b, c] := by
  by_cases h : b = 0
  · rcases R with ⟨_, hc0⟩ | ⟨h1, _⟩
    · unfold tsRz
      rw [decide_eq_true h, if_pos rfl, h, hc0]; exact ⟨ha, rep_0, rep_0, trivial⟩
    · exact absurd h h1
  · unfold tsRz
    rw [decide_eq_false h, if_neg (by decide)]; exact ⟨ha, hb, hc, trivial⟩
theorem term_arg {E : Env} {ts : List IT2} {qs : List Rat} {k : Nat} {w : World} {v : Value} (hr : Reps E ts qs) (hv : IsQs w v qs) (hl : LimQs k qs) : ∀ β, (AV.val true (termC k ts)).holds E β w v := fun _ => by
  obtain ⟨vs, rfl, h⟩ := hv
  exact ⟨vs, rfl, termC_holds hr h hl⟩
theorem LimR.qs {n : Nat} {a b c : Rat} (l : LimR n a b c) : LimQs n [a, b, c] := fun q hq => by
  simp only [List.mem_cons, List.not_mem_nil, or_false] at hq
  rcases hq with rfl | rfl | rfl
  · exact l.1
  · exact l.2.1
  · exact l.2.2
theorem pointMake_calls (w : World) (v u : Value) (m1 m2 : List RI) (h1 : RawN w v 3 m1) (h2 : RawN w u 3 m2) : Calls Tryz.prog 6 #[v, u] w (IsT w) := by
  by_cases hs : (smR3 m1 && smR3 m2) = true
  · unfold smR3 at hs
    simp only [Bool.and_eq_true] at hs
    obtain ⟨⟨⟨a1, a2, a3⟩, a4⟩, ⟨b1, b2, b3⟩, b4⟩ := hs
    obtain ⟨i1, l1⟩ := h1.root3 a1 a2 a3
    obtain ⟨i2, l2⟩ := h2.root3 b1 b2 b3
    have R1 := Rdb_iff.1 a4
    have R2 := Rdb_iff.1 b4
    generalize rqW m1 0 = a at *
    generalize rqW m1 1 = b at *
    generalize rqW m1 2 = c at *
    generalize rqW m2 0 = a' at *
    generalize rqW m2 1 = b' at *
    generalize rqW m2 2 = c' at *
    obtain ⟨E, hE⟩ : ∃ E, E = qE [a, b, c, a', b', c'] := ⟨_, rfl⟩
    have hQ : QEnv E := by rw [hE]; exact qE_ok _
    have q : Rts E a b c a' b' c' := by rw [hE]; exact rts_mk _ _ _ _ _ _ _
    have r1 := reps_rz q.r1 q.r2 q.r3 R1
    have rY : RepQ E (cY (decide (c = c'))) c' := by
      unfold cY
      by_cases h : c = c'
      · rw [decide_eq_true h, if_pos rfl, ← h]; exact q.r3
      · rw [decide_eq_false h, if_neg (by decide)]; exact q.r6
    have r2 : Reps E (tsRy (decide (b' = 0)) (decide (c = c'))) [a', b', c'] := by
      unfold tsRy
      by_cases h : b' = 0
      · rcases R2 with ⟨_, hc0⟩ | ⟨h1, _⟩
        · rw [decide_eq_true h, if_pos rfl, h, hc0]; exact ⟨q.r4, rep_0, rep_0, trivial⟩
        · exact absurd h h1
      · rw [decide_eq_false h, if_neg (by decide)]; exact ⟨q.r4, q.r5, rY, trivial⟩
    have hT : TabOK Tryz.prog E (tabPmk (decide (b = 0)) (decide (b' = 0)) (decide (c = c'))) := .cons kAw7_ok <| .cons (kKr_ok (smR3_int r1 l1 R1) <| kKr_ok (smR3_int r2 l2 R2) (kNoQ_ok ⟨_, Tryz.func33, by decide +kernel, by kernel_rfl⟩)) <| .cons kRSm_ok (TabOK.app tabInt_ok (tabT_ok hQ))
    have hG : (gPmk (decide (b = 0)) (decide (b' = 0)) (decide (c = c'))).holds E := by
      intro p hp
      unfold gPmk at hp
      rcases List.mem_append.1 hp with hp | hp
      · by_cases h : b = 0
        · rw [decide_eq_true h, if_pos rfl] at hp; cases hp
        · rw [decide_eq_false h, if_neg (by decide), List.mem_singleton] at hp
          subst hp
          show (zt (qI 2)).den E = false
          rw [zt_den q.r2, decide_eq_false h]
      · rcases List.mem_append.1 hp with hp | hp
        · by_cases h : b' = 0
          · rw [decide_eq_true h, if_pos rfl] at hp; cases hp
          · rw [decide_eq_false h, if_neg (by decide), List.mem_singleton] at hp
            subst hp
            show (zt (qI 8)).den E = false
            rw [zt_den q.r5, decide_eq_false h]
        · rw [List.mem_singleton] at hp
          subst hp
          exact qcmp_zero q.r3 rY
    have hW := List.all_eq_true.1 (List.all_eq_true.1 (List.all_eq_true.1 pmk_walk (decide (b = 0)) (bools_mem _)) (decide (b' = 0)) (bools_mem _)) (decide (c = c')) (bools_mem _)
    have hC : CfgOK Tryz.prog E (cPmk (decide (b = 0)) (decide (b' = 0)) (decide (c = c'))) := cfgI_ok mixed (cPt_ok (cfg_ok hT) (fun _ => trivial)) (cPt_ok (cfg_ok hT) (fun _ => trivial)) (fun _ => trivial) ptT_ok
    exact lawC_calls hC (fun _ => trivial) hG Tryz.func6 (by decide +kernel) hW (show 2 ≤ _ by decide +kernel) rfl w [v, u] rfl (two_hold (term_arg r1 (root_qs i1) l1.qs) (term_arg r2 (root_qs i2) l2.qs))
  · obtain ⟨E, hE⟩ : ∃ E, E = rwE7 (fun k => if k < 6 then rawW m1 k else rawW m2 (k - 6)) := ⟨_, rfl⟩
    have hr1 : ∀ k, k < 6 → E.r (0 + k) = rawW m1 k := fun k hk => by
      rw [hE, Nat.zero_add]
      show (if k < 6 then _ else _) = _
      rw [if_pos hk]
    have hr2 : ∀ k, k < 6 → E.r (6 + k) = rawW m2 k := fun k hk => by
      rw [hE]
      show (if 6 + k < 6 then _ else _) = _
      rw [if_neg (by omega), show 6 + k - 6 = k by omega]
    have hW := List.all_eq_true.1 (List.all_eq_true.1 pmk_bad (smR3 m1) (bools_mem _)) (smR3 m2) (bools_mem _)
    rw [Bool.or_eq_true] at hW
    have hT : TabOK Tryz.prog E (tabPmkb (smR3 m1) (smR3 m2)) := .cons kAw7_ok <| .cons (kKr_ok (smR3_raw hr1) <| kKr_ok (smR3_raw hr2) (kNoQ_ok ⟨_, Tryz.func33, by decide +kernel, by kernel_rfl⟩)) .nil
    exact lawQ_calls (cfg_ok hT) (fun _ => trivial) no_asm Tryz.func6 (by decide +kernel) (hW.resolve_left hs) (by decide +kernel) rfl w [v, u] rfl (two_hold (raw_at h1 hr1) (raw_at h2 hr2))
end Go.Proofs.YtifeacfljfmnpaaGreat
end

section
set_option maxRecDepth 100000
namespace Go.Proofs.YtifeacfljfmnpaaGreat
open Go.RowKit
def sqA (p : PtQ) (x y : Rat) : Rat := ((p.ax - x) * (p.ax - x) + (p.ay - y) * (p.ay - y)) + (p.bx * p.bx + p.by' * p.by') * p.c
def sqB1 (p : PtQ) (x y : Rat) : Rat := (p.ax - x) * p.bx + (p.ay - y) * p.by'
def sqBB (p : PtQ) (x y : Rat) : Rat := sqB1 p x y + sqB1 p x y
def sqL (p : PtQ) (x y : Rat) : List Rat := [sqA p x y, sqBB p x y, rC (sqBB p x y) p.c]
theorem sqL_mv (p : PtQ) (x y u v : Rat) : sqL (p.mv u v) (x + u) (y + v) = sqL p x y := by
  have h1 : p.ax + u - (x + u) = p.ax - x := by grind
  have h2 : p.ay + v - (y + v) = p.ay - y := by grind
  unfold sqL sqBB sqB1 sqA PtQ.mv
  simp only [h1, h2]
theorem Rd.of_ne {b d c : Rat} (hb : b ≠ 0) (hd : d ≠ 0) (R : Rd b c) : Rd d c := by
  rcases R with ⟨h, _⟩ | ⟨_, h⟩
  · exact absurd h hb
  · exact .inr ⟨hd, h⟩
theorem sqRd {p : PtQ} (hp : p.ok) (x y : Rat) : Rd (sqBB p x y) (rC (sqBB p x y) p.c) := by
  by_cases h : sqBB p x y = 0
  · rw [h, rC_zero]; exact .inl ⟨rfl, rfl⟩
  · rw [rC_ne h]
    rcases RdP.cases hp with ⟨h1, h2, _⟩ | ⟨_, R⟩
    · exfalso
      apply h
      unfold sqBB sqB1
      rw [h1, h2]
      grind
    · exact R.one h
theorem sg2_rC {a b c : Rat} (hc : 0 ≤ c) : sg2 a b (rC b c) = sg2 a b c := by
  by_cases hb : b = 0
  · subst hb
    rw [rC_zero]
    obtain ⟨m, hm⟩ := exists_rt hc
    obtain ⟨n, hn⟩ := exists_rt (show (0 : Rat) ≤ 0 by decide)
    exact (sqv2 (a := a) (b := 0) (by decide) hn).unique ((sqv2 (a := a) (b := 0) hc hm).of_eq fun k => by grind)
  · rw [rC_ne hb]
theorem sq_sg {a b c : Rat} {m : Sq} (hc : 0 ≤ c) (hm : IsRt c m) : HasSg (fun k => (a * a + b * b * c) + (a * b + b * a) * m k) (sg2 a b c * sg2 a b c) := by
  have h := HasSg.mul (sqv2 (a := a) (b := b) hc hm) (sqv2 (a := a) (b := b) hc hm) (bdd2 hc hm) (bdd2 hc hm)
  refine h.near (null_congr (fun k => ?_) (null_mul (bdd_const (b * b)) hm.lim))
  grind
theorem sgn_square {p : PtQ} (hp : p.ok) (x y : Rat) : 0 ≤ sgN (sqA p x y) (sqBB p x y) (rC (sqBB p x y) p.c) ∧ (sgN (sqA p x y) (sqBB p x y) (rC (sqBB p x y) p.c) = 0 ↔ cmP p ⟨x, 0, y, 0, 0⟩ = 0) := by
  have hc := RdP.nonneg hp
  obtain ⟨m, hm⟩ := exists_rt hc
  have e0 : cmP p ⟨x, 0, y, 0, 0⟩ = lexZ (sg2 (p.ax - x) p.bx p.c) (sg2 (p.ay - y) p.by' p.c) := by
    unfold cmP cmX cmY
    simp only [rC_zero]
    rw [cmR_two (RdP.fst hp).nonneg, cmR_two (RdP.snd hp).nonneg, sg2_rC hc, sg2_rC hc]
  rw [e0, lexZ_zero, sgN_sg2 (sqRd hp x y), sg2_rC hc]
  have h1 := sq_sg (a := p.ax - x) (b := p.bx) hc hm
  have h2 := sq_sg (a := p.ay - y) (b := p.by') hc hm
  have h3 : HasSg (fun k => ((p.ax - x) * (p.ax - x) + p.bx * p.bx * p.c + ((p.ax - x) * p.bx + p.bx * (p.ax - x)) * m k) + ((p.ay - y) * (p.ay - y) + p.by' * p.by' * p.c + ((p.ay - y) * p.by' + p.by' * (p.ay - y)) * m k)) (sg2 (sqA p x y) (sqBB p x y) p.c) :=
    (sqv2 (a := sqA p x y) (b := sqBB p x y) hc hm).of_eq fun k => by
      unfold sqA sqBB sqB1
      grind
  obtain ⟨k1, k2⟩ := HasSg.add_both h1 h2 h3
  have r1 := (sqv2 (a := p.ax - x) (b := p.bx) hc hm).range
  have r2 := (sqv2 (a := p.ay - y) (b := p.by') hc hm).range
  have key : ∀ s t u : Int, (s = 1 ∨ s = 0 ∨ s = -1) → (t = 1 ∨ t = 0 ∨ t = -1) → (0 ≤ s * s → 0 ≤ t * t → max (s * s) (t * t) ≤ u) → (s * s ≤ 0 → t * t ≤ 0 → u ≤ min (s * s) (t * t)) → 0 ≤ u ∧ (u = 0 ↔ s = 0 ∧ t = 0) := by
    intro s t u hs ht a1 a2
    rcases hs with rfl | rfl | rfl <;> rcases ht with rfl | rfl | rfl <;> simp at a1 a2 ⊢ <;> omega
  exact key _ _ _ r1 r2 k1 k2
def pdT (x y u v : IT2) : IT2 := qop 0 (qop 2 x u) (qop 2 y v)
def sqDx : IT2 := qop 1 (qI 0) (qI 10)
def sqDy : IT2 := qop 1 (qI 4) (qI 12)
def sqTA : IT2 := qop 0 (pdT sqDx sqDy sqDx sqDy) (qop 2 (pdT (qI 2) (qI 6) (qI 2) (qI 6)) (qI 8))
def sqTB : IT2 := qop 0 (pdT sqDx sqDy (qI 2) (qI 6)) (pdT sqDx sqDy (qI 2) (qI 6))
noncomputable def cSq7 : Cfg := cfgI (cPt (cfgOf (tabInt ++ tabT))) (cPt (cfgOf (tabInt ++ tabT))) [(130, Tryz.f130)]
theorem psq_walk : (bools.all fun z => isTs (if z then [sqTA, q0, q0] else [sqTA, sqTB, qI 8]) (funE cSq7 Tryz.f58 [(zt sqTB, z)] [aP9 0, .val true (intC 9 10 2)])) = true := by kernel_rfl
theorem psq_calls (w : World) (v u : Value) (p : PtQ) (x y : Rat) (hv : IsQs w v p.l) (hu : IsQs w u [x, y]) (l : LimQs 9 p.l) (l' : LimQs 9 [x, y]) : Calls Tryz.prog 58 #[v, u] w (Ret (fun z w' => IsQs w' z (sqL p x y)) w) := by
  obtain ⟨E, hE⟩ : ∃ E, E = qE (p.l ++ [x, y]) := ⟨_, rfl⟩
  have hQ : QEnv E := by rw [hE]; exact qE_ok _
  have rp : RepP E 0 p := by rw [hE]; exact qE_point p _
  have rx : RepQ E (qI 10) x := by rw [hE]; exact ⟨rfl, rfl⟩
  have ry : RepQ E (qI 12) y := by rw [hE]; exact ⟨rfl, rfl⟩
  have dx := rep_sub rp.r1 rx
  have dy := rep_sub rp.r3 ry
  have pd : ∀ {x y u v : IT2} {a b c d : Rat}, RepQ E x a → RepQ E y b → RepQ E u c → RepQ E v d → RepQ E (pdT x y u v) (a * c + b * d) := fun h1 h2 h3 h4 => rep_add (rep_mul h1 h3) (rep_mul h2 h4)
  have hA : RepQ E sqTA (sqA p x y) := rep_add (pd dx dy dx dy) (rep_mul (pd rp.r2 rp.r4 rp.r2 rp.r4) rp.r5)
  have hB : RepQ E sqTB (sqBB p x y) := rep_add (pd dx dy rp.r2 rp.r4) (pd dx dy rp.r2 rp.r4)
  have hr := reps_co hA hB rp.r5
  have hW := List.all_eq_true.1 psq_walk (decide (sqBB p x y = 0)) (bools_mem _)
  exact isTs_calls (cfgI_ok mixed (cPt_ok (cfg_ok (TabOK.app tabInt_ok (tabT_ok hQ))) (fun _ => trivial)) (cPt_ok (cfg_ok (TabOK.app tabInt_ok (tabT_ok hQ))) (fun _ => trivial)) (fun _ => trivial) (.cons Tryz.func130 (by decide +kernel) (by kernel_rfl) .nil)) (fun _ => trivial) (asm_and (zt_den hB) asm_nil) Tryz.func58 (by decide +kernel) hW hr (by decide +kernel) rfl w [v, u] rfl (two_hold (pt_chunks rp hv l) (qs2_chunks rx ry hu l'))
noncomputable def tabRq7 : List (Nat × Con) := [(187, kKq (cts [[qI 0, qI 2, qI 4], [qI 0, qI 2, qI 4]]) (.tup [(true, rt (qI 6) (qI 8) (qI 10) 300), (false, [.n .i64 (.lit 0)])]) kNoQ)]
theorem rq7_walk : isTs [qI 6, qI 8, qI 10] (funE (cfgOf tabRq7) Tryz.f135 [] [.val true (rt (qI 0) (qI 2) (qI 4) 50)]) = true := by kernel_rfl
theorem cm_self (b c : Rat) : cm b c c = c := by
  by_cases h : b = 0
  · subst h; rw [cm_zero]
  · rw [cm_ne h]
theorem RetR.okE {w w' : World} {ok : Prop} {err : Int} {p q r : Rat} {e : Ending} (h : RetR w ok err p q r e w') (k : ok) : ∃ x, e = .returned (.tuple #[x, .int .i64 0]) ∧ IsRoot w' x p q r ∧ Ext w w' := h.1 k
theorem rsq_root (w : World) (v : Value) (a b c : Rat) (R : Rd b c) (hv : IsRoot w v a b c) (l : LimR 50 a b c) : Calls Tryz.prog 135 #[v] w (Ret (fun z w' => IsQs w' z [a * a + b * b * c, a * b + b * a, rC (a * b + b * a) c]) w) := by
  obtain ⟨E, hE⟩ : ∃ E, E = qE [a, b, c, a * a + b * b * c, a * b + b * a, rC (a * b + b * a) c] := ⟨_, rfl⟩
  have q : Rts E a b c (a * a + b * b * c) (a * b + b * a) (rC (a * b + b * a) c) := by rw [hE]; exact rts_mk _ _ _ _ _ _ _
  have l1 : LimQ 201 (a * a) := l.1.mulQ l.1
  have l2 : LimQ 201 (b * b) := l.2.1.mulQ l.2.1
  have ab := LimQ.mul' l.1.1 l.1.2 l.2.1.1 l.2.1.2
  have aa := LimQ.mul' l.1.1 l.1.2 l.1.1 l.1.2
  have bb := LimQ.mul' l.2.1.1 l.2.1.2 l.2.1.1 l.2.1.2
  have bbc := LimQ.mul' bb.1 bb.2 l.2.2.1 l.2.2.2
  have ba := LimQ.mul' l.2.1.1 l.2.1.2 l.1.1 l.1.2
  have s1 := LimQ.addP (n := 300) aa.1 aa.2 bbc.1 bbc.2 (by omega) (by omega)
  have s2 := LimQ.addP (n := 300) ab.1 ab.2 ba.1 ba.2 (by omega) (by omega)
  have lr : LimR 300 (a * a + b * b * c) (a * b + b * a) (rC (a * b + b * a) c) := ⟨⟨s1.1, s1.2.mono (by omega)⟩, ⟨s2.1, s2.2.mono (by omega)⟩, LimQ.rC ⟨l.2.2.1.mono (by omega), l.2.2.2.mono (by omega)⟩ (by omega)⟩
  have hT : TabOK Tryz.prog E tabRq7 := by
    refine .cons (kKr_ok (knownT (ls := [[a, b, c], [a, b, c]]) ⟨⟨q.r1, q.r2, q.r3, trivial⟩, ⟨q.r1, q.r2, q.r3, trivial⟩, trivial⟩ (fun x off e => by cases e) fun w vs hv => ?_) (kNoQ_ok ⟨_, Tryz.func187, by decide +kernel, by kernel_rfl⟩)) .nil
    obtain ⟨v, u, rfl, k1, k2⟩ := roots_args hv
    refine (r_mul R R k1 k2 (l.mono (by omega)) (l.mono (by omega))).mono ?_
    intro e w' h
    obtain ⟨x, rfl, hx, ex⟩ := h.okE (.inr (.inr rfl))
    rw [cm_self] at hx
    exact ⟨_, rfl, fun β => ⟨[x, .int .i64 0], rfl, _, _, rfl, (one_rt q.r4 q.r5 q.r6).2 ⟨hx, lr⟩, _, _, rfl, one_num.2 rfl, rfl⟩, ex⟩
  exact isTs_calls (cfg_ok hT) (fun _ => trivial) no_asm Tryz.func135 (by decide +kernel) rq7_walk (qs := [a * a + b * b * c, a * b + b * a, rC (a * b + b * a) c]) ⟨q.r4, q.r5, q.r6, trivial⟩ (by decide +kernel) rfl w [v] rfl (one_arg rfl rfl (fun β => (one_rt q.r1 q.r2 q.r3).2 ⟨hv, l⟩))
def rdX : IT2 := qop 0 (qI 0) (qng (qI 10))
def rdY : IT2 := qop 0 (qI 4) (qng (qI 12))
def tsDx (z : Bool) : List IT2 := if z then [rdX, q0, q0] else [rdX, qI 2, qI 8]
def tsDy (z : Bool) : List IT2 := if z then [rdY, q0, q0] else [rdY, qI 6, qI 8]
noncomputable def tabRsq7 (z1 z2 : Bool) : List (Nat × Con) :=
  (135, kKq (cts [tsDx z1]) (.val true (rt (qI 14) (qI 16) (qI 18) 300)) (kKq (cts [tsDy z2]) (.val true (rt (qI 20) (qI 22) (qI 24) 300)) kNoQ)) ::
  (134, kKq (cts [[qI 14, qI 16, qI 18], [qI 20, qI 22, qI 24]]) (.tup [(true, rt (qI 26) (qI 28) (qI 30) 3000), (false, [.n .i64 (.lit 0)])]) kNoQ) :: (tabInt ++ tabT)
noncomputable def cRsq7 (z1 z2 : Bool) : Cfg := cfgI (cTr (cfgOf (tabRsq7 z1 z2))) (cTr (cfgOf (tabRsq7 z1 z2))) ptT
theorem rsq_walk : (bools.all fun z1 => bools.all fun z2 => isTs [qI 26, qI 28, qI 30] (funE (cRsq7 z1 z2) Tryz.f60 [(zt (qI 2), z1), (zt (qI 6), z2)] [aP9 0, .val true (intC 9 10 2)])) = true := by kernel_rfl
theorem sqX_eq {b c : Rat} : b * b * rC b c = b * b * c := by
  by_cases h : b = 0
  · subst h; grind
  · rw [rC_ne h]
theorem rsq_calls (w : World) (v u : Value) (p : PtQ) (x y : Rat) (hp : p.ok) (hv : IsQs w v p.l) (hu : IsQs w u [x, y]) (l : LimQs 9 p.l) (l' : LimQs 9 [x, y]) : Calls Tryz.prog 60 #[v, u] w (Ret (fun z w' => IsQs w' z (sqL p x y)) w) := by
  obtain ⟨dx, hdx⟩ : ∃ d, d = p.ax + -x := ⟨_, rfl⟩
  obtain ⟨dy, hdy⟩ : ∃ d, d = p.ay + -y := ⟨_, rfl⟩
  obtain ⟨c1, hc1⟩ : ∃ d, d = rC p.bx p.c := ⟨_, rfl⟩
  obtain ⟨c2, hc2⟩ : ∃ d, d = rC p.by' p.c := ⟨_, rfl⟩
  have R1 : Rd p.bx c1 := by rw [hc1]; exact RdP.fst hp
  have R2 : Rd p.by' c2 := by rw [hc2]; exact RdP.snd hp
  obtain ⟨m1, m2, m3, m4, m5⟩ := l.parts
  have lx : LimQ 9 x := l' x (by simp)
  have ly : LimQ 9 y := l' y (by simp)
  have ax := LimQ.addP (n := 50) m1.1 m1.2 (b := -x) (by rw [Rat.neg_num]; exact lx.1.neg) (show Lim 9 ((-x).den : Int) from lx.2) (by omega) (by omega)
  have ay := LimQ.addP (n := 50) m3.1 m3.2 (b := -y) (by rw [Rat.neg_num]; exact ly.1.neg) (show Lim 9 ((-y).den : Int) from ly.2) (by omega) (by omega)
  rw [← hdx] at ax
  rw [← hdy] at ay
  have L1 : LimR 50 dx p.bx c1 := ⟨⟨ax.1, ax.2.mono (by omega)⟩, m2.mono (by omega), by rw [hc1]; exact (m5.mono (by omega)).rC (by omega)⟩
  have L2 : LimR 50 dy p.by' c2 := ⟨⟨ay.1, ay.2.mono (by omega)⟩, m4.mono (by omega), by rw [hc2]; exact (m5.mono (by omega)).rC (by omega)⟩
  obtain ⟨x1, hx1⟩ : ∃ q, q = dx * dx + p.bx * p.bx * c1 := ⟨_, rfl⟩
  obtain ⟨x2, hx2⟩ : ∃ q, q = dx * p.bx + p.bx * dx := ⟨_, rfl⟩
  obtain ⟨y1, hy1⟩ : ∃ q, q = dy * dy + p.by' * p.by' * c2 := ⟨_, rfl⟩
  obtain ⟨y2, hy2⟩ : ∃ q, q = dy * p.by' + p.by' * dy := ⟨_, rfl⟩
  have limSq : ∀ {a b c : Rat}, LimR 50 a b c → LimR 300 (a * a + b * b * c) (a * b + b * a) (rC (a * b + b * a) c) := by
    intro a b c l
    have ab := LimQ.mul' l.1.1 l.1.2 l.2.1.1 l.2.1.2
    have aa := LimQ.mul' l.1.1 l.1.2 l.1.1 l.1.2
    have bb := LimQ.mul' l.2.1.1 l.2.1.2 l.2.1.1 l.2.1.2
    have bbc := LimQ.mul' bb.1 bb.2 l.2.2.1 l.2.2.2
    have ba := LimQ.mul' l.2.1.1 l.2.1.2 l.1.1 l.1.2
    have s1 := LimQ.addP (n := 300) aa.1 aa.2 bbc.1 bbc.2 (by omega) (by omega)
    have s2 := LimQ.addP (n := 300) ab.1 ab.2 ba.1 ba.2 (by omega) (by omega)
    exact ⟨⟨s1.1, s1.2.mono (by omega)⟩, ⟨s2.1, s2.2.mono (by omega)⟩, LimQ.rC ⟨l.2.2.1.mono (by omega), l.2.2.2.mono (by omega)⟩ (by omega)⟩
  have K1 := limSq L1
  have K2 := limSq L2
  rw [← hx1, ← hx2] at K1
  rw [← hy1, ← hy2] at K2
  have RX : Rd x2 (rC x2 c1) := by
    by_cases h : x2 = 0
    · rw [h, rC_zero]; exact .inl ⟨rfl, rfl⟩
    · rw [rC_ne h]; exact R1.of_ne (fun hb => h (by rw [hx2, hb]; grind)) h
  have RY : Rd y2 (rC y2 c2) := by
    by_cases h : y2 = 0
    · rw [h, rC_zero]; exact .inl ⟨rfl, rfl⟩
    · rw [rC_ne h]; exact R2.of_ne (fun hb => h (by rw [hy2, hb]; grind)) h
  have ec1 : x2 ≠ 0 → rC x2 c1 = p.c := fun h => by
    rw [rC_ne h, hc1, rC_ne (fun hb => h (by rw [hx2, hb]; grind))]
  have ec2 : y2 ≠ 0 → rC y2 c2 = p.c := fun h => by
    rw [rC_ne h, hc2, rC_ne (fun hb => h (by rw [hy2, hb]; grind))]
  have ok : Ok x2 (rC x2 c1) y2 (rC y2 c2) := by
    by_cases h1 : x2 = 0
    · exact .inl h1
    · by_cases h2 : y2 = 0
      · exact .inr (.inl h2)
      · exact .inr (.inr ((ec1 h1).trans (ec2 h2).symm))
  have eA : x1 + y1 = sqA p x y := by
    rw [hx1, hy1, hc1, hc2, sqX_eq, sqX_eq, hdx, hdy]
    unfold sqA
    grind
  have eB : x2 + y2 = sqBB p x y := by
    rw [hx2, hy2, hdx, hdy]
    unfold sqBB sqB1
    grind
  have eC : rC (x2 + y2) (cm x2 (rC x2 c1) (rC y2 c2)) = rC (sqBB p x y) p.c := by
    rw [eB]
    by_cases h : sqBB p x y = 0
    · rw [h, rC_zero, rC_zero]
    · rw [rC_ne h, rC_ne h]
      by_cases h1 : x2 = 0
      · have h2 : y2 ≠ 0 := fun h2 => h (by rw [← eB, h1, h2]; grind)
        rw [h1, cm_zero]; exact ec2 h2
      · rw [cm_ne h1]; exact ec1 h1
  have hL : sqL p x y = [x1 + y1, x2 + y2, rC (x2 + y2) (cm x2 (rC x2 c1) (rC y2 c2))] := by
    rw [eC, eA, eB]; rfl
  have sA := LimQ.addP (n := 3000) K1.1.1 K1.1.2 K2.1.1 K2.1.2 (by omega) (by omega)
  have sB := LimQ.addP (n := 3000) K1.2.1.1 K1.2.1.2 K2.2.1.1 K2.2.1.2 (by omega) (by omega)
  have KS : LimR 3000 (x1 + y1) (x2 + y2) (rC (x2 + y2) (cm x2 (rC x2 c1) (rC y2 c2))) := ⟨⟨sA.1, sA.2.mono (by omega)⟩, ⟨sB.1, sB.2.mono (by omega)⟩, LimQ.rC (LimQ.cm (K1.2.2.mono (by omega)) (K2.2.2.mono (by omega))) (by omega)⟩
  obtain ⟨E, hE⟩ : ∃ E, E = qE (p.l ++ [x, y, x1, x2, rC x2 c1, y1, y2, rC y2 c2, x1 + y1, x2 + y2, rC (x2 + y2) (cm x2 (rC x2 c1) (rC y2 c2))]) := ⟨_, rfl⟩
  have hQ : QEnv E := by rw [hE]; exact qE_ok _
  have rp : RepP E 0 p := by rw [hE]; exact qE_point p _
  have rx : RepQ E (qI 10) x := by rw [hE]; exact ⟨rfl, rfl⟩
  have ry : RepQ E (qI 12) y := by rw [hE]; exact ⟨rfl, rfl⟩
  have r1 : RepQ E (qI 14) x1 := by rw [hE]; exact ⟨rfl, rfl⟩
  have r2 : RepQ E (qI 16) x2 := by rw [hE]; exact ⟨rfl, rfl⟩
  have r3 : RepQ E (qI 18) (rC x2 c1) := by rw [hE]; exact ⟨rfl, rfl⟩
  have r4 : RepQ E (qI 20) y1 := by rw [hE]; exact ⟨rfl, rfl⟩
  have r5 : RepQ E (qI 22) y2 := by rw [hE]; exact ⟨rfl, rfl⟩
  have r6 : RepQ E (qI 24) (rC y2 c2) := by rw [hE]; exact ⟨rfl, rfl⟩
  have r7 : RepQ E (qI 26) (x1 + y1) := by rw [hE]; exact ⟨rfl, rfl⟩
  have r8 : RepQ E (qI 28) (x2 + y2) := by rw [hE]; exact ⟨rfl, rfl⟩
  have r9 : RepQ E (qI 30) (rC (x2 + y2) (cm x2 (rC x2 c1) (rC y2 c2))) := by rw [hE]; exact ⟨rfl, rfl⟩
  have tX : Reps E (tsDx (decide (p.bx = 0))) [dx, p.bx, c1] := by rw [hdx, hc1]; exact reps_co (rep_add rp.r1 (rep_ng rx)) rp.r2 rp.r5
  have tY : Reps E (tsDy (decide (p.by' = 0))) [dy, p.by', c2] := by rw [hdy, hc2]; exact reps_co (rep_add rp.r3 (rep_ng ry)) rp.r4 rp.r5
  have hT : TabOK Tryz.prog E (tabRsq7 (decide (p.bx = 0)) (decide (p.by' = 0))) := by
    refine .cons (kKr_ok (knownT (ls := [[dx, p.bx, c1]]) ⟨tX, trivial⟩ (fun x off e => by cases e) fun w vs hv => ?_) <| kKr_ok (knownT (ls := [[dy, p.by', c2]]) ⟨tY, trivial⟩ (fun x off e => by cases e) fun w vs hv => ?_) (kNoQ_ok ⟨_, Tryz.func135, by decide +kernel, by kernel_rfl⟩)) <|
      .cons (kKr_ok (knownT (ls := [[x1, x2, rC x2 c1], [y1, y2, rC y2 c2]]) ⟨⟨r1, r2, r3, trivial⟩, ⟨r4, r5, r6, trivial⟩, trivial⟩ (fun x off e => by cases e) fun w vs hv => ?_) (kNoQ_ok ⟨_, Tryz.func134, by decide +kernel, by kernel_rfl⟩)) (TabOK.app tabInt_ok (tabT_ok hQ))
    · obtain ⟨v, rfl, k1⟩ := argsQ1 hv
      refine (rsq_root w v _ _ _ R1 (qs_root k1) L1).mono ?_
      rintro e w' ⟨z, rfl, hz, ex⟩
      rw [← hx1, ← hx2] at hz
      exact ⟨z, rfl, fun β => (one_rt r1 r2 r3).2 ⟨qs_root hz, K1⟩, ex⟩
    · obtain ⟨v, rfl, k1⟩ := argsQ1 hv
      refine (rsq_root w v _ _ _ R2 (qs_root k1) L2).mono ?_
      rintro e w' ⟨z, rfl, hz, ex⟩
      rw [← hy1, ← hy2] at hz
      exact ⟨z, rfl, fun β => (one_rt r4 r5 r6).2 ⟨qs_root hz, K2⟩, ex⟩
    · obtain ⟨v, u, rfl, k1, k2⟩ := roots_args hv
      refine (r_add RX RY k1 k2 (K1.mono (by omega)) (K2.mono (by omega))).mono ?_
      intro e w' h
      obtain ⟨z, rfl, hz, ex⟩ := h.okE ok
      exact ⟨_, rfl, fun β => ⟨[z, .int .i64 0], rfl, _, _, rfl, (one_rt r7 r8 r9).2 ⟨hz, KS⟩, _, _, rfl, one_num.2 rfl, rfl⟩, ex⟩
  have hW := List.all_eq_true.1 (List.all_eq_true.1 rsq_walk (decide (p.bx = 0)) (bools_mem _)) (decide (p.by' = 0)) (bools_mem _)
  have hC := cTr_ok (E := E) (cfg_ok hT) (fun _ => trivial)
  rw [hL]
  exact isTs_calls (cfgI_ok mixed hC hC (fun _ => trivial) ptT_ok) (fun _ => trivial) (asm_and (zt_den rp.r2) (asm_and (zt_den rp.r4) asm_nil)) Tryz.func60 (by decide +kernel) hW (qs := [x1 + y1, x2 + y2, rC (x2 + y2) (cm x2 (rC x2 c1) (rC y2 c2))]) ⟨r7, r8, r9, trivial⟩ (by decide +kernel) rfl w [v, u] rfl (two_hold (pt_chunks rp hv l) (qs2_chunks rx ry hu l'))
theorem LimQ.subQ {m : Nat} {a b : Rat} (h : LimQ m a) (k : LimQ m b) : LimQ (4 * m + 1) (a - b) := by
  rw [show a - b = a + -b by grind]
  exact h.addQ k.negQ
theorem sqL_lim {p : PtQ} {x y : Rat} (l : LimQs 3 p.l) (lx : LimQ 3 x) (ly : LimQ 3 y) : LimR 853 (sqA p x y) (sqBB p x y) (rC (sqBB p x y) p.c) := by
  obtain ⟨m1, m2, m3, m4, m5⟩ := l.parts
  have dx : LimQ 13 (p.ax - x) := m1.subQ lx
  have dy : LimQ 13 (p.ay - y) := m3.subQ ly
  have up : ∀ {n m : Nat} {q : Rat}, LimQ n q → n ≤ m → LimQ m q := fun h k => h.mono k
  have a1 : LimQ 213 ((p.ax - x) * (p.ax - x) + (p.ay - y) * (p.ay - y)) := LimQ.addQ (m := 53) (dx.mulQ dx) (dy.mulQ dy)
  have a2 : LimQ 213 ((p.bx * p.bx + p.by' * p.by') * p.c) := LimQ.mulQ (m := 53) (LimQ.addQ (m := 13) (m2.mulQ m2) (m4.mulQ m4)) (up m5 (by omega))
  have b1 : LimQ 213 (sqB1 p x y) := LimQ.addQ (m := 53) (dx.mulQ (up m2 (by omega))) (dy.mulQ (up m4 (by omega)))
  exact ⟨a1.addQ a2, b1.addQ b1, (up m5 (by omega)).rC (by omega)⟩
def sqM : List IT2 := [qop 0 (qI 0) (qI 14), qI 2, qop 0 (qI 4) (qI 16), qI 6, qI 8]
def sqV : List IT2 := [qop 0 (qI 10) (qI 14), qop 0 (qI 12) (qI 16)]
def sqRes : AV := .val true (rt (qI 18) (qI 20) (qI 22) 3000)
noncomputable def tabPsq7 (n z : Int) : List (Nat × Con) :=
  (32, kAw7) :: (40, kKq (cts [[qI 10, qI 12]]) (rBl true) (kKq (cts [[qI 14, qI 16]]) (rBl true) kNoQ)) ::
  (58, kKq (cts [tsP 0, [qI 10, qI 12]]) sqRes (kKq (cts [sqM, sqV]) sqRes kNoQ)) :: (60, kKq (cts [tsP 0, [qI 10, qI 12]]) sqRes kNoQ) ::
  (37, kRSm) :: (59, kKq (cts [[qI 18, qI 20, qI 22]]) (rNq n) kNoQ) ::
  (52, kKq (cts [tsP 0, [qI 10, q0, qI 12, q0, q0]]) (rNq z) kNoQ) :: (tabInt ++ tabT)
noncomputable def ptQ : List (Nat × Func) := [(61, Tryz.f61)]
noncomputable def cPq (n z : Int) : Cfg := cfgS 41 (oTn 1 (tsP 0)) (cfgI (cTr (cfgOf (tabPsq7 n z))) (cTr (cfgOf (tabPsq7 n z))) ptQ)
theorem pq_walk : (sgs.all fun n => sgs.all fun z => (n == -1 || ((n == 0) != (z == 0))) || okC7 (funE (cPq n z) Tryz.f12 [] [aP3 0, .val true (intC 3 10 2), .val true (intC 3 14 2)])) = true := by kernel_rfl
noncomputable def tabPsq7b (y z : Bool) : List (Nat × Con) := [(32, kAw7), (40, kKq (cRn 10 4) (rBl y) (kKq (cRn 14 4) (rBl z) kNoQ))]
theorem pq_bad : (bools.all fun x => bools.all fun y => bools.all fun z => (x && (y && z)) || okTr (funE (cfgS 41 (oRn 1 x) (cfgOf (tabPsq7b y z))) Tryz.f12 [] [.val true (rawL 0 10), .val true (rawL 10 4), .val true (rawL 14 4)])) = true := by kernel_rfl
theorem sumLims {x y u v : Rat} (h : LimQs 3 [x, y]) (k : LimQs 3 [u, v]) : LimQs 9 [x + u, y + v] := by
  have hx := h x (by simp)
  have hy := h y (by simp)
  have hu := k u (by simp)
  have hv := k v (by simp)
  have a1 := LimQ.addP (n := 9) hx.1 hx.2 hu.1 hu.2 (by omega) (by omega)
  have a2 := LimQ.addP (n := 9) hy.1 hy.2 hv.1 hv.2 (by omega) (by omega)
  intro q hq
  simp only [List.mem_cons, List.not_mem_nil, or_false] at hq
  rcases hq with rfl | rfl
  · exact ⟨a1.1, a1.2.mono (by omega)⟩
  · exact ⟨a2.1, a2.2.mono (by omega)⟩
theorem pointSquare_calls (w : World) (v u t : Value) (m1 m2 m3 : List RI) (h1 : RawN w v 5 m1) (h2 : RawN w u 2 m2) (h3 : RawN w t 2 m3) : Calls Tryz.prog 12 #[v, u, t] w (IsT w) := by
  by_cases hs : (pSm m1 && (vSm m2 && vSm m3)) = true
  · rw [Bool.and_eq_true, Bool.and_eq_true] at hs
    obtain ⟨p, hp, hv, lp⟩ := h1.pt hs.1
    obtain ⟨x, y, hu, lu⟩ := h2.vec hs.2.1
    obtain ⟨a, b, ht, lt⟩ := h3.vec hs.2.2
    obtain ⟨E, hE⟩ : ∃ E, E = qE (p.l ++ [x, y, a, b, sqA p x y, sqBB p x y, rC (sqBB p x y) p.c]) := ⟨_, rfl⟩
    have hQ : QEnv E := by rw [hE]; exact qE_ok _
    have rp : RepP E 0 p := by rw [hE]; exact qE_point p _
    have rx : RepQ E (qI 10) x := by rw [hE]; exact ⟨rfl, rfl⟩
    have ry : RepQ E (qI 12) y := by rw [hE]; exact ⟨rfl, rfl⟩
    have ra : RepQ E (qI 14) a := by rw [hE]; exact ⟨rfl, rfl⟩
    have rb : RepQ E (qI 16) b := by rw [hE]; exact ⟨rfl, rfl⟩
    have r1 : RepQ E (qI 18) (sqA p x y) := by rw [hE]; exact ⟨rfl, rfl⟩
    have r2 : RepQ E (qI 20) (sqBB p x y) := by rw [hE]; exact ⟨rfl, rfl⟩
    have r3 : RepQ E (qI 22) (rC (sqBB p x y) p.c) := by rw [hE]; exact ⟨rfl, rfl⟩
    have lS := sqL_lim lp (lu x (by simp)) (lu y (by simp))
    have p9 := lp.up (show 3 ≤ 9 by omega)
    have u9 := lu.up (show 3 ≤ 9 by omega)
    have res : ∀ {w : World} {z : Value}, IsQs w z (sqL p x y) → ∀ β, sqRes.holds E β w z := fun h β => (one_rt r1 r2 r3).2 ⟨qs_root h, lS.mono (by omega)⟩
    have rM : Reps E sqM (p.mv a b).l := ⟨rep_add rp.r1 ra, rp.r2, rep_add rp.r3 rb, rp.r4, rp.r5, trivial⟩
    have rV : Reps E sqV [x + a, y + b] := ⟨rep_add rx ra, rep_add ry rb, trivial⟩
    have lM : LimQs 9 (p.mv a b).l := mv_lims (lp.up (show 3 ≤ 4 by omega)) (lt a (by simp)) (lt b (by simp))
    obtain ⟨g1, g2⟩ := sgn_square hp x y
    obtain ⟨n, hn⟩ : ∃ n, n = sgN (sqA p x y) (sqBB p x y) (rC (sqBB p x y) p.c) := ⟨_, rfl⟩
    rw [← hn] at g1 g2
    have rn : n ∈ sgs := by rw [hn, sgN_sg2 (sqRd hp x y)]; obtain ⟨m, hm⟩ := exists_rt (sqRd hp x y).nonneg; exact sgs_mem (sqv2 (sqRd hp x y).nonneg hm).range
    have hat : PtQ.ok ⟨x, 0, y, 0, 0⟩ := RdP.mk (.inl ⟨rfl, rfl, rfl⟩)
    have lat : LimQs 9 (PtQ.mk x 0 y 0 0).l := LimQs.mk5 (p := ⟨x, 0, y, 0, 0⟩) (u9 x (by simp)) (LimQ.zero (by omega)) (u9 y (by simp)) (LimQ.zero (by omega)) (LimQ.zero (by omega))
    have hT : TabOK Tryz.prog E (tabPsq7 n (cmP p ⟨x, 0, y, 0, 0⟩)) := by
      refine .cons kAw7_ok <| .cons (kKr_ok (vecInt_known ⟨rx, ry, trivial⟩ lu) <| kKr_ok (vecInt_known ⟨ra, rb, trivial⟩ lt) (kNoQ_ok ⟨_, Tryz.func40, by decide +kernel, by kernel_rfl⟩)) <|
        .cons (kKr_ok (knownT (ls := [p.l, [x, y]]) ⟨rp.reps, ⟨rx, ry, trivial⟩, trivial⟩ (fun x off e => by cases e) fun w vs hv => ?_) <| kKr_ok (knownT (ls := [(p.mv a b).l, [x + a, y + b]]) ⟨rM, rV, trivial⟩ (fun x off e => by cases e) fun w vs hv => ?_) (kNoQ_ok ⟨_, Tryz.func58, by decide +kernel, by kernel_rfl⟩)) <|
        .cons (kKr_ok (knownT (ls := [p.l, [x, y]]) ⟨rp.reps, ⟨rx, ry, trivial⟩, trivial⟩ (fun x off e => by cases e) fun w vs hv => ?_) (kNoQ_ok ⟨_, Tryz.func60, by decide +kernel, by kernel_rfl⟩)) <|
        .cons kRSm_ok <| .cons (kKr_ok (knownT (ls := [[sqA p x y, sqBB p x y, rC (sqBB p x y) p.c]]) ⟨⟨r1, r2, r3, trivial⟩, trivial⟩ (fun x off e => by cases e) fun w vs hv => ?_) (kNoQ_ok ⟨_, Tryz.func59, by decide +kernel, by kernel_rfl⟩)) <|
        .cons (kKr_ok (knownT (ls := [p.l, (PtQ.mk x 0 y 0 0).l]) ⟨rp.reps, ⟨rx, rep_0, ry, rep_0, rep_0, trivial⟩, trivial⟩ (fun x off e => by cases e) fun w vs hv => ?_) (kNoQ_ok ⟨_, Tryz.func52, by decide +kernel, by kernel_rfl⟩)) (TabOK.app tabInt_ok (tabT_ok hQ))
      · obtain ⟨v, u, rfl, k1, k2⟩ := argsQ2 hv
        refine (psq_calls w v u p x y k1 k2 p9 u9).mono ?_
        rintro e w' ⟨z, rfl, hz, ex⟩
        exact ⟨z, rfl, res hz, ex⟩
      · obtain ⟨v, u, rfl, k1, k2⟩ := argsQ2 hv
        refine (psq_calls w v u (p.mv a b) (x + a) (y + b) k1 k2 lM (sumLims lu lt)).mono ?_
        rintro e w' ⟨z, rfl, hz, ex⟩
        rw [sqL_mv] at hz
        exact ⟨z, rfl, res hz, ex⟩
      · obtain ⟨v, u, rfl, k1, k2⟩ := argsQ2 hv
        refine (rsq_calls w v u p x y hp k1 k2 p9 u9).mono ?_
        rintro e w' ⟨z, rfl, hz, ex⟩
        exact ⟨z, rfl, res hz, ex⟩
      · obtain ⟨v, rfl, k1⟩ := argsQ1 hv
        refine (r_sign (sqRd hp x y) (qs_root k1) (lS.mono (by omega))).mono ?_
        rintro e w' ⟨rfl, ex⟩
        exact ⟨_, rfl, fun β => one_num.2 (by rw [hn]; rfl), ex⟩
      · obtain ⟨v, u, rfl, k1, k2⟩ := argsQ2 hv
        refine (pcmp_calls false w v u p _ hp hat k1 k2 p9 lat).mono ?_
        rintro e w' ⟨rfl, ex⟩
        exact ⟨_, rfl, fun β => one_num.2 rfl, ex⟩
    have hrow : RowSm E 41 (oTn 1 (tsP 0)) := oTn_ok (.inl rfl) (qs := p.l) rp.reps rfl (by
      rw [Bool.and_eq_true]
      exact ⟨pSm_pt hv lp hp, rfl⟩)
    have hW := List.all_eq_true.1 (List.all_eq_true.1 pq_walk n rn) (cmP p ⟨x, 0, y, 0, 0⟩) (cmP_range _ _)
    have hno : (n == -1 || ((n == 0) != (cmP p ⟨x, 0, y, 0, 0⟩ == 0))) = false := by
      rw [Bool.or_eq_false_iff]
      refine ⟨by rw [beq_eq_false_iff_ne]; omega, ?_⟩
      by_cases h : n = 0
      · rw [g2.1 h, h]; rfl
      · have h2 : cmP p ⟨x, 0, y, 0, 0⟩ ≠ 0 := fun k => h (g2.2 k)
        rw [beq_eq_false_iff_ne.2 h, beq_eq_false_iff_ne.2 h2]; rfl
    rw [hno, Bool.false_or] at hW
    have hC := cTr_ok (E := E) (cfg_ok hT) (fun _ => trivial)
    exact lawC_calls (cfgS_ok (cfgI_ok mixed hC hC (fun _ => trivial) (.cons Tryz.func61 (by decide +kernel) (by kernel_rfl) .nil)) hrow small7_body) (fun _ => trivial) no_asm Tryz.func12 (by decide +kernel) hW (by decide +kernel) rfl w [v, u, t] rfl (three_argsQ (pt_chunks rp hv lp) (qs2_chunks rx ry hu lu) (qs2_chunks ra rb ht lt))
  · obtain ⟨E, hE⟩ : ∃ E, E = rwE7 (fun k => if k < 10 then rawW m1 k else if k < 14 then rawW m2 (k - 10) else rawW m3 (k - 14)) := ⟨_, rfl⟩
    have hr1 : ∀ k, k < 10 → E.r (0 + k) = rawW m1 k := fun k hk => by
      rw [hE, Nat.zero_add]
      show (if k < 10 then _ else _) = _
      rw [if_pos hk]
    have hr2 : ∀ k, k < 4 → E.r (10 + k) = rawW m2 k := fun k hk => by
      rw [hE]
      show (if 10 + k < 10 then _ else if 10 + k < 14 then _ else _) = _
      rw [if_neg (by omega), if_pos (by omega), show 10 + k - 10 = k by omega]
    have hr3 : ∀ k, k < 4 → E.r (14 + k) = rawW m3 k := fun k hk => by
      rw [hE]
      show (if 14 + k < 10 then _ else if 14 + k < 14 then _ else _) = _
      rw [if_neg (by omega), if_neg (by omega), show 14 + k - 14 = k by omega]
    have hrow : RowSm E 41 (oRn 1 (pSm m1)) := oRn_ok (.inl rfl) (l := (List.range 10).map (rawW m1) ++ []) (fun k hk => by
      rw [take_row k hk, ← hr1 k hk, Nat.zero_add]) (by
      rw [take_row', pSm_norm]
      simp)
    have hW := List.all_eq_true.1 (List.all_eq_true.1 (List.all_eq_true.1 pq_bad (pSm m1) (bools_mem _)) (vSm m2) (bools_mem _)) (vSm m3) (bools_mem _)
    rw [Bool.or_eq_true] at hW
    have hT : TabOK Tryz.prog E (tabPsq7b (vSm m2) (vSm m3)) := .cons kAw7_ok <| .cons (kKr_ok (vecRaw_known hr2) <| kKr_ok (vecRaw_known hr3) (kNoQ_ok ⟨_, Tryz.func40, by decide +kernel, by kernel_rfl⟩)) .nil
    exact lawQ_calls (cfgS_ok (cfg_ok hT) hrow small7_body) (fun _ => trivial) no_asm Tryz.func12 (by decide +kernel) (hW.resolve_left hs) (by decide +kernel) rfl w [v, u, t] rfl (three_argsQ (raw_at h1 hr1) (raw_at h2 hr2) (raw_at h3 hr3))
end Go.Proofs.YtifeacfljfmnpaaGreat
end
