/-
  Texts of this seat, joined.
-/
import Derived.Test.YtllijnecmekfeaaGreatDoorD4
import Derived.Laws.FloatArith
import Derived.Laws.Externs
import Ieee.Arith
import Derived.Lay
import Derived.PinnedBridge
section
set_option maxRecDepth 100000
namespace Go.Proofs.YtllijnecmekfeaaGreatDoor
open Go.RowKit
noncomputable def tabB : List (Nat × Con) := (188, kSqI) :: (143, kSqRef) :: (73, kFlR) :: (66, kFlQ) :: (28, kIIb fun x y => .eq x y) :: (tabInt ++ (tabR2 ++ tabT))
theorem tabB_ok {E : Env} (hE : QEnv E) : TabOK Tryz.prog E tabB := by
  refine .cons kSqI_ok (.cons kSqRef_ok ?_)
  refine .cons (kFlR_ok hE) ?_ 
  exact .cons (kFlQ_ok hE) (.cons (kIIb_ok (fun x y => x == y) (fun _ _ => rfl) (fun w v1 v2 z1 z2 h1 h2 => (rsame_calls w v1 v2 z1 z2 h1 h2).mono (fun e w' h => ⟨by rw [h.1]; by_cases hz : z1 = z2 <;> simp [hz], h.2⟩)) ⟨_, Tryz.func28, by decide +kernel, by kernel_rfl⟩) (TabOK.app tabInt_ok (TabOK.app tabR2_ok (tabT_ok hE))))
noncomputable def pL1 : List (Nat × Func) := (187, Tryz.f187) :: (138, Tryz.f138) :: (136, Tryz.f136) :: (186, Tryz.f186) :: (139, Tryz.f139) :: (103, Tryz.f103) ::  (142, Tryz.f142) ::  []
noncomputable def pL2 : List (Nat × Func) := (137, Tryz.f137) :: (134, Tryz.f134) :: (140, Tryz.f140) :: (52, Tryz.f52) :: (147, Tryz.f147) :: []
noncomputable def pL3 : List (Nat × Func) := (135, Tryz.f135) :: (84, Tryz.f84) :: (102, Tryz.f102) :: []
theorem pL1_ok : InlOK Tryz.prog pL1 :=
  .cons Tryz.func187 (by decide +kernel) (by kernel_rfl) <|
  .cons Tryz.func138 (by decide +kernel) (by kernel_rfl) <|
  .cons Tryz.func136 (by decide +kernel) (by kernel_rfl) <|
  .cons Tryz.func186 (by decide +kernel) (by kernel_rfl) <|
  .cons Tryz.func139 (by decide +kernel) (by kernel_rfl) <|
  .cons Tryz.func103 (by decide +kernel) (by kernel_rfl) <|
  
  .cons Tryz.func142 (by decide +kernel) (by kernel_rfl) <|
   .nil
theorem pL2_ok : InlOK Tryz.prog pL2 :=
  .cons Tryz.func137 (by decide +kernel) (by kernel_rfl) <|
  .cons Tryz.func134 (by decide +kernel) (by kernel_rfl) <|
  .cons Tryz.func140 (by decide +kernel) (by kernel_rfl) <|
  .cons Tryz.func52 (by decide +kernel) (by kernel_rfl) <|
  .cons Tryz.func147 (by decide +kernel) (by kernel_rfl) <| .nil
theorem pL3_ok : InlOK Tryz.prog pL3 :=
  .cons Tryz.func135 (by decide +kernel) (by kernel_rfl) <|
  .cons Tryz.func84 (by decide +kernel) (by kernel_rfl) <|
  .cons Tryz.func102 (by decide +kernel) (by kernel_rfl) <| .nil
noncomputable def cR (tab : List (Nat × Con)) : Cfg := cfgT3 (tab ++ tabB) pL1 pL2 pL3
theorem cR_ok {E : Env} (hE : QEnv E) {tab : List (Nat × Con)} (h : TabOK Tryz.prog E tab) : CfgOK Tryz.prog E (cR tab) := cfgT3_ok mixed (TabOK.app h (tabB_ok hE)) pL1_ok pL2_ok pL3_ok
def aRl (i l : Nat) : AV := .val true (rt (qv i) (qv (i + 1)) (qv (i + 2)) l)
def aQl (i l : Nat) : AV := .val true [.int (qv i).1 l, .int (qv i).2 l]
def aR (i : Nat) : AV := aRl i 3000
theorem aRl_holds {l : List Rat} {β : Nat → Nat} {w : World} {v : Value} {i m : Nat} (h : IsRoot w v (l.getD i 0) (l.getD (i + 1) 0) (l.getD (i + 2) 0)) (k : LimR m (l.getD i 0) (l.getD (i + 1) 0) (l.getD (i + 2) 0)) : (aRl i m).holds (qE l) β w v := (one_rt rep_v rep_v rep_v).2 ⟨h, k⟩
theorem aQl_holds {l : List Rat} {β : Nat → Nat} {w : World} {v : Value} {i m : Nat} (h : IsRat w v (l.getD i 0)) (k : LimQ m (l.getD i 0)) : (aQl i m).holds (qE l) β w v := (one_q rep_v).2 ⟨h, k⟩
theorem aR_holds {l : List Rat} {β : Nat → Nat} {w : World} {v : Value} {i : Nat} (h : IsRoot w v (l.getD i 0) (l.getD (i + 1) 0) (l.getD (i + 2) 0)) (k : LimR 3000 (l.getD i 0) (l.getD (i + 1) 0) (l.getD (i + 2) 0)) : (aR i).holds (qE l) β w v := (one_rt rep_v rep_v rep_v).2 ⟨h, k⟩
theorem walk1 {f : Nat} {fn : Func} {tab : List (Nat × Con)} {T : Tree} {G : Asm} {x : AV} {l : List Rat} (hf : Tryz.prog.funcs[f]? = some fn) (h4 : fn.results.toList.length ≤ 4) (htab : TabOK Tryz.prog (qE l) tab) (hG : G.holds (qE l)) (hT : funE (cR tab) fn G [x] = some T) (hn : 1 ≤ fn.ntmps) (hnp : [x].all noPtr = true)
    (w : World) (v : Value) (hv : ∀ β, x.holds (qE l) β w v) : Calls Tryz.prog f #[v] w fun e w' => ∃ β y, e = .returned y ∧ (toAV (T.pick (qE l))).holds (qE l) β w' y ∧ Ext w w' := by
  refine fun_sound mixed (cR_ok (qE_ok _) htab) hG hf h4 hT hn hnp w [v] rfl ?_
  intro i y hy
  match i, hy with
  | 0, hy => injection hy with hy; subst hy; exact ⟨fun _ => 0, v, rfl, hv _⟩
theorem walk2 {f : Nat} {fn : Func} {tab : List (Nat × Con)} {T : Tree} {G : Asm} {x z : AV} {l : List Rat} (hf : Tryz.prog.funcs[f]? = some fn) (h4 : fn.results.toList.length ≤ 4) (htab : TabOK Tryz.prog (qE l) tab) (hG : G.holds (qE l)) (hT : funE (cR tab) fn G [x, z] = some T) (hn : 2 ≤ fn.ntmps) (hnp : [x, z].all noPtr = true)
    (w : World) (v u : Value) (hv : ∀ β, x.holds (qE l) β w v) (hu : ∀ β, z.holds (qE l) β w u) : Calls Tryz.prog f #[v, u] w fun e w' => ∃ β y, e = .returned y ∧ (toAV (T.pick (qE l))).holds (qE l) β w' y ∧ Ext w w' := by
  refine fun_sound mixed (cR_ok (qE_ok _) htab) hG hf h4 hT hn hnp w [v, u] rfl ?_
  intro i y hy
  match i, hy with
  | 0, hy => injection hy with hy; subst hy; exact ⟨fun _ => 0, v, rfl, hv _⟩
  | 1, hy => injection hy with hy; subst hy; exact ⟨fun _ => 0, u, rfl, hu _⟩
def q0 : IT2 := (.lit 0, .lit 1)
def zt (p : IT2) : BT := .eq (.a2 3 p.1 (.lit 0)) (.lit 0)
theorem zt_den {E : Env} {p : IT2} {q : Rat} (h : RepQ E p q) : (zt p).den E = decide (q = 0) := by
  show (cmpZ (p.1.den E) 0 == 0) = _
  rw [h.1, Bool.eq_iff_iff, beq_iff_eq, decide_eq_true_iff, ← Rat.num_eq_zero]
  rcases cmpZ_cases q.num 0 with ⟨h, e⟩ | ⟨h, e⟩ | ⟨h, e⟩ <;> rw [e] <;> omega
def rt6 (A B C : IT2) (l m k : Nat) : List Chunk := [.int A.1 l, .int A.2 l, .int B.1 m, .int B.2 m, .int C.1 k, .int C.2 k]
def lf (A B C : IT2) (l m k : Nat) : Tree := .leaf [(true, rt6 A B C l m k)]
def lf2 (A B C : IT2) (l m k : Nat) : Tree := .leaf [(true, rt6 A B C l m k), (false, [.n .i64 (.lit 0)])]
def bad6 (z : Int) : List (Bool × List Chunk) := [(true, [.int (.lit 0) 0, .int (.lit 0) 0, .int (.lit 0) 0, .int (.lit 0) 0, .int (.lit 0) 0, .int (.lit 0) 0]), (false, [.n .i64 (.lit z)])]
theorem lf_out {E : Env} {β : Nat → Nat} {w : World} {v : Value} {A B C : IT2} {a b c : Rat} {l m k : Nat} (hA : RepQ E A a) (hB : RepQ E B b) (hC : RepQ E C c) (h : (toAV ((lf A B C l m k).pick E)).holds E β w v) : IsRoot w v a b c := ((one_root hA hB hC).1 h).1
theorem lf2_out {E : Env} {β : Nat → Nat} {w : World} {v : Value} {A B C : IT2} {a b c : Rat} {l m k : Nat} (hA : RepQ E A a) (hB : RepQ E B b) (hC : RepQ E C c) (h : (toAV ((lf2 A B C l m k).pick E)).holds E β w v) : ∃ x, v = .tuple #[x, .int .i64 0] ∧ IsRoot w x a b c := by
  obtain ⟨vs, rfl, u1, r1, rfl, k1, u2, r2, rfl, k2, hn⟩ := h
  simp only [tupAll] at hn
  subst hn
  have k2' := one_num.1 k2
  subst k2'
  exact ⟨u1, rfl, ((one_root hA hB hC).1 k1).1⟩
def Zero6 (w : World) (v : Value) : Prop := ∀ E, one E w (true, [.int (.lit 0) 0, .int (.lit 0) 0, .int (.lit 0) 0, .int (.lit 0) 0, .int (.lit 0) 0, .int (.lit 0) 0]) v
theorem zero6_of {E : Env} {w : World} {v : Value} (h : one E w (true, [.int (.lit 0) 0, .int (.lit 0) 0, .int (.lit 0) 0, .int (.lit 0) 0, .int (.lit 0) 0, .int (.lit 0) 0]) v) : Zero6 w v := fun _ => h
theorem bad6_out {E : Env} {β : Nat → Nat} {w : World} {v : Value} {z : Int} (h : (toAV ((Tree.leaf (bad6 z)).pick E)).holds E β w v) : ∃ x, v = .tuple #[x, .int .i64 z] ∧ Zero6 w x := by
  obtain ⟨vs, rfl, u1, r1, rfl, k1, u2, r2, rfl, k2, hn⟩ := h
  simp only [tupAll] at hn
  subst hn
  have k2' := one_num.1 k2
  subst k2'
  exact ⟨u1, rfl, zero6_of k1⟩
section
variable {w : World} {v u : Value} {a b c a' b' c' k : Rat}
end
end Go.Proofs.YtllijnecmekfeaaGreatDoor
end

section
set_option maxRecDepth 100000
namespace Go.Proofs.YtllijnecmekfeaaGreatDoor
open Go.RowKit
def RetR (w : World) (ok : Prop) (err : Int) (p q r : Rat) (e : Ending) (w' : World) : Prop :=
  (ok → ∃ x, e = .returned (.tuple #[x, .int .i64 0]) ∧ IsRoot w' x p q r ∧ Ext w w') ∧ (¬ ok → ∃ x, e = .returned (.tuple #[x, .int .i64 err]) ∧ Zero6 w' x ∧ Ext w w')
theorem ite_pick {E : Env} {b : BT} {t e : Tree} {p : Bool} (h : b.den E = p) : (Tree.ite b t e).pick E = if p then t.pick E else e.pick E := by
  simp only [Tree.pick, h]
def endP (A B C : IT2) : Tree := .ite (zt B) (lf2 A q0 q0 12001 3 3) (lf2 A B C 12001 12001 3000)
theorem endP_out {E : Env} {β : Nat → Nat} {w : World} {v : Value} {A B C : IT2} {a b c : Rat} (hA : RepQ E A a) (hB : RepQ E B b) (hC : RepQ E C c) (h : (toAV ((endP A B C).pick E)).holds E β w v) : ∃ x, v = .tuple #[x, .int .i64 0] ∧ IsRoot w x a b (rC b c) := by
  unfold endP at h
  rw [ite_pick (zt_den hB)] at h
  by_cases hz : b = 0
  · rw [decide_eq_true hz, if_pos rfl] at h
    rw [hz, rC_zero]
    exact lf2_out hA rep_0 rep_0 h
  · rw [decide_eq_false hz, if_neg (by decide)] at h
    rw [rC_ne hz]
    exact lf2_out hA hB hC h
def eqPT : BT := .eq (.a2 3 (.var 4) (.var 10)) (.lit 0)
def eqPT2 : BT := .eq (.a2 3 (.var 5) (.var 11)) (.lit 0)
theorem cmp0 (x y : Int) : (cmpZ x y == 0) = decide (x = y) := by
  rw [Bool.eq_iff_iff, beq_iff_eq, decide_eq_true_iff]
  rcases cmpZ_cases x y with ⟨h, e⟩ | ⟨h, e⟩ | ⟨h, e⟩ <;> rw [e] <;> omega
theorem rat_eq_parts {c c' : Rat} : c = c' ↔ c.num = c'.num ∧ (c.den : Int) = (c'.den : Int) := ⟨fun h => by subst h; exact ⟨rfl, rfl⟩, fun h => Rat.ext h.1 (by have := h.2; omega)⟩
def comP (x y : Tree) : Tree := .ite (zt (qv 1)) y (.ite (zt (qv 4)) x (.ite eqPT (.ite eqPT2 x (.leaf (bad6 1))) (.leaf (bad6 1))))
section
variable {a b c a' b' c' : Rat} {x y : Tree} {E : Env} {β : Nat → Nat} {w w' : World} {v : Value}
theorem rep6 : RepQ (qE [a, b, c, a', b', c']) (qv 0) a ∧ RepQ (qE [a, b, c, a', b', c']) (qv 1) b ∧ RepQ (qE [a, b, c, a', b', c']) (qv 2) c ∧ RepQ (qE [a, b, c, a', b', c']) (qv 3) a' ∧ RepQ (qE [a, b, c, a', b', c']) (qv 4) b' ∧ RepQ (qE [a, b, c, a', b', c']) (qv 5) c' :=
  ⟨rep_v (i := 0), rep_v (i := 1), rep_v (i := 2), rep_v (i := 3), rep_v (i := 4), rep_v (i := 5)⟩
theorem comP_out (h : (toAV ((comP x y).pick (qE [a, b, c, a', b', c']))).holds (qE [a, b, c, a', b', c']) β w' v) :
    (Ok b c b' c' ∧ ((b = 0 ∧ (toAV (y.pick (qE [a, b, c, a', b', c']))).holds (qE [a, b, c, a', b', c']) β w' v) ∨ (b ≠ 0 ∧ (toAV (x.pick (qE [a, b, c, a', b', c']))).holds (qE [a, b, c, a', b', c']) β w' v))) ∨ (¬ Ok b c b' c' ∧ ∃ z, v = .tuple #[z, .int .i64 1] ∧ Zero6 w' z) := by
  obtain ⟨ra, rb, rc, ra', rb', rc'⟩ := rep6 (a := a) (b := b) (c := c) (a' := a') (b' := b') (c' := c')
  have e1 : eqPT.den (qE [a, b, c, a', b', c']) = decide (c.num = c'.num) := cmp0 _ _
  have e2 : eqPT2.den (qE [a, b, c, a', b', c']) = decide ((c.den : Int) = (c'.den : Int)) := cmp0 _ _
  unfold comP at h
  rw [ite_pick (zt_den rb), ite_pick (zt_den rb'), ite_pick e1, ite_pick e2] at h
  unfold Ok
  by_cases hb : b = 0
  · rw [decide_eq_true hb, if_pos rfl] at h
    exact .inl ⟨.inl hb, .inl ⟨hb, h⟩⟩
  · rw [decide_eq_false hb, if_neg (by decide)] at h
    by_cases hb' : b' = 0
    · rw [decide_eq_true hb', if_pos rfl] at h
      exact .inl ⟨.inr (.inl hb'), .inr ⟨hb, h⟩⟩
    · rw [decide_eq_false hb', if_neg (by decide)] at h
      by_cases h1 : c.num = c'.num
      · rw [decide_eq_true h1, if_pos rfl] at h
        by_cases h2 : (c.den : Int) = (c'.den : Int)
        · rw [decide_eq_true h2, if_pos rfl] at h
          exact .inl ⟨.inr (.inr (rat_eq_parts.2 ⟨h1, h2⟩)), .inr ⟨hb, h⟩⟩
        · rw [decide_eq_false h2, if_neg (by decide)] at h
          refine .inr ⟨?_, bad6_out h⟩
          rintro (k | k | k)
          · exact hb k
          · exact hb' k
          · exact h2 (rat_eq_parts.1 k).2
      · rw [decide_eq_false h1, if_neg (by decide)] at h
        refine .inr ⟨?_, bad6_out h⟩
        rintro (k | k | k)
        · exact hb k
        · exact hb' k
        · exact h1 (rat_eq_parts.1 k).1
end
theorem RetR.of {w : World} {ok : Prop} {err : Int} {p q r : Rat} {v : Value} {w' : World} (ex : Ext w w') (h : (ok ∧ ∃ x, v = .tuple #[x, .int .i64 0] ∧ IsRoot w' x p q r) ∨ (¬ ok ∧ ∃ z, v = .tuple #[z, .int .i64 err] ∧ Zero6 w' z)) : RetR w ok err p q r (.returned v) w' := by
  rcases h with ⟨h, x, rfl, hx⟩ | ⟨h, x, rfl, hx⟩
  · exact ⟨fun _ => ⟨x, rfl, hx, ex⟩, fun k => absurd h k⟩
  · exact ⟨fun k => absurd k h, fun _ => ⟨x, rfl, hx, ex⟩⟩
section
variable {w : World} {v u : Value} {a b c a' b' c' k : Rat}
theorem Rd.c0 (R : Rd b c) (h : b ≠ 0) : c ≠ 0 := by
  rcases R with ⟨rfl, _⟩ | ⟨_, h1, _⟩
  · exact absurd rfl h
  · grind
theorem p_add (h : IsRoot w v a b c) (hu : IsRoot w u a' b' c') (l : LimR 3000 a b c) (l' : LimR 3000 a' b' c') : Calls Tryz.prog 83 #[v, u] w (RetR w (Ok b c b' c') 1 (a + a') (b + b') (rC (b + b') (cm b c c'))) := by
  refine (walk2 (l := [a, b, c, a', b', c']) (tab := []) (x := aR 0) (z := aR 3) (T := comP (endP (qop 0 (qv 0) (qv 3)) (qop 0 (qv 1) (qv 4)) (qv 2)) (endP (qop 0 (qv 0) (qv 3)) (qop 0 (qv 1) (qv 4)) (qv 5)))
    Tryz.func83 (by decide +kernel) .nil no_asm (by kernel_rfl) (by decide +kernel) rfl w v u (fun _ => aR_holds h l) (fun _ => aR_holds hu l')).mono ?_
  rintro e w' ⟨β, y, rfl, hh, ex⟩
  obtain ⟨ra, rb, rc, ra', rb', rc'⟩ := rep6 (a := a) (b := b) (c := c) (a' := a') (b' := b') (c' := c')
  refine RetR.of ex ?_
  rcases comP_out hh with ⟨ho, ⟨hb, hh⟩ | ⟨hb, hh⟩⟩ | hno
  · refine .inl ⟨ho, ?_⟩
    rw [show cm b c c' = c' by rw [hb, cm_zero]]
    exact endP_out (rep_add ra ra') (rep_add rb rb') rc' hh
  · refine .inl ⟨ho, ?_⟩
    rw [cm_ne hb]
    exact endP_out (rep_add ra ra') (rep_add rb rb') rc hh
  · exact .inr hno
theorem p_neg (R : Rd b c) (h : IsRoot w v a b c) (l : LimR 3000 a b c) : Calls Tryz.prog 88 #[v] w (Ret (fun x w' => IsRoot w' x (-a) (-b) c) w) := by
  refine (walk1 (l := [a, b, c]) (tab := []) (x := aR 0) (T := .ite (zt (qng (qv 1))) (lf (qng (qv 0)) q0 q0 3000 3 3) (lf (qng (qv 0)) (qng (qv 1)) (qv 2) 3000 3000 3000))
    Tryz.func88 (by decide +kernel) .nil no_asm (by kernel_rfl) (by decide +kernel) rfl w v (fun _ => aR_holds h l)).mono ?_
  rintro e w' ⟨β, y, rfl, hh, ex⟩
  have ra : RepQ (qE [a, b, c]) (qv 0) a := rep_v (i := 0)
  have rb : RepQ (qE [a, b, c]) (qv 1) b := rep_v (i := 1)
  have rc : RepQ (qE [a, b, c]) (qv 2) c := rep_v (i := 2)
  refine ⟨y, rfl, ?_, ex⟩
  rw [ite_pick (zt_den (rep_ng rb))] at hh
  by_cases hz : -b = 0
  · rw [decide_eq_true hz, if_pos rfl] at hh
    have hb : b = 0 := by grind
    have hc : c = 0 := by
      rcases R with ⟨_, h⟩ | ⟨h, _⟩
      · exact h
      · exact absurd hb h
    rw [hz, hc]
    exact lf_out (rep_ng ra) rep_0 rep_0 hh
  · rw [decide_eq_false hz, if_neg (by decide)] at hh
    exact lf_out (rep_ng ra) (rep_ng rb) rc hh
theorem r_neg (h : IsRoot w v a b c) (l : LimR 3000 a b c) : Calls Tryz.prog 36 #[v] w (Ret (fun x w' => IsRoot w' x (-a) (-b) c) w) := by
  refine (walk1 (l := [a, b, c]) (tab := []) (x := aR 0) (T := lf (qng (qv 0)) (qng (qv 1)) (qv 2) 3000 3000 3000)
    Tryz.func36 (by decide +kernel) .nil no_asm (by kernel_rfl) (by decide +kernel) rfl w v (fun _ => aR_holds h l)).mono ?_
  rintro e w' ⟨β, y, rfl, hh, ex⟩
  have ra : RepQ (qE [a, b, c]) (qv 0) a := rep_v (i := 0)
  have rb : RepQ (qE [a, b, c]) (qv 1) b := rep_v (i := 1)
  have rc : RepQ (qE [a, b, c]) (qv 2) c := rep_v (i := 2)
  exact ⟨y, rfl, lf_out (rep_ng ra) (rep_ng rb) rc hh, ex⟩
def lfN (t : IT) : Tree := .leaf [(false, [.n .i64 t])]
theorem lfN_out {E : Env} {β : Nat → Nat} {w : World} {v : Value} {t : IT} (h : (toAV ((lfN t).pick E)).holds E β w v) : v = .int .i64 (t.den E) := one_num.1 h
def sgt (p : IT2) : IT := .a2 3 p.1 (.lit 0)
theorem sgt_den {E : Env} {p : IT2} {q : Rat} (h : RepQ E p q) : (sgt p).den E = sgQ q := by
  show cmpZ (p.1.den E) 0 = _
  rw [h.1]; rfl
theorem r_sign (R : Rd b c) (h : IsRoot w v a b c) (l : LimR 3000 a b c) : Calls Tryz.prog 92 #[v] w fun e w' => e = .returned (.int .i64 (sgN a b c)) ∧ Ext w w' := by
  refine (walk1 (l := [a, b, c]) (tab := []) (x := aR 0) (T := .ite (.eq (sgt (qv 0)) (sgt (qv 1))) (lfN (sgt (qv 0))) (.ite (zt (qv 1)) (lfN (sgt (qv 0))) (.ite (zt (qv 0)) (lfN (sgt (qv 1))) (.ite (.lt (.lit 0) (sgt (qop 1 (qop 2 (qv 0) (qv 0)) (qop 2 (qop 2 (qv 1) (qv 1)) (qv 2))))) (lfN (sgt (qv 0))) (lfN (sgt (qv 1)))))))
    Tryz.func92 (by decide +kernel) .nil no_asm (by kernel_rfl) (by decide +kernel) rfl w v (fun _ => aR_holds h l)).mono ?_
  rintro e w' ⟨β, y, rfl, hh, ex⟩
  have ra : RepQ (qE [a, b, c]) (qv 0) a := rep_v (i := 0)
  have rb : RepQ (qE [a, b, c]) (qv 1) b := rep_v (i := 1)
  have rc : RepQ (qE [a, b, c]) (qv 2) c := rep_v (i := 2)
  have e1 : (BT.eq (sgt (qv 0)) (sgt (qv 1))).den (qE [a, b, c]) = decide (sgQ a = sgQ b) := by
    show ((sgt (qv 0)).den (qE [a, b, c]) == (sgt (qv 1)).den (qE [a, b, c])) = _
    rw [sgt_den ra, sgt_den rb, Bool.eq_iff_iff, beq_iff_eq, decide_eq_true_iff]
  have e2 : (BT.lt (.lit 0) (sgt (qop 1 (qop 2 (qv 0) (qv 0)) (qop 2 (qop 2 (qv 1) (qv 1)) (qv 2))))).den (qE [a, b, c]) = decide (0 < nrm a b c) := by
    show decide (0 < (sgt _).den (qE [a, b, c])) = _
    rw [sgt_den (rep_sub (rep_mul ra ra) (rep_mul (rep_mul rb rb) rc)), Bool.eq_iff_iff, decide_eq_true_iff, decide_eq_true_iff]
    show 0 < sgQ (nrm a b c) ↔ _
    rcases sgQ_cases (nrm a b c) with ⟨k, e⟩ | ⟨k, e⟩ | ⟨k, e⟩ <;> rw [e] <;> constructor <;> intro j <;> first | omega | grind
  rw [ite_pick e1, ite_pick (zt_den rb), ite_pick (zt_den ra), ite_pick e2] at hh
  refine ⟨?_, ex⟩
  have c1 := sgQ_cases a
  have c2 := sgQ_cases b
  have s0 : b = 0 → sgN a b c = sgQ a := by
    intro hb
    have hc : c = 0 := by
      rcases R with ⟨_, h⟩ | ⟨h, _⟩
      · exact h
      · exact absurd hb h
    subst hb hc
    by_cases ha : a = 0
    · subst ha; rw [sgN_zero (by unfold nrm; grind)]; rfl
    · rw [sgN_pos (by have := sq_pos ha; unfold nrm; grind)]
  by_cases hab : sgQ a = sgQ b
  · rw [decide_eq_true hab, if_pos rfl] at hh
    rw [lfN_out hh, sgt_den ra]
    by_cases hb : b = 0
    · rw [s0 hb]
    · have hne : nrm a b c ≠ 0 := fun e => hb (nrm_ne R e).2
      rcases (by grind : nrm a b c < 0 ∨ 0 < nrm a b c) with n | n
      · rw [sgN_neg n, hab]
      · rw [sgN_pos n]
  · rw [decide_eq_false hab, if_neg (by decide)] at hh
    by_cases hb : b = 0
    · rw [decide_eq_true hb, if_pos rfl] at hh
      rw [lfN_out hh, sgt_den ra, s0 hb]
    · rw [decide_eq_false hb, if_neg (by decide)] at hh
      have hne : nrm a b c ≠ 0 := fun e => hb (nrm_ne R e).2
      by_cases ha : a = 0
      · rw [decide_eq_true ha, if_pos rfl] at hh
        rw [lfN_out hh, sgt_den rb]
        have n : nrm a b c < 0 := by
          rcases R with ⟨h, _⟩ | ⟨_, hc, _⟩
          · exact absurd h hb
          · have := Rat.mul_pos (sq_pos hb) hc
            unfold nrm
            rw [ha]
            grind
        rw [sgN_neg n]
      · rw [decide_eq_false ha, if_neg (by decide)] at hh
        by_cases n : 0 < nrm a b c
        · rw [decide_eq_true n, if_pos rfl] at hh
          rw [lfN_out hh, sgt_den ra, sgN_pos n]
        · rw [decide_eq_false n, if_neg (by decide)] at hh
          rw [lfN_out hh, sgt_den rb, sgN_neg (by grind)]
end
end Go.Proofs.YtllijnecmekfeaaGreatDoor
end

section
set_option maxRecDepth 100000
namespace Go.Proofs.YtllijnecmekfeaaGreatDoor
open Go.RowKit
def rdA (rd : Bool) (G : Asm) (B C : IT2) : Bool := !rd || (rdT B C).ev G == some true
theorem rdA_spec {E : Env} {G : Asm} (hG : G.holds E) {B C : IT2} {b c : Rat} (hB : RepQ E B b) (hC : RepQ E C c) {rd : Bool} (h : rdA rd G B C = true) : rd = true → Rd b c := by
  intro hr
  subst hr
  exact rdT_spec hG hB hC (by simpa [rdA] using h)
def kRNg (rd : Bool) : Con
  | [x], G => match rtOf x with
    | some ((A, B, C), m) => if rdA rd G B C && decide (m ≤ 3000) then some (.val true (rt (qng A) (qng B) C m)) else none
    | _ => none
  | _, _ => none
theorem kRNg_ok {E : Env} (hE : QEnv E) {f : Nat} {rd : Bool} (hc : ∀ (w : World) (v : Value) (a b c : Rat), (rd = true → Rd b c) → IsRoot w v a b c → LimR 3000 a b c → Calls Tryz.prog f #[v] w (Ret (fun x w' => IsRoot w' x (-a) (-b) c) w))
    (hb : ∃ fn, Tryz.prog.funcs[f]? = some fn ∧ fn.name ≠ "runtime.NumGoroutine" ∧ fn.body.isNone = false) : ConOK Tryz.prog E f (kRNg rd) := by
  refine ⟨?_, ?_, hb⟩
  · intro args G r h hG β w vs hv hlen
    unfold kRNg at h
    split at h
    · split at h
      · rename_i x A B C m hx
        split at h
        · rename_i hcd
          simp only [Bool.and_eq_true, decide_eq_true_iff] at hcd
          injection h with h
          subst h
          obtain ⟨v, rfl, h1⟩ := args1 hv hlen
          obtain ⟨a, b, c, ra, rb, rc, ir, lr⟩ := rtOf_spec hE hx h1
          refine (hc w v a b c (rdA_spec hG rb rc hcd.1) ir (lr.mono hcd.2)).mono ?_
          rintro e w' ⟨x', rfl, hr, ex⟩
          exact ⟨x', rfl, (one_rt (rep_ng ra) (rep_ng rb) rc).2 ⟨hr, lr.1.negQ, lr.2.1.negQ, lr.2.2⟩, ex⟩
        · cases h
      · cases h
    · cases h
  · intro args G r h x off
    unfold kRNg at h
    split at h
    · split at h
      · split at h
        · injection h with h; subst h; intro e; cases e
        · cases h
      · cases h
    · cases h
def sgnT (A B C : IT2) : IT := (qop 8 A (qop 7 B C)).1
theorem sgnT_den {E : Env} {A B C : IT2} {a b c : Rat} (hA : RepQ E A a) (hB : RepQ E B b) (hC : RepQ E C c) (R : Rd b c) : (sgnT A B C).den E = sgN a b c := by
  have r : RepQ E (qop 8 A (qop 7 B C)) (ratF 8 a (sq2 b c)) := rep_op (f := 8) (by omega) hA (rep_sq2 hB hC)
  show (qop 8 A (qop 7 B C)).1.den E = _
  rw [r.1]
  show ((sgS a (sq2 b c) : Int) : Rat).num = _
  rw [Rat.num_intCast, sgS_sgN R]
def kRSg : Con
  | [x], G => match rtOf x with
    | some ((A, B, C), m) => if rdA true G B C && decide (m ≤ 3000) then some (.val false [.n .i64 (sgnT A B C)]) else none
    | _ => none
  | _, _ => none
theorem kRSg_ok {E : Env} (hE : QEnv E) {f : Nat} (hc : ∀ (w : World) (v : Value) (a b c : Rat), Rd b c → IsRoot w v a b c → LimR 3000 a b c → Calls Tryz.prog f #[v] w fun e w' => e = .returned (.int .i64 (sgN a b c)) ∧ Ext w w')
    (hb : ∃ fn, Tryz.prog.funcs[f]? = some fn ∧ fn.name ≠ "runtime.NumGoroutine" ∧ fn.body.isNone = false) : ConOK Tryz.prog E f kRSg := by
  refine ⟨?_, ?_, hb⟩
  · intro args G r h hG β w vs hv hlen
    unfold kRSg at h
    split at h
    · split at h
      · rename_i x A B C m hx
        split at h
        · rename_i hcd
          simp only [Bool.and_eq_true, decide_eq_true_iff] at hcd
          injection h with h
          subst h
          obtain ⟨v, rfl, h1⟩ := args1 hv hlen
          obtain ⟨a, b, c, ra, rb, rc, ir, lr⟩ := rtOf_spec hE hx h1
          have R := rdA_spec hG rb rc hcd.1 rfl
          refine (hc w v a b c R ir (lr.mono hcd.2)).mono ?_
          rintro e w' ⟨rfl, ex⟩
          exact ⟨_, rfl, one_num.2 (by rw [sgnT_den ra rb rc R]), ex⟩
        · cases h
      · cases h
    · cases h
  · intro args G r h x off
    unfold kRSg at h
    split at h
    · split at h
      · split at h
        · injection h with h; subst h; intro e; cases e
        · cases h
      · cases h
    · cases h
def kRR (rd : Bool) (p q : IT2 × IT2 × IT2 → IT2 × IT2 × IT2 → IT2) (g : Nat → Nat) : Con
  | [x, y], G => match rtOf x, rtOf y with
    | some ((A, B, C), m), some ((A', B', C'), j) => if rdA rd G B C && (rdA rd G B' C' && (decide (m ≤ 3000) && decide (j ≤ 3000))) then
        match (nokT B C B' C').ev G with
        | some false => some (.tup [(true, rt (p (A, B, C) (A', B', C')) (q (A, B, C) (A', B', C')) (qop 5 (q (A, B, C) (A', B', C')) (cmT B C C')) (g (max m j))), (false, [.n .i64 (.lit 0)])])
        | some true => some (.tup (bad6 1))
        | none => none
      else none
    | _, _ => none
  | _, _ => none
theorem kRR_ok {E : Env} (hE : QEnv E) {f : Nat} {rd : Bool} {p q : IT2 × IT2 × IT2 → IT2 × IT2 × IT2 → IT2} {g : Nat → Nat} (P Q : Rat → Rat → Rat → Rat → Rat → Rat → Rat)
    (hp : ∀ A B C A' B' C' a b c a' b' c', RepQ E A a → RepQ E B b → RepQ E C c → RepQ E A' a' → RepQ E B' b' → RepQ E C' c' → RepQ E (p (A, B, C) (A', B', C')) (P a b c a' b' c') ∧ RepQ E (q (A, B, C) (A', B', C')) (Q a b c a' b' c'))
    (hg : ∀ m a b c a' b' c', LimR m a b c → LimR m a' b' c' → LimQ (g m) (P a b c a' b' c') ∧ LimQ (g m) (Q a b c a' b' c')) (hm : ∀ m, m ≤ g m ∧ 1 ≤ g m)
    (hc : ∀ (w : World) (v u : Value) (a b c a' b' c' : Rat), (rd = true → Rd b c) → (rd = true → Rd b' c') → IsRoot w v a b c → IsRoot w u a' b' c' → LimR 3000 a b c → LimR 3000 a' b' c' → Calls Tryz.prog f #[v, u] w (RetR w (Ok b c b' c') 1 (P a b c a' b' c') (Q a b c a' b' c') (rC (Q a b c a' b' c') (cm b c c'))))
    (hb : ∃ fn, Tryz.prog.funcs[f]? = some fn ∧ fn.name ≠ "runtime.NumGoroutine" ∧ fn.body.isNone = false) : ConOK Tryz.prog E f (kRR rd p q g) := by
  refine ⟨?_, ?_, hb⟩
  · intro args G r h hG β w vs hv hlen
    unfold kRR at h
    split at h
    · split at h
      · rename_i x y A B C m A' B' C' j hx hy
        split at h
        · rename_i hcd
          simp only [Bool.and_eq_true, decide_eq_true_iff] at hcd
          obtain ⟨v, u, rfl, h1, h2⟩ := args2 hv hlen
          obtain ⟨a, b, c, ra, rb, rc, ir, lr⟩ := rtOf_spec hE hx h1
          obtain ⟨a', b', c', ra', rb', rc', ir', lr'⟩ := rtOf_spec hE hy h2
          have key := hc w v u a b c a' b' c' (rdA_spec hG rb rc hcd.1) (rdA_spec hG rb' rc' hcd.2.1) ir ir' (lr.mono hcd.2.2.1) (lr'.mono hcd.2.2.2)
          split at h
          · rename_i ho
            have hok : Ok b c b' c' := (nokT_den rb rc rb' rc').1 (BT.ev_spec hG ho)
            injection h with h
            subst h
            refine key.mono ?_
            rintro e w' ⟨k1, _⟩
            obtain ⟨x', rfl, hr, ex⟩ := k1 hok
            have l1 := lr.mono (Nat.le_max_left m j)
            have l2 := lr'.mono (Nat.le_max_right m j)
            obtain ⟨r1, r2⟩ := hp A B C A' B' C' a b c a' b' c' ra rb rc ra' rb' rc'
            obtain ⟨g1, g2⟩ := hg _ a b c a' b' c' l1 l2
            have hmm := hm (max m j)
            exact ⟨_, rfl, ⟨[x', .int .i64 0], rfl, x', _, rfl, (one_rt r1 r2 (rep_rC r2 (rep_cm rb rc rc'))).2 ⟨hr, g1, g2, LimQ.rC ((LimQ.cm l1.2.2 l2.2.2).mono hmm.1) hmm.2⟩, _, _, rfl, one_num.2 rfl, rfl⟩, ex⟩
          · rename_i ho
            have hok : ¬ Ok b c b' c' := fun k => by
              have := BT.ev_spec hG ho
              rw [(nokT_den rb rc rb' rc').2 k] at this
              cases this
            injection h with h
            subst h
            refine key.mono ?_
            rintro e w' ⟨_, k1⟩
            obtain ⟨x', rfl, hr, ex⟩ := k1 hok
            exact ⟨_, rfl, ⟨[x', .int .i64 1], rfl, x', _, rfl, hr E, _, _, rfl, one_num.2 rfl, rfl⟩, ex⟩
          · cases h
        · cases h
      · cases h
    · cases h
  · intro args G r h x off
    unfold kRR at h
    split at h
    · split at h
      · split at h
        · split at h
          · injection h with h; subst h; intro e; cases e
          · injection h with h; subst h; intro e; cases e
          · cases h
        · cases h
      · cases h
    · cases h
def addA (r s : IT2 × IT2 × IT2) : IT2 := qop 0 r.1 s.1
def addB (r s : IT2 × IT2 × IT2) : IT2 := qop 0 r.2.1 s.2.1
def kRAd (rd : Bool) : Con := kRR rd addA addB (fun m => 4 * m + 1)
theorem kRAd_ok {E : Env} (hE : QEnv E) {f : Nat} {rd : Bool}
    (hc : ∀ (w : World) (v u : Value) (a b c a' b' c' : Rat), (rd = true → Rd b c) → (rd = true → Rd b' c') → IsRoot w v a b c → IsRoot w u a' b' c' → LimR 3000 a b c → LimR 3000 a' b' c' → Calls Tryz.prog f #[v, u] w (RetR w (Ok b c b' c') 1 (a + a') (b + b') (rC (b + b') (cm b c c'))))
    (hb : ∃ fn, Tryz.prog.funcs[f]? = some fn ∧ fn.name ≠ "runtime.NumGoroutine" ∧ fn.body.isNone = false) : ConOK Tryz.prog E f (kRAd rd) :=
  kRR_ok hE (fun a _ _ a' _ _ => a + a') (fun _ b _ _ b' _ => b + b') (fun _ _ _ _ _ _ _ _ _ _ _ _ ra rb _ ra' rb' _ => ⟨rep_add ra ra', rep_add rb rb'⟩) (fun _ _ _ _ _ _ _ l l' => ⟨l.1.addQ l'.1, l.2.1.addQ l'.2.1⟩) (fun m => ⟨by omega, by omega⟩) hc hb
end Go.Proofs.YtllijnecmekfeaaGreatDoor
end

section
set_option maxRecDepth 100000
namespace Go.Proofs.YtllijnecmekfeaaGreatDoor
open Go.RowKit
section
variable {a b c a' b' c' : Rat} {x x' y : Tree} {β : Nat → Nat} {w w' : World} {v u : Value}
end
end Go.Proofs.YtllijnecmekfeaaGreatDoor
end

section
set_option maxRecDepth 100000
namespace Go.Proofs.YtllijnecmekfeaaGreatDoor
open Go.RowKit
section
variable {w : World} {v u : Value} {a b c : Rat}
theorem rep3 : RepQ (qE [a, b, c]) (qv 0) a ∧ RepQ (qE [a, b, c]) (qv 1) b ∧ RepQ (qE [a, b, c]) (qv 2) c := ⟨rep_v (i := 0), rep_v (i := 1), rep_v (i := 2)⟩
def flN (a b c : Rat) : Int := flS a (sq2 b c)
theorem num_den (q : Rat) : q * ((q.den : Int) : Rat) = (q.num : Rat) := by
  have h := Rat.num_divInt_den q
  have hd : ((q.den : Int) : Rat) ≠ 0 := fun e => by
    have := Rat.intCast_eq_zero_iff.1 e
    have := q.den_pos
    omega
  have h2 : q = (q.num : Rat) / ((q.den : Int) : Rat) := by rw [← Rat.divInt_eq_div, h]
  have := Rat.div_mul_cancel (a := (q.num : Rat)) hd
  rw [← h2] at this
  exact this
theorem den_posI (q : Rat) : (0 : Int) < (q.den : Int) := by have := q.den_pos; omega
theorem flN_spec (R : Rd b c) : IsFl a b c (flN a b c) := by
  unfold flN flS
  rcases R with ⟨rfl, rfl⟩ | ⟨hb, hc, hs⟩
  · have e : sq2 0 0 = 0 := by unfold sq2; rw [if_neg (by decide)]; grind
    rw [e, if_pos (show (0 : Rat).num = 0 from rfl), dq_pos (den_posI a), ← Rat.floor_def]
    exact IsFl.zero
  · have hbc := Rat.mul_pos (sq_pos hb) hc
    have hnz : (sq2 b c).num ≠ 0 := by
      rw [ne_eq, Rat.num_eq_zero]
      unfold sq2
      split <;> grind
    rw [if_neg hnz]
    have hn := num_pos_iff b
    have hbn : (sq2 b c).num < 0 ↔ b < 0 := by
      have h1 := num_pos_iff (sq2 b c)
      have h2 := num_pos_iff (b * b * c)
      have hn2 : b.num = 0 ↔ b = 0 := Rat.num_eq_zero
      unfold sq2 at *
      by_cases h : b.num < 0
      · rw [if_pos h] at *
        rw [Rat.neg_num]
        have := h2.2 hbc
        constructor
        · intro _; grind
        · intro _; omega
      · rw [if_neg h] at *
        have := h2.2 hbc
        constructor
        · intro k; omega
        · intro k; grind
    have habs : ((sq2 b c).num.natAbs : Int) = (b * b * c).num ∧ ((sq2 b c).den : Int) = ((b * b * c).den : Int) := by
      have := (num_pos_iff (b * b * c)).2 hbc
      unfold sq2
      split
      · rw [Rat.neg_num, Rat.neg_den]; omega
      · exact ⟨by omega, rfl⟩
    rw [habs.1, habs.2]
    have e : (if (sq2 b c).num < 0 then -(isq ((b * b * c).num * ((b * b * c).den : Int) * ((a.den : Int) * (a.den : Int))) + 1) else isq ((b * b * c).num * ((b * b * c).den : Int) * ((a.den : Int) * (a.den : Int)))) = (if b < 0 then -(isq ((b * b * c).num * ((b * b * c).den : Int) * ((a.den : Int) * (a.den : Int))) + 1) else isq ((b * b * c).num * ((b * b * c).den : Int) * ((a.den : Int) * (a.den : Int)))) := by
      by_cases h : b < 0
      · rw [if_pos h, if_pos (hbn.2 h)]
      · rw [if_neg h, if_neg (fun k => h (hbn.1 k))]
    rw [e]
    have ea := num_den a
    have es := num_den (b * b * c)
    refine fl_spec hb hc hs (Int.mul_pos (den_posI a) (den_posI _)) ?_ ?_
    · simp only [castQ_mul]
      rw [← ea]; grind
    · simp only [castQ_mul]
      rw [← es]; grind
def flX : IT := .a2 2 (.var 0) (.a2 2 (.var 3) (.var 5))
def flD : IT := .a2 2 (.var 1) (.a2 2 (.var 3) (.var 5))
def flY : IT := .a2 2 (.a2 2 (.a2 2 (.var 2) (.var 1)) (.a2 2 (.var 2) (.var 1))) (.a2 2 (.var 4) (.var 5))
def lfI (t : IT) (l : Nat) : Tree := .leaf [(true, [.int t l])]
theorem lfI_out {E : Env} {β : Nat → Nat} {w : World} {v : Value} {t : IT} {l : Nat} (h : (toAV ((lfI t l).pick E)).holds E β w v) : IsInt w v (t.den E) ∧ Lim l (t.den E) := one_int.1 h
theorem ltz_den {E : Env} {p : IT2} {q : Rat} (h : RepQ E p q) : (BT.lt (sgt p) (.lit 0)).den E = decide (q < 0) := by
  show decide ((sgt p).den E < 0) = _
  rw [sgt_den h, Bool.eq_iff_iff, decide_eq_true_iff, decide_eq_true_iff]
  rcases sgQ_cases q with ⟨k, e⟩ | ⟨k, e⟩ | ⟨k, e⟩ <;> rw [e] <;> constructor <;> intro j <;> first | omega | grind
theorem fl0 (R : Rd b c) (hb : b = 0) : flN a b c = a.floor := by
  have hc : c = 0 := by
    rcases R with ⟨_, hc⟩ | ⟨hb', _⟩
    · exact hc
    · exact absurd hb hb'
  subst hb hc
  exact (flN_spec R).unique R IsFl.zero
theorem p_floor (R : Rd b c) (h : IsRoot w v a b c) (l : LimR 400 a b c) : Calls Tryz.prog 85 #[v] w (Ret (fun x w' => IsInt w' x (flN a b c) ∧ Lim 9000 (flN a b c)) w) := by
  obtain ⟨ra, rb, rc⟩ := rep3 (a := a) (b := b) (c := c)
  refine (walk1 (l := [a, b, c]) (tab := []) (x := aRl 0 400) (T := .ite (zt (qv 1)) (lfI (.a2 4 (.var 0) (.var 1)) 400) (.ite (.lt (sgt (qv 1)) (.lit 0)) (lfI (.a2 4 (.a2 0 flX (.a2 1 (.lit (-1)) (.a1 2 flY))) flD) 2402) (lfI (.a2 4 (.a2 0 flX (.a1 2 flY)) flD) 2401)))
    Tryz.func85 (by decide +kernel) .nil no_asm (by kernel_rfl) (by decide +kernel) rfl w v (fun _ => aRl_holds h l)).mono ?_
  rintro e w' ⟨β, y, rfl, hh, ex⟩
  refine ⟨y, rfl, ?_, ex⟩
  rw [ite_pick (zt_den rb), ite_pick (ltz_den rb)] at hh
  by_cases hb : b = 0
  · rw [decide_eq_true hb, if_pos rfl] at hh
    obtain ⟨k1, k2⟩ := lfI_out hh
    have e1 : (IT.a2 4 (.var 0) (.var 1)).den (qE [a, b, c]) = flN a b c := by
      rw [fl0 R hb]
      show dq a.num (a.den : Int) = _
      rw [dq_pos (den_posI a), ← Rat.floor_def]
    rw [e1] at k1 k2
    exact ⟨k1, k2.mono (by omega)⟩
  · rw [decide_eq_false hb, if_neg (by decide)] at hh
    obtain ⟨hc, hs⟩ : 0 < c ∧ ∀ q : Rat, q * q ≠ c := by
      rcases R with ⟨hb', _⟩ | ⟨_, h⟩
      · exact absurd hb' hb
      · exact h
    have ea := num_den a
    have eb := num_den b
    have ec := num_den c
    have key := fl_spec (a := a) (b := b) (c := c) (x := a.num * ((b.den : Int) * (c.den : Int))) (D := (a.den : Int) * ((b.den : Int) * (c.den : Int))) (Y := b.num * (a.den : Int) * (b.num * (a.den : Int)) * (c.num * (c.den : Int))) hb hc hs (Int.mul_pos (den_posI a) (Int.mul_pos (den_posI b) (den_posI c)))
      (by simp only [castQ_mul]; rw [← ea]; grind) (by simp only [castQ_mul]; rw [← eb, ← ec]; grind)
    have hu := key.unique R (flN_spec R)
    by_cases hn : b < 0
    · rw [decide_eq_true hn, if_pos rfl] at hh
      obtain ⟨k1, k2⟩ := lfI_out hh
      rw [if_pos hn] at hu
      have e1 : (IT.a2 4 (.a2 0 flX (.a2 1 (.lit (-1)) (.a1 2 flY))) flD).den (qE [a, b, c]) = flN a b c := by
        rw [← hu]
        show dq (a.num * ((b.den : Int) * (c.den : Int)) + (-1 - isq (b.num * (a.den : Int) * (b.num * (a.den : Int)) * (c.num * (c.den : Int))))) ((a.den : Int) * ((b.den : Int) * (c.den : Int))) = _
        congr 2
        omega
      rw [e1] at k1 k2
      exact ⟨k1, k2.mono (by omega)⟩
    · rw [decide_eq_false hn, if_neg (by decide)] at hh
      obtain ⟨k1, k2⟩ := lfI_out hh
      rw [if_neg hn] at hu
      have e1 : (IT.a2 4 (.a2 0 flX (.a1 2 flY)) flD).den (qE [a, b, c]) = flN a b c := hu
      rw [e1] at k1 k2
      exact ⟨k1, k2.mono (by omega)⟩
def flM : IT2 := qop 2 (qop 2 (qv 1) (qv 1)) (qv 2)
def flX2 : IT := .a2 2 (.var 0) flM.2
def flD2 : IT := .a2 2 (.var 1) flM.2
def flY2 : IT := .a2 2 (.a2 2 flM.1 flM.2) (.a2 2 (.var 1) (.var 1))
theorem r_floor (R : Rd b c) (h : IsRoot w v a b c) (l : LimR 400 a b c) : Calls Tryz.prog 86 #[v] w (Ret (fun x w' => IsInt w' x (flN a b c) ∧ Lim 9000 (flN a b c)) w) := by
  obtain ⟨ra, rb, rc⟩ := rep3 (a := a) (b := b) (c := c)
  refine (walk1 (l := [a, b, c]) (tab := []) (x := aRl 0 400) (T := .ite (zt (qv 1)) (lfI (.a2 4 (.var 0) (.var 1)) 400) (.ite (.lt (sgt (qv 1)) (.lit 0)) (lfI (.a2 4 (.a2 0 flX2 (.a1 0 (.a2 0 (.a1 2 flY2) (.lit 1)))) flD2) 8808) (lfI (.a2 4 (.a2 0 flX2 (.a1 2 flY2)) flD2) 8807)))
    Tryz.func86 (by decide +kernel) .nil no_asm (by kernel_rfl) (by decide +kernel) rfl w v (fun _ => aRl_holds h l)).mono ?_
  rintro e w' ⟨β, y, rfl, hh, ex⟩
  refine ⟨y, rfl, ?_, ex⟩
  rw [ite_pick (zt_den rb), ite_pick (ltz_den rb)] at hh
  by_cases hb : b = 0
  · rw [decide_eq_true hb, if_pos rfl] at hh
    obtain ⟨k1, k2⟩ := lfI_out hh
    have e1 : (IT.a2 4 (.var 0) (.var 1)).den (qE [a, b, c]) = flN a b c := by
      rw [fl0 R hb]
      show dq a.num (a.den : Int) = _
      rw [dq_pos (den_posI a), ← Rat.floor_def]
    rw [e1] at k1 k2
    exact ⟨k1, k2.mono (by omega)⟩
  · rw [decide_eq_false hb, if_neg (by decide)] at hh
    obtain ⟨hc, hs⟩ : 0 < c ∧ ∀ q : Rat, q * q ≠ c := by
      rcases R with ⟨hb', _⟩ | ⟨_, h⟩
      · exact absurd hb' hb
      · exact h
    have ea := num_den a
    have rm : RepQ (qE [a, b, c]) flM (b * b * c) := rep_mul (rep_mul rb rb) rc
    have es := num_den (b * b * c)
    have key := fl_spec (a := a) (b := b) (c := c) (x := a.num * ((b * b * c).den : Int)) (D := (a.den : Int) * ((b * b * c).den : Int)) (Y := (b * b * c).num * ((b * b * c).den : Int) * ((a.den : Int) * (a.den : Int))) hb hc hs (Int.mul_pos (den_posI a) (den_posI _))
      (by simp only [castQ_mul]; rw [← ea]; grind) (by simp only [castQ_mul]; rw [← es]; grind)
    have hu := key.unique R (flN_spec R)
    have eX : flX2.den (qE [a, b, c]) = a.num * ((b * b * c).den : Int) := by
      show a.num * flM.2.den _ = _
      rw [rm.2]
    have eD : flD2.den (qE [a, b, c]) = (a.den : Int) * ((b * b * c).den : Int) := by
      show (a.den : Int) * flM.2.den _ = _
      rw [rm.2]
    have eY : flY2.den (qE [a, b, c]) = (b * b * c).num * ((b * b * c).den : Int) * ((a.den : Int) * (a.den : Int)) := by
      show flM.1.den _ * flM.2.den _ * _ = _
      rw [rm.1, rm.2]; rfl
    by_cases hn : b < 0
    · rw [decide_eq_true hn, if_pos rfl] at hh
      obtain ⟨k1, k2⟩ := lfI_out hh
      rw [if_pos hn] at hu
      have e1 : (IT.a2 4 (.a2 0 flX2 (.a1 0 (.a2 0 (.a1 2 flY2) (.lit 1)))) flD2).den (qE [a, b, c]) = flN a b c := by
        rw [← hu, ← eX, ← eD, ← eY]
        rfl
      rw [e1] at k1 k2
      exact ⟨k1, k2.mono (by omega)⟩
    · rw [decide_eq_false hn, if_neg (by decide)] at hh
      obtain ⟨k1, k2⟩ := lfI_out hh
      rw [if_neg hn] at hu
      have e1 : (IT.a2 4 (.a2 0 flX2 (.a1 2 flY2)) flD2).den (qE [a, b, c]) = flN a b c := by
        rw [← hu, ← eX, ← eD, ← eY]
        rfl
      rw [e1] at k1 k2
      exact ⟨k1, k2.mono (by omega)⟩
theorem p_floor4 (R : Rd b c) (h : IsRoot w v a b c) (l : LimR 4 a b c) : Calls Tryz.prog 85 #[v] w (Ret (fun x w' => IsInt w' x (flN a b c) ∧ Lim 100 (flN a b c)) w) := by
  obtain ⟨ra, rb, rc⟩ := rep3 (a := a) (b := b) (c := c)
  refine (walk1 (l := [a, b, c]) (tab := []) (x := aRl 0 4) (T := .ite (zt (qv 1)) (lfI (.a2 4 (.var 0) (.var 1)) 4) (.ite (.lt (sgt (qv 1)) (.lit 0)) (lfI (.a2 4 (.a2 0 flX (.a2 1 (.lit (-1)) (.a1 2 flY))) flD) 26) (lfI (.a2 4 (.a2 0 flX (.a1 2 flY)) flD) 25)))
    Tryz.func85 (by decide +kernel) .nil no_asm (by kernel_rfl) (by decide +kernel) rfl w v (fun _ => aRl_holds h l)).mono ?_
  rintro e w' ⟨β, y, rfl, hh, ex⟩
  refine ⟨y, rfl, ?_, ex⟩
  rw [ite_pick (zt_den rb), ite_pick (ltz_den rb)] at hh
  by_cases hb : b = 0
  · rw [decide_eq_true hb, if_pos rfl] at hh
    obtain ⟨k1, k2⟩ := lfI_out hh
    have e1 : (IT.a2 4 (.var 0) (.var 1)).den (qE [a, b, c]) = flN a b c := by
      rw [fl0 R hb]
      show dq a.num (a.den : Int) = _
      rw [dq_pos (den_posI a), ← Rat.floor_def]
    rw [e1] at k1 k2
    exact ⟨k1, k2.mono (by omega)⟩
  · rw [decide_eq_false hb, if_neg (by decide)] at hh
    obtain ⟨hc, hs⟩ : 0 < c ∧ ∀ q : Rat, q * q ≠ c := by
      rcases R with ⟨hb', _⟩ | ⟨_, h⟩
      · exact absurd hb' hb
      · exact h
    have ea := num_den a
    have eb := num_den b
    have ec := num_den c
    have key := fl_spec (a := a) (b := b) (c := c) (x := a.num * ((b.den : Int) * (c.den : Int))) (D := (a.den : Int) * ((b.den : Int) * (c.den : Int))) (Y := b.num * (a.den : Int) * (b.num * (a.den : Int)) * (c.num * (c.den : Int))) hb hc hs (Int.mul_pos (den_posI a) (Int.mul_pos (den_posI b) (den_posI c)))
      (by simp only [castQ_mul]; rw [← ea]; grind) (by simp only [castQ_mul]; rw [← eb, ← ec]; grind)
    have hu := key.unique R (flN_spec R)
    by_cases hn : b < 0
    · rw [decide_eq_true hn, if_pos rfl] at hh
      obtain ⟨k1, k2⟩ := lfI_out hh
      rw [if_pos hn] at hu
      have e1 : (IT.a2 4 (.a2 0 flX (.a2 1 (.lit (-1)) (.a1 2 flY))) flD).den (qE [a, b, c]) = flN a b c := by
        rw [← hu]
        show dq (a.num * ((b.den : Int) * (c.den : Int)) + (-1 - isq (b.num * (a.den : Int) * (b.num * (a.den : Int)) * (c.num * (c.den : Int))))) ((a.den : Int) * ((b.den : Int) * (c.den : Int))) = _
        congr 2
        omega
      rw [e1] at k1 k2
      exact ⟨k1, k2.mono (by omega)⟩
    · rw [decide_eq_false hn, if_neg (by decide)] at hh
      obtain ⟨k1, k2⟩ := lfI_out hh
      rw [if_neg hn] at hu
      have e1 : (IT.a2 4 (.a2 0 flX (.a1 2 flY)) flD).den (qE [a, b, c]) = flN a b c := hu
      rw [e1] at k1 k2
      exact ⟨k1, k2.mono (by omega)⟩
theorem r_floor4 (R : Rd b c) (h : IsRoot w v a b c) (l : LimR 4 a b c) : Calls Tryz.prog 86 #[v] w (Ret (fun x w' => IsInt w' x (flN a b c) ∧ Lim 100 (flN a b c)) w) := by
  obtain ⟨ra, rb, rc⟩ := rep3 (a := a) (b := b) (c := c)
  refine (walk1 (l := [a, b, c]) (tab := []) (x := aRl 0 4) (T := .ite (zt (qv 1)) (lfI (.a2 4 (.var 0) (.var 1)) 4) (.ite (.lt (sgt (qv 1)) (.lit 0)) (lfI (.a2 4 (.a2 0 flX2 (.a1 0 (.a2 0 (.a1 2 flY2) (.lit 1)))) flD2) 96) (lfI (.a2 4 (.a2 0 flX2 (.a1 2 flY2)) flD2) 95)))
    Tryz.func86 (by decide +kernel) .nil no_asm (by kernel_rfl) (by decide +kernel) rfl w v (fun _ => aRl_holds h l)).mono ?_
  rintro e w' ⟨β, y, rfl, hh, ex⟩
  refine ⟨y, rfl, ?_, ex⟩
  rw [ite_pick (zt_den rb), ite_pick (ltz_den rb)] at hh
  by_cases hb : b = 0
  · rw [decide_eq_true hb, if_pos rfl] at hh
    obtain ⟨k1, k2⟩ := lfI_out hh
    have e1 : (IT.a2 4 (.var 0) (.var 1)).den (qE [a, b, c]) = flN a b c := by
      rw [fl0 R hb]
      show dq a.num (a.den : Int) = _
      rw [dq_pos (den_posI a), ← Rat.floor_def]
    rw [e1] at k1 k2
    exact ⟨k1, k2.mono (by omega)⟩
  · rw [decide_eq_false hb, if_neg (by decide)] at hh
    obtain ⟨hc, hs⟩ : 0 < c ∧ ∀ q : Rat, q * q ≠ c := by
      rcases R with ⟨hb', _⟩ | ⟨_, h⟩
      · exact absurd hb' hb
      · exact h
    have ea := num_den a
    have rm : RepQ (qE [a, b, c]) flM (b * b * c) := rep_mul (rep_mul rb rb) rc
    have es := num_den (b * b * c)
    have key := fl_spec (a := a) (b := b) (c := c) (x := a.num * ((b * b * c).den : Int)) (D := (a.den : Int) * ((b * b * c).den : Int)) (Y := (b * b * c).num * ((b * b * c).den : Int) * ((a.den : Int) * (a.den : Int))) hb hc hs (Int.mul_pos (den_posI a) (den_posI _))
      (by simp only [castQ_mul]; rw [← ea]; grind) (by simp only [castQ_mul]; rw [← es]; grind)
    have hu := key.unique R (flN_spec R)
    have eX : flX2.den (qE [a, b, c]) = a.num * ((b * b * c).den : Int) := by
      show a.num * flM.2.den _ = _
      rw [rm.2]
    have eD : flD2.den (qE [a, b, c]) = (a.den : Int) * ((b * b * c).den : Int) := by
      show (a.den : Int) * flM.2.den _ = _
      rw [rm.2]
    have eY : flY2.den (qE [a, b, c]) = (b * b * c).num * ((b * b * c).den : Int) * ((a.den : Int) * (a.den : Int)) := by
      show flM.1.den _ * flM.2.den _ * _ = _
      rw [rm.1, rm.2]; rfl
    by_cases hn : b < 0
    · rw [decide_eq_true hn, if_pos rfl] at hh
      obtain ⟨k1, k2⟩ := lfI_out hh
      rw [if_pos hn] at hu
      have e1 : (IT.a2 4 (.a2 0 flX2 (.a1 0 (.a2 0 (.a1 2 flY2) (.lit 1)))) flD2).den (qE [a, b, c]) = flN a b c := by
        rw [← hu, ← eX, ← eD, ← eY]
        rfl
      rw [e1] at k1 k2
      exact ⟨k1, k2.mono (by omega)⟩
    · rw [decide_eq_false hn, if_neg (by decide)] at hh
      obtain ⟨k1, k2⟩ := lfI_out hh
      rw [if_neg hn] at hu
      have e1 : (IT.a2 4 (.a2 0 flX2 (.a1 2 flY2)) flD2).den (qE [a, b, c]) = flN a b c := by
        rw [← hu, ← eX, ← eD, ← eY]
        rfl
      rw [e1] at k1 k2
      exact ⟨k1, k2.mono (by omega)⟩
theorem p_floor50 (R : Rd b c) (h : IsRoot w v a b c) (l : LimR 50 a b c) : Calls Tryz.prog 85 #[v] w (Ret (fun x w' => IsInt w' x (flN a b c) ∧ Lim 1200 (flN a b c)) w) := by
  obtain ⟨ra, rb, rc⟩ := rep3 (a := a) (b := b) (c := c)
  refine (walk1 (l := [a, b, c]) (tab := []) (x := aRl 0 50) (T := .ite (zt (qv 1)) (lfI (.a2 4 (.var 0) (.var 1)) 50) (.ite (.lt (sgt (qv 1)) (.lit 0)) (lfI (.a2 4 (.a2 0 flX (.a2 1 (.lit (-1)) (.a1 2 flY))) flD) 302) (lfI (.a2 4 (.a2 0 flX (.a1 2 flY)) flD) 301)))
    Tryz.func85 (by decide +kernel) .nil no_asm (by kernel_rfl) (by decide +kernel) rfl w v (fun _ => aRl_holds h l)).mono ?_
  rintro e w' ⟨β, y, rfl, hh, ex⟩
  refine ⟨y, rfl, ?_, ex⟩
  rw [ite_pick (zt_den rb), ite_pick (ltz_den rb)] at hh
  by_cases hb : b = 0
  · rw [decide_eq_true hb, if_pos rfl] at hh
    obtain ⟨k1, k2⟩ := lfI_out hh
    have e1 : (IT.a2 4 (.var 0) (.var 1)).den (qE [a, b, c]) = flN a b c := by
      rw [fl0 R hb]
      show dq a.num (a.den : Int) = _
      rw [dq_pos (den_posI a), ← Rat.floor_def]
    rw [e1] at k1 k2
    exact ⟨k1, k2.mono (by omega)⟩
  · rw [decide_eq_false hb, if_neg (by decide)] at hh
    obtain ⟨hc, hs⟩ : 0 < c ∧ ∀ q : Rat, q * q ≠ c := by
      rcases R with ⟨hb', _⟩ | ⟨_, h⟩
      · exact absurd hb' hb
      · exact h
    have ea := num_den a
    have eb := num_den b
    have ec := num_den c
    have key := fl_spec (a := a) (b := b) (c := c) (x := a.num * ((b.den : Int) * (c.den : Int))) (D := (a.den : Int) * ((b.den : Int) * (c.den : Int))) (Y := b.num * (a.den : Int) * (b.num * (a.den : Int)) * (c.num * (c.den : Int))) hb hc hs (Int.mul_pos (den_posI a) (Int.mul_pos (den_posI b) (den_posI c)))
      (by simp only [castQ_mul]; rw [← ea]; grind) (by simp only [castQ_mul]; rw [← eb, ← ec]; grind)
    have hu := key.unique R (flN_spec R)
    by_cases hn : b < 0
    · rw [decide_eq_true hn, if_pos rfl] at hh
      obtain ⟨k1, k2⟩ := lfI_out hh
      rw [if_pos hn] at hu
      have e1 : (IT.a2 4 (.a2 0 flX (.a2 1 (.lit (-1)) (.a1 2 flY))) flD).den (qE [a, b, c]) = flN a b c := by
        rw [← hu]
        show dq (a.num * ((b.den : Int) * (c.den : Int)) + (-1 - isq (b.num * (a.den : Int) * (b.num * (a.den : Int)) * (c.num * (c.den : Int))))) ((a.den : Int) * ((b.den : Int) * (c.den : Int))) = _
        congr 2
        omega
      rw [e1] at k1 k2
      exact ⟨k1, k2.mono (by omega)⟩
    · rw [decide_eq_false hn, if_neg (by decide)] at hh
      obtain ⟨k1, k2⟩ := lfI_out hh
      rw [if_neg hn] at hu
      have e1 : (IT.a2 4 (.a2 0 flX (.a1 2 flY)) flD).den (qE [a, b, c]) = flN a b c := hu
      rw [e1] at k1 k2
      exact ⟨k1, k2.mono (by omega)⟩
theorem r_floor50 (R : Rd b c) (h : IsRoot w v a b c) (l : LimR 50 a b c) : Calls Tryz.prog 86 #[v] w (Ret (fun x w' => IsInt w' x (flN a b c) ∧ Lim 1200 (flN a b c)) w) := by
  obtain ⟨ra, rb, rc⟩ := rep3 (a := a) (b := b) (c := c)
  refine (walk1 (l := [a, b, c]) (tab := []) (x := aRl 0 50) (T := .ite (zt (qv 1)) (lfI (.a2 4 (.var 0) (.var 1)) 50) (.ite (.lt (sgt (qv 1)) (.lit 0)) (lfI (.a2 4 (.a2 0 flX2 (.a1 0 (.a2 0 (.a1 2 flY2) (.lit 1)))) flD2) 1108) (lfI (.a2 4 (.a2 0 flX2 (.a1 2 flY2)) flD2) 1107)))
    Tryz.func86 (by decide +kernel) .nil no_asm (by kernel_rfl) (by decide +kernel) rfl w v (fun _ => aRl_holds h l)).mono ?_
  rintro e w' ⟨β, y, rfl, hh, ex⟩
  refine ⟨y, rfl, ?_, ex⟩
  rw [ite_pick (zt_den rb), ite_pick (ltz_den rb)] at hh
  by_cases hb : b = 0
  · rw [decide_eq_true hb, if_pos rfl] at hh
    obtain ⟨k1, k2⟩ := lfI_out hh
    have e1 : (IT.a2 4 (.var 0) (.var 1)).den (qE [a, b, c]) = flN a b c := by
      rw [fl0 R hb]
      show dq a.num (a.den : Int) = _
      rw [dq_pos (den_posI a), ← Rat.floor_def]
    rw [e1] at k1 k2
    exact ⟨k1, k2.mono (by omega)⟩
  · rw [decide_eq_false hb, if_neg (by decide)] at hh
    obtain ⟨hc, hs⟩ : 0 < c ∧ ∀ q : Rat, q * q ≠ c := by
      rcases R with ⟨hb', _⟩ | ⟨_, h⟩
      · exact absurd hb' hb
      · exact h
    have ea := num_den a
    have rm : RepQ (qE [a, b, c]) flM (b * b * c) := rep_mul (rep_mul rb rb) rc
    have es := num_den (b * b * c)
    have key := fl_spec (a := a) (b := b) (c := c) (x := a.num * ((b * b * c).den : Int)) (D := (a.den : Int) * ((b * b * c).den : Int)) (Y := (b * b * c).num * ((b * b * c).den : Int) * ((a.den : Int) * (a.den : Int))) hb hc hs (Int.mul_pos (den_posI a) (den_posI _))
      (by simp only [castQ_mul]; rw [← ea]; grind) (by simp only [castQ_mul]; rw [← es]; grind)
    have hu := key.unique R (flN_spec R)
    have eX : flX2.den (qE [a, b, c]) = a.num * ((b * b * c).den : Int) := by
      show a.num * flM.2.den _ = _
      rw [rm.2]
    have eD : flD2.den (qE [a, b, c]) = (a.den : Int) * ((b * b * c).den : Int) := by
      show (a.den : Int) * flM.2.den _ = _
      rw [rm.2]
    have eY : flY2.den (qE [a, b, c]) = (b * b * c).num * ((b * b * c).den : Int) * ((a.den : Int) * (a.den : Int)) := by
      show flM.1.den _ * flM.2.den _ * _ = _
      rw [rm.1, rm.2]; rfl
    by_cases hn : b < 0
    · rw [decide_eq_true hn, if_pos rfl] at hh
      obtain ⟨k1, k2⟩ := lfI_out hh
      rw [if_pos hn] at hu
      have e1 : (IT.a2 4 (.a2 0 flX2 (.a1 0 (.a2 0 (.a1 2 flY2) (.lit 1)))) flD2).den (qE [a, b, c]) = flN a b c := by
        rw [← hu, ← eX, ← eD, ← eY]
        rfl
      rw [e1] at k1 k2
      exact ⟨k1, k2.mono (by omega)⟩
    · rw [decide_eq_false hn, if_neg (by decide)] at hh
      obtain ⟨k1, k2⟩ := lfI_out hh
      rw [if_neg hn] at hu
      have e1 : (IT.a2 4 (.a2 0 flX2 (.a1 2 flY2)) flD2).den (qE [a, b, c]) = flN a b c := by
        rw [← hu, ← eX, ← eD, ← eY]
        rfl
      rw [e1] at k1 k2
      exact ⟨k1, k2.mono (by omega)⟩
end
end Go.Proofs.YtllijnecmekfeaaGreatDoor
end

section
set_option maxRecDepth 100000
namespace Go.Proofs.YtllijnecmekfeaaGreatDoor
open Go.RowKit
def floT (A B C : IT2) : IT := (qop 9 A (qop 7 B C)).1
theorem floT_den {E : Env} {A B C : IT2} {a b c : Rat} (hA : RepQ E A a) (hB : RepQ E B b) (hC : RepQ E C c) : (floT A B C).den E = flN a b c := by
  have r : RepQ E (qop 9 A (qop 7 B C)) (ratF 9 a (sq2 b c)) := rep_op (f := 9) (by omega) hA (rep_sq2 hB hC)
  show (qop 9 A (qop 7 B C)).1.den E = _
  rw [r.1]
  show ((flS a (sq2 b c) : Int) : Rat).num = _
  rw [Rat.num_intCast]; rfl
def kRFl : Con
  | [x], G => match rtOf x with
    | some ((A, B, C), m) => if rdA true G B C && decide (m ≤ 400) then some (.val true [.int (floT A B C) (if m ≤ 4 then 100 else if m ≤ 50 then 1200 else 9000)]) else none
    | _ => none
  | _, _ => none
theorem kRFl_ok {E : Env} (hE : QEnv E) {f : Nat} (hc4 : ∀ (w : World) (v : Value) (a b c : Rat), Rd b c → IsRoot w v a b c → LimR 4 a b c → Calls Tryz.prog f #[v] w (Ret (fun x w' => IsInt w' x (flN a b c) ∧ Lim 100 (flN a b c)) w)) (hc50 : ∀ (w : World) (v : Value) (a b c : Rat), Rd b c → IsRoot w v a b c → LimR 50 a b c → Calls Tryz.prog f #[v] w (Ret (fun x w' => IsInt w' x (flN a b c) ∧ Lim 1200 (flN a b c)) w)) (hc : ∀ (w : World) (v : Value) (a b c : Rat), Rd b c → IsRoot w v a b c → LimR 400 a b c → Calls Tryz.prog f #[v] w (Ret (fun x w' => IsInt w' x (flN a b c) ∧ Lim 9000 (flN a b c)) w))
    (hb : ∃ fn, Tryz.prog.funcs[f]? = some fn ∧ fn.name ≠ "runtime.NumGoroutine" ∧ fn.body.isNone = false) : ConOK Tryz.prog E f kRFl := by
  refine ⟨?_, ?_, hb⟩
  · intro args G r h hG β w vs hv hlen
    unfold kRFl at h
    split at h
    · split at h
      · rename_i x A B C m hx
        split at h
        · rename_i hcd
          simp only [Bool.and_eq_true, decide_eq_true_iff] at hcd
          injection h with h
          subst h
          obtain ⟨v, rfl, h1⟩ := args1 hv hlen
          obtain ⟨a, b, c, ra, rb, rc, ir, lr⟩ := rtOf_spec hE hx h1
          have R := rdA_spec hG rb rc hcd.1 rfl
          by_cases hm : m ≤ 4
          · refine (hc4 w v a b c R ir (lr.mono hm)).mono ?_
            rintro e w' ⟨x', rfl, hr, ex⟩
            refine ⟨_, rfl, one_int.2 ?_, ex⟩
            rw [floT_den ra rb rc, if_pos hm]
            exact hr
          · by_cases hm2 : m ≤ 50
            · refine (hc50 w v a b c R ir (lr.mono hm2)).mono ?_
              rintro e w' ⟨x', rfl, hr, ex⟩
              refine ⟨_, rfl, one_int.2 ?_, ex⟩
              rw [floT_den ra rb rc, if_neg hm, if_pos hm2]
              exact hr
            · refine (hc w v a b c R ir (lr.mono hcd.2)).mono ?_
              rintro e w' ⟨x', rfl, hr, ex⟩
              refine ⟨_, rfl, one_int.2 ?_, ex⟩
              rw [floT_den ra rb rc, if_neg hm, if_neg hm2]
              exact hr
        · cases h
      · cases h
    · cases h
  · intro args G r h x off
    unfold kRFl at h
    split at h
    · split at h
      · split at h
        · injection h with h; subst h; intro e; cases e
        · cases h
      · cases h
    · cases h
def sqT (x : IT) : BT := .and (.eq (.a1 3 x) (.lit 0)) (.eq (.a2 2 (.a1 2 x) (.a1 2 x)) x)
theorem sqT_den {E : Env} {x : IT} : (sqT x).den E = sqB (x.den E) := by
  show (isqE (x.den E) == 0 && (isq (x.den E) * isq (x.den E) == x.den E)) = _
  unfold sqB
  congr 1
  rw [Bool.eq_iff_iff, beq_iff_eq, beq_iff_eq]
  rcases cmpZ_cases (isq (x.den E) * isq (x.den E)) (x.den E) with ⟨h, e⟩ | ⟨h, e⟩ | ⟨h, e⟩ <;> rw [e] <;> omega
def kSqQ : Con
  | [.val true [.int x l, .int y m]], G => if decide (l ≤ 100000) && decide (m ≤ 100000) then
      match (BT.and (sqT x) (sqT y)).ev G with
      | some true => some (.tup [(true, [.int (IT.a1 2 x).fold l, .int (IT.a1 2 y).fold m]), (false, [.b (.lit true)])])
      | some false => some (.tup [(true, [.int (.lit 0) 0, .int (.lit 0) 0]), (false, [.b (.lit false)])])
      | none => none
    else none
  | _, _ => none
theorem kSqQ_ok {E : Env} {f : Nat} (hc : ∀ (w : World) (v : Value) (n d : Int), IsPair w v n d → Lim 100000 n → Lim 100000 d → Calls Tryz.prog f #[v] w (RetSqQ n d w))
    (hb : ∃ fn, Tryz.prog.funcs[f]? = some fn ∧ fn.name ≠ "runtime.NumGoroutine" ∧ fn.body.isNone = false) : ConOK Tryz.prog E f kSqQ := by
  refine ⟨?_, ?_, hb⟩
  · intro args G r h hG β w vs hv hlen
    unfold kSqQ at h
    split at h
    · rename_i x l y m
      split at h
      · rename_i hcd
        simp only [Bool.and_eq_true, decide_eq_true_iff] at hcd
        obtain ⟨v, rfl, h1⟩ := args1 hv hlen
        obtain ⟨p1, a1, a2⟩ := one_pair.1 h1
        have key := hc w v _ _ p1 (a1.mono hcd.1) (a2.mono hcd.2)
        have ed : (BT.and (sqT x) (sqT y)).den E = (sqB (x.den E) && sqB (y.den E)) := by
          show ((sqT x).den E && (sqT y).den E) = _
          rw [sqT_den, sqT_den]
        split at h
        · rename_i ho
          have hs := BT.ev_spec hG ho
          rw [ed] at hs
          injection h with h
          subst h
          refine key.mono ?_
          rintro e w' ⟨u, rfl, hp, ex⟩
          unfold sqN at hp
          rw [hs] at hp ⊢
          rw [if_pos rfl, if_pos rfl] at hp
          refine ⟨_, rfl, ⟨[u, .bool true], rfl, u, _, rfl, one_pair.2 ?_, _, _, rfl, one_bool.2 rfl, rfl⟩, ex⟩
          rw [IT.fold_den, IT.fold_den]
          exact ⟨hp, isq_lim a1, isq_lim a2⟩
        · rename_i ho
          have hs := BT.ev_spec hG ho
          rw [ed] at hs
          injection h with h
          subst h
          refine key.mono ?_
          rintro e w' ⟨u, rfl, hp, ex⟩
          unfold sqN at hp
          rw [hs] at hp ⊢
          rw [if_neg (by decide), if_neg (by decide)] at hp
          exact ⟨_, rfl, ⟨[u, .bool false], rfl, u, _, rfl, one_pair.2 ⟨hp, lim_zero, lim_zero⟩, _, _, rfl, one_bool.2 rfl, rfl⟩, ex⟩
        · cases h
      · cases h
    · cases h
  · intro args G r h x off
    unfold kSqQ at h
    split at h
    · split at h
      · split at h
        · injection h with h; subst h; intro e; cases e
        · injection h with h; subst h; intro e; cases e
        · cases h
      · cases h
    · cases h
end Go.Proofs.YtllijnecmekfeaaGreatDoor
end

section
set_option maxRecDepth 100000
namespace Go.Proofs.YtllijnecmekfeaaGreatDoor
open Go.RowKit
abbrev RI := Bool × List Nat
def smN (n : Nat) (p q : RI) : Bool := decide (p.2.length ≤ n) && decide (q.2.length ≤ n) && okQ p.1 p.2 q.1 q.2
def rq (p q : RI) : Rat := Rat.divInt (sgn p.1 (val p.2)) (sgn q.1 (val q.2))
def smR (p1 p2 p3 p4 p5 p6 : RI) : Bool := smN 4 p1 p2 && (smN 4 p3 p4 && (smN 4 p5 p6 && Rdb (rq p3 p4) (rq p5 p6)))
theorem rat_raw {w : World} {v : Value} {q : Rat} (h : IsRat w v q) : RawQ w v (decide (q.num < 0)) (limbs q.num.natAbs) (decide ((q.den : Int) < 0)) (limbs (q.den : Int).natAbs) ∧ okQ (decide (q.num < 0)) (limbs q.num.natAbs) (decide ((q.den : Int) < 0)) (limbs (q.den : Int).natAbs) = true := by
  obtain ⟨x0, x1, x2, x3, rfl, i1, i2⟩ := h
  obtain ⟨k1, k2⟩ := int_raw i1
  obtain ⟨k3, k4⟩ := int_raw i2
  refine ⟨⟨_, _, _, _, rfl, k1, k3⟩, ?_⟩
  have e3 : sgn (decide (q.num < 0)) (val (limbs q.num.natAbs)) = q.num := by rw [val_limbs]; exact sgn_self q.num
  have e4 : sgn (decide ((q.den : Int) < 0)) (val (limbs (q.den : Int).natAbs)) = (q.den : Int) := by rw [val_limbs]; exact sgn_self (q.den : Int)
  unfold okQ
  rw [k2, k4, e3, e4, decide_eq_true (show 0 < (q.den : Int) by have := q.den_pos; omega)]
  rw [decide_eq_true (show Nat.gcd q.num.natAbs (q.den : Int).natAbs = 1 from q.reduced)]
  rfl
end Go.Proofs.YtllijnecmekfeaaGreatDoor
end

section
set_option maxRecDepth 100000
namespace Go.Proofs.YtllijnecmekfeaaGreatDoor
open Go.RowKit
theorem sq_test {c : Rat} (h : 0 < c) : (sqB c.num && sqB (c.den : Int)) = (sqz c.num && sqz (c.den : Int)) := by
  have := (num_pos_iff c).2 h
  rw [sqz_sqB (by omega), sqz_sqB (by have := c.den_pos; omega)]
section
variable {w : World} {v : Value} {a b c : Rat}
theorem Rdb_cases (b c : Rat) : Rdb b c = if b = 0 then decide (c = 0) else if 0 < c then !(sqB c.num && sqB (c.den : Int)) else false := by
  have n1 : b.num = 0 ↔ b = 0 := Rat.num_eq_zero
  have n2 : c.num = 0 ↔ c = 0 := Rat.num_eq_zero
  have n3 := num_pos_iff c
  unfold Rdb
  by_cases hb : b = 0
  · rw [if_pos hb]
    subst hb
    show ((true && (c.num == 0)) || (false && _)) = _
    rw [Bool.true_and, Bool.false_and, Bool.or_false, Bool.eq_iff_iff, beq_iff_eq, decide_eq_true_iff, n2]
  · rw [if_neg hb]
    have e : (b.num == 0) = false := by rw [beq_eq_false_iff_ne]; exact fun k => hb (n1.1 k)
    have e2 : (b.num != 0) = true := by rw [bne_iff_ne]; exact fun k => hb (n1.1 k)
    rw [e, e2, Bool.false_and, Bool.false_or, Bool.true_and]
    by_cases hc : 0 < c
    · rw [if_pos hc, decide_eq_true (n3.2 hc), Bool.true_and, sq_test hc]
    · rw [if_neg hc, decide_eq_false (fun k => hc (n3.1 k)), Bool.false_and]
end
section
variable {w : World} {v : Value} {p1 p2 p3 p4 p5 p6 : RI}
end
end Go.Proofs.YtllijnecmekfeaaGreatDoor
end

section
set_option maxRecDepth 100000
namespace Go.Proofs.YtllijnecmekfeaaGreatDoor
open Go.RowKit
def roE (l : List RI) : Env := ⟨fun _ => 0, fun q => smR (l.getD (6 * q) (false, [])) (l.getD (6 * q + 1) (false, [])) (l.getD (6 * q + 2) (false, [])) (l.getD (6 * q + 3) (false, [])) (l.getD (6 * q + 4) (false, [])) (l.getD (6 * q + 5) (false, [])), fun i => l.getD i (false, []), fun _ => []⟩
end Go.Proofs.YtllijnecmekfeaaGreatDoor
end

section
set_option maxRecDepth 100000
namespace Go.Proofs.YtllijnecmekfeaaGreatDoor
open Go.RowKit
def rawsOf (a b c : Rat) : List RI := rawOf a ++ (rawOf b ++ rawOf c)
theorem smN_rawOf {w : World} {v : Value} {q : Rat} (h : IsRat w v q) (l : LimQ 4 q) : smN 4 (decide (q.num < 0), limbs q.num.natAbs) (decide ((q.den : Int) < 0), limbs (q.den : Int).natAbs) = true := by
  unfold smN
  have l1 : (limbs q.num.natAbs).length ≤ 4 := l.1
  have l2 : (limbs (q.den : Int).natAbs).length ≤ 4 := l.2
  rw [(rat_raw h).2, decide_eq_true l1, decide_eq_true l2]
  rfl
theorem rq_rawOf (q : Rat) : rq (decide (q.num < 0), limbs q.num.natAbs) (decide ((q.den : Int) < 0), limbs (q.den : Int).natAbs) = q := by
  have e3 : sgn (decide (q.num < 0)) (val (limbs q.num.natAbs)) = q.num := by rw [val_limbs]; exact sgn_self q.num
  have e4 : sgn (decide ((q.den : Int) < 0)) (val (limbs (q.den : Int).natAbs)) = (q.den : Int) := by rw [val_limbs]; exact sgn_self (q.den : Int)
  show Rat.divInt _ _ = _
  rw [e3, e4]
  exact Rat.num_divInt_den q
structure SmRt (w : World) (v : Value) (a b c : Rat) : Prop where
  is : IsRoot w v a b c
  lim : LimR 4 a b c
  rd : Rd b c
theorem SmRt.sm {w : World} {v : Value} {a b c : Rat} (h : SmRt w v a b c) {l : List RI} {k : Nat} (e : ∀ i, i < 6 → l.getD (6 * k + i) (false, []) = (rawsOf a b c).getD i (false, [])) : (roE l).b k = true := by
  obtain ⟨⟨x, y, z, rfl, h1, h2, h3⟩, ⟨l1, l2, l3⟩, R⟩ := h
  show smR _ _ _ _ _ _ = true
  have e0 := e 0 (by omega)
  have e1 := e 1 (by omega)
  have e2 := e 2 (by omega)
  have e3 := e 3 (by omega)
  have e4 := e 4 (by omega)
  have e5 := e 5 (by omega)
  rw [Nat.add_zero] at e0
  rw [e0, e1, e2, e3, e4, e5]
  unfold smR
  have k1 := smN_rawOf h1 l1
  have k2 := smN_rawOf h2 l2
  have k3 := smN_rawOf h3 l3
  have k4 := rq_rawOf b
  have k5 := rq_rawOf c
  show (smN 4 (decide (a.num < 0), limbs a.num.natAbs) (decide ((a.den : Int) < 0), limbs (a.den : Int).natAbs) && (smN 4 (decide (b.num < 0), limbs b.num.natAbs) (decide ((b.den : Int) < 0), limbs (b.den : Int).natAbs) && (smN 4 (decide (c.num < 0), limbs c.num.natAbs) (decide ((c.den : Int) < 0), limbs (c.den : Int).natAbs) && Rdb (rq (decide (b.num < 0), limbs b.num.natAbs) (decide ((b.den : Int) < 0), limbs (b.den : Int).natAbs)) (rq (decide (c.num < 0), limbs c.num.natAbs) (decide ((c.den : Int) < 0), limbs (c.den : Int).natAbs))))) = true
  rw [k1, k2, k3, k4, k5, Rdb_iff.2 R]
  rfl
end Go.Proofs.YtllijnecmekfeaaGreatDoor
end

section
set_option maxRecDepth 100000
namespace Go.Proofs.YtllijnecmekfeaaGreatDoor
open Go.RowKit
theorem Ok.symm {b c b' c' : Rat} (h : Ok b c b' c') : Ok b' c' b c := by
  rcases h with h | h | h
  · exact .inr (.inl h)
  · exact .inl h
  · exact .inr (.inr h.symm)
theorem rd_den {E : Env} {B C : IT2} {b c : Rat} (hB : RepQ E B b) (hC : RepQ E C c) (R : Rd b c) : (rdT B C).den E = true := by rw [rdT_den hB hC]; exact Rdb_iff.2 R
theorem asm_nil {E : Env} : Asm.holds E [] := no_asm
theorem asm_and {E : Env} {t : BT} {b : Bool} {G : Asm} (h : t.den E = b) (k : G.holds E) : Asm.holds E ((t, b) :: G) := fun p hp => by
  rcases List.mem_cons.1 hp with rfl | hp
  · exact h
  · exact k p hp
def g2 (n m : Bool) : Asm := [(rdT (qv 1) (qv 2), true), (rdT (qv 4) (qv 5), true), (nokT (qv 1) (qv 2) (qv 4) (qv 5), n), (nokT (qv 4) (qv 5) (qv 1) (qv 2), m)]
section
variable {w : World} {v u : Value} {a b c a' b' c' : Rat}
end
end Go.Proofs.YtllijnecmekfeaaGreatDoor
end

section
set_option maxRecDepth 100000
namespace Go.Proofs.YtllijnecmekfeaaGreatDoor
open Go.RowKit Go.Shelf
theorem kInlW_ok {P : Program} (hm : P.follows .mixedOrders = true) {E : Env} {W : World → Prop} (hW : ∀ w w', W w → Ext w w' → W w') {C : Cfg} (hC : CfgOK P E C) (hw : ∀ w, W w → C.wok w) {f : Nat} {fn : Func} (hf : P.funcs[f]? = some fn) (h1 : fn.name ≠ "runtime.NumGoroutine") (h2 : fn.body.isNone = false) : ConW P W E f (kInl C fn) := by
  refine ⟨?_, ?_, fn, hf, h1, h2⟩
  · intro args G r h hG β w vs hWw hv hlen
    unfold kInl at h
    split at h
    · rename_i hc
      simp only [Bool.and_eq_true, decide_eq_true_iff] at hc
      split at h
      · rename_i l hl
        injection h with h
        subst h
        refine (fun_sound hm hC hG hf hc.2.2 hl hc.2.1 hc.1 w vs hlen (fun i x hx => ⟨β, hv i x hx⟩) (fun w' e => hw w' (hW w w' hWw e))).mono ?_
        rintro e w' ⟨β', v, rfl, hh, ex⟩
        exact ⟨v, rfl, toAV_beta hh, ex⟩
      · cases h
    · cases h
  · intro args G r h x off
    unfold kInl at h
    split at h
    · split at h
      · injection h with h; subst h; exact toAV_nptr
      · cases h
    · cases h
def kWpL : Con
  | [.val false [.str t _], .val false [.n .i64 d]], _ => match t.cl, d.cl with
    | some s, some z => if decide (s.length ≤ 100000) && (decide (0 ≤ z) && decide (z ≤ 1000)) then some (.val false [.str (.lit (wpL s z.toNat)) (wpL s z.toNat).length]) else none
    | _, _ => none
  | _, _ => none
theorem kWpL_ok {E : Env} : ConOK Tryz.prog E 70 kWpL := by
  refine ⟨?_, ?_, ⟨_, Tryz.func70, by decide +kernel, by kernel_rfl⟩⟩
  · intro args G r h hG β w vs hv hlen
    unfold kWpL at h
    split at h
    · rename_i t l d
      split at h
      · rename_i s z hs hz
        split at h
        · rename_i hcd
          simp only [Bool.and_eq_true, decide_eq_true_iff] at hcd
          injection h with h
          subst h
          obtain ⟨v, u, rfl, h1, h2⟩ := args2 hv hlen
          obtain ⟨rfl, _⟩ := one_str.1 h1
          have h2' := one_num.1 h2
          subst h2'
          rw [ST.cl_spec hs, IT.cl_spec hz]
          obtain ⟨n, rfl⟩ : ∃ n : Nat, z = (n : Int) := ⟨z.toNat, by omega⟩
          refine (withPoint_calls w ⟨s.toArray⟩ n (by omega) (by show s.toArray.size ≤ _; rw [List.size_toArray]; exact hcd.1)).mono ?_
          rintro e w' ⟨rfl, ex⟩
          exact ⟨_, rfl, one_str.2 ⟨rfl, Nat.le_refl _⟩, ex⟩
        · cases h
      · cases h
    · cases h
  · intro args G r h x off
    unfold kWpL at h
    split at h
    · split at h
      · split at h
        · injection h with h; subst h; intro e; cases e
        · cases h
      · cases h
    · cases h
def kShL : Con
  | [.val false [.str t _]], _ => match t.cl with
    | some s => if decide (s.length ≤ 1000000) then some (.val false [.str (.lit (shL s)) (shL s).length]) else none
    | none => none
  | _, _ => none
theorem kShL_ok {E : Env} : ConOK Tryz.prog E 81 kShL := by
  refine ⟨?_, ?_, ⟨_, Tryz.func81, by decide +kernel, by kernel_rfl⟩⟩
  · intro args G r h hG β w vs hv hlen
    unfold kShL at h
    split at h
    · rename_i t l
      split at h
      · rename_i s hs
        split at h
        · rename_i hcd
          rw [decide_eq_true_iff] at hcd
          injection h with h
          subst h
          obtain ⟨v, rfl, h1⟩ := args1 hv hlen
          obtain ⟨rfl, _⟩ := one_str.1 h1
          rw [ST.cl_spec hs]
          refine (shortest_calls w ⟨s.toArray⟩ (by show s.toArray.size ≤ _; rw [List.size_toArray]; exact hcd)).mono ?_
          rintro e w' ⟨rfl, rfl⟩
          exact ⟨_, rfl, one_str.2 ⟨rfl, Nat.le_refl _⟩, Ext.refl _⟩
        · cases h
      · cases h
    · cases h
  · intro args G r h x off
    unfold kShL at h
    split at h
    · split at h
      · split at h
        · injection h with h; subst h; intro e; cases e
        · cases h
      · cases h
    · cases h
theorem decDigits_len : ∀ (k u : Nat), u < 10 ^ (k + 1) → (Lib.decDigits u).length ≤ k + 1 := fun k u h => by
  rw [Lib.decDigits_length]
  exact nDigits_le k u h
theorem itoa64_len {n : Int} (h0 : -9223372036854775808 ≤ n) (h1 : n ≤ 9223372036854775807) : (Lib.itoa n).length ≤ 20 := by
  unfold Lib.itoa
  split
  · have := decDigits_len 18 n.natAbs (by omega)
    simp only [List.length_cons]; omega
  · have := decDigits_len 18 n.toNat (by omega)
    omega
def kFI6 : Con
  | [.val false [.n .i64 x], .val false [.n .i64 (.lit z)]], G => if inR G x && z == 10 then some (.val false [.str (.fmt x) 20]) else none
  | _, _ => none
theorem kFI6_ok {E : Env} : ConW Tryz.prog WQ E 95 kFI6 := by
  refine ⟨?_, ?_, ⟨_, Tryz.func95, by decide +kernel, by kernel_rfl⟩⟩
  · intro args G r h hG β w vs hW hv hlen
    unfold kFI6 at h
    split at h
    · rename_i x z
      split at h
      · rename_i hcd
        simp only [Bool.and_eq_true, beq_iff_eq] at hcd
        obtain ⟨hr, rfl⟩ := hcd
        injection h with h
        subst h
        have hx := inR_spec hG hr
        obtain ⟨v, u, rfl, h1, h2⟩ := args2 hv hlen
        have h1' := one_num.1 h1
        have h2' := one_num.1 h2
        subst h1' h2'
        refine (formatInt_calls w hW.2 _ hx.1 hx.2).mono ?_
        rintro e w' ⟨rfl, ex⟩
        exact ⟨_, rfl, one_str.2 ⟨rfl, itoa64_len hx.1 hx.2⟩, ex⟩
      · cases h
    · cases h
  · intro args G r h x off
    unfold kFI6 at h
    split at h
    · split at h
      · injection h with h; subst h; intro e; cases e
      · cases h
    · cases h
noncomputable def tabRo : List (Nat × Con) := [(88, kRNg true), (83, kRAd false), (85, kRFl)]
theorem tabRo_ok {E : Env} (hE : QEnv E) : TabOK Tryz.prog E tabRo :=
  .cons (kRNg_ok hE (fun w v a b c h hr hl => p_neg (h rfl) hr hl) ⟨_, Tryz.func88, by decide +kernel, by kernel_rfl⟩) <|
  .cons (kRAd_ok hE (fun _ _ _ _ _ _ _ _ _ _ _ h hu l l' => p_add h hu l l') ⟨_, Tryz.func83, by decide +kernel, by kernel_rfl⟩) <|
  .cons (kRFl_ok hE (fun _ _ _ _ _ R h l => p_floor4 R h l) (fun _ _ _ _ _ R h l => p_floor50 R h l) (fun _ _ _ _ _ R h l => p_floor R h l) ⟨_, Tryz.func85, by decide +kernel, by kernel_rfl⟩) .nil
end Go.Proofs.YtllijnecmekfeaaGreatDoor
end

section
set_option maxRecDepth 100000
namespace Go.Proofs.YtllijnecmekfeaaGreatDoor
open Go.RowKit Go.Shelf
noncomputable def tabPw : List (Nat × Con) := (61, kInl (cfgOf tabInt) Tryz.f61) :: (tabInt ++ tabT)
theorem tabPw_ok {E : Env} (hE : QEnv E) : TabOK Tryz.prog E tabPw := .cons (kInl_ok mixed (cfg_ok tabInt_ok) (fun _ => trivial) Tryz.func61 (by decide +kernel) (by kernel_rfl)) (TabOK.app tabInt_ok (tabT_ok hE))
noncomputable def tabD0 : List (Nat × Con) := (70, kWpL) :: (81, kShL) :: (68, kInl (cfgOf tabPw) Tryz.f68) :: (66, kFlQ) :: (tabInt ++ tabT)
theorem tabD0_ok {E : Env} (hE : QEnv E) : TabOK Tryz.prog E tabD0 :=
  .cons kWpL_ok (.cons kShL_ok (.cons (kInl_ok mixed (cfg_ok (tabPw_ok hE)) (fun _ => trivial) Tryz.func68 (by decide +kernel) (by kernel_rfl)) (.cons (kFlQ_ok hE) (TabOK.app tabInt_ok (tabT_ok hE)))))
noncomputable def tabDf : List (Nat × Con) := (71, kFmt) :: (95, kFI6) :: tabD0
theorem tabDf_ok {E : Env} (hE : QEnv E) : TabW Tryz.prog WQ E tabDf := .cons kFmt_ok (.cons kFI6_ok (tabD0_ok hE).toW)
noncomputable def cDf : Cfg := cfgW WQ tabDf
theorem cDf_ok {E : Env} (hE : QEnv E) : CfgOK Tryz.prog E cDf := cfgW_ok (tabDf_ok hE)
theorem wq_ext : ∀ w w', WQ w → Ext w w' → WQ w' := fun _ _ h e => h.ext e
noncomputable def tabSq6 : List (Nat × Con) := [(101, kSqQ)]
theorem tabSq6_ok {E : Env} : TabOK Tryz.prog E tabSq6 := .cons (kSqQ_ok (fun w v n d h l m => rsqrtQ_calls w v n d h l m) ⟨_, Tryz.func101, by decide +kernel, by kernel_rfl⟩) .nil
noncomputable def tabA6 : List (Nat × Con) :=
  (29, kInl (cR tabRo) Tryz.f29) :: (31, kInl (cR tabRo) Tryz.f31) :: (33, kInl (cR tabRo) Tryz.f33) ::
  (49, kInl (cR tabSq6) Tryz.f49) :: (52, kInl (cR []) Tryz.f52) :: (51, kInl (cR []) Tryz.f51) :: (tabInt ++ tabT)
theorem tabA6_ok {E : Env} (hE : QEnv E) : TabOK Tryz.prog E tabA6 :=
  .cons (kInl_ok mixed (cR_ok hE (tabRo_ok hE)) (fun _ => trivial) Tryz.func29 (by decide +kernel) (by kernel_rfl)) <|
  .cons (kInl_ok mixed (cR_ok hE (tabRo_ok hE)) (fun _ => trivial) Tryz.func31 (by decide +kernel) (by kernel_rfl)) <|
  .cons (kInl_ok mixed (cR_ok hE (tabRo_ok hE)) (fun _ => trivial) Tryz.func33 (by decide +kernel) (by kernel_rfl)) <|
  .cons (kInl_ok mixed (cR_ok hE tabSq6_ok) (fun _ => trivial) Tryz.func49 (by decide +kernel) (by kernel_rfl)) <|
  .cons (kInl_ok mixed (cR_ok hE .nil) (fun _ => trivial) Tryz.func52 (by decide +kernel) (by kernel_rfl)) <|
  .cons (kInl_ok mixed (cR_ok hE .nil) (fun _ => trivial) Tryz.func51 (by decide +kernel) (by kernel_rfl)) (TabOK.app tabInt_ok (tabT_ok hE))
noncomputable def tabAw6 : List (Nat × Con) :=
  (17, kInl cDf Tryz.f17) :: (25, kInl cDf Tryz.f25) :: (42, kInl cDf Tryz.f42) :: tabA6
theorem tabAw6_ok {E : Env} (hE : QEnv E) : TabW Tryz.prog WQ E tabAw6 :=
  .cons (kInlW_ok mixed wq_ext (cDf_ok hE) (fun _ h => h) Tryz.func17 (by decide +kernel) (by kernel_rfl)) <|
  .cons (kInlW_ok mixed wq_ext (cDf_ok hE) (fun _ h => h) Tryz.func25 (by decide +kernel) (by kernel_rfl)) <|
  .cons (kInlW_ok mixed wq_ext (cDf_ok hE) (fun _ h => h) Tryz.func42 (by decide +kernel) (by kernel_rfl)) (tabA6_ok hE).toW
end Go.Proofs.YtllijnecmekfeaaGreatDoor
end

section
set_option maxRecDepth 100000
namespace Go.Proofs.YtllijnecmekfeaaGreatDoor
abbrev Sq := Nat → Rat
def Null (f : Sq) : Prop := ∀ e : Rat, 0 < e → ∃ K, ∀ k, K ≤ k → -e ≤ f k ∧ f k ≤ e
def PosS (f : Sq) : Prop := ∃ e : Rat, 0 < e ∧ ∃ K, ∀ k, K ≤ k → e ≤ f k
def Bdd (f : Sq) : Prop := ∃ b : Rat, 0 < b ∧ ∀ k, -b ≤ f k ∧ f k ≤ b
def HasSg (f : Sq) (s : Int) : Prop := (s = 1 ∧ PosS f) ∨ (s = 0 ∧ Null f) ∨ (s = -1 ∧ PosS fun k => - f k)
theorem le_tot (a b : Rat) : a ≤ b ∨ b ≤ a := Rat.le_total
theorem mul_le {a b x y : Rat} (ha : 0 ≤ a) (hx : a ≤ x) (hb : 0 ≤ b) (hy : b ≤ y) : a * b ≤ x * y := by
  have h1 : 0 ≤ (x - a) * y := Rat.mul_nonneg (by grind) (by grind)
  have h2 : 0 ≤ a * (y - b) := Rat.mul_nonneg ha (by grind)
  grind
theorem half_pos {e : Rat} (h : 0 < e) : 0 < e / 2 := by grind
theorem null_congr {f g : Sq} (h : ∀ k, f k = g k) (n : Null f) : Null g := by
  obtain rfl : f = g := funext h
  exact n
theorem pos_congr {f g : Sq} (h : ∀ k, f k = g k) (n : PosS f) : PosS g := by
  obtain rfl : f = g := funext h
  exact n
theorem HasSg.of_eq {f g : Sq} {s : Int} (n : HasSg f s) (h : ∀ k, f k = g k) : HasSg g s := by
  obtain rfl : f = g := funext h
  exact n
theorem null_add {f g : Sq} (h : Null f) (k : Null g) : Null fun n => f n + g n := by
  intro e he
  obtain ⟨K, hK⟩ := h (e / 2) (half_pos he)
  obtain ⟨L, hL⟩ := k (e / 2) (half_pos he)
  refine ⟨max K L, fun n hn => ?_⟩
  have := hK n (by omega)
  have := hL n (by omega)
  grind
theorem null_neg {f : Sq} (h : Null f) : Null fun n => - f n := by
  intro e he
  obtain ⟨K, hK⟩ := h e he
  exact ⟨K, fun n hn => by have := hK n hn; grind⟩
theorem abs_mul_le {b e x y : Rat} (_ : 0 < b) (_ : 0 < e) (h1 : -b ≤ x) (h2 : x ≤ b) (h3 : -e ≤ y) (h4 : y ≤ e) : -(b * e) ≤ x * y ∧ x * y ≤ b * e := by
  have k1 : 0 ≤ (b - x) * (e + y) := Rat.mul_nonneg (by grind) (by grind)
  have k2 : 0 ≤ (b + x) * (e - y) := Rat.mul_nonneg (by grind) (by grind)
  have k3 : 0 ≤ (b - x) * (e - y) := Rat.mul_nonneg (by grind) (by grind)
  have k4 : 0 ≤ (b + x) * (e + y) := Rat.mul_nonneg (by grind) (by grind)
  grind
theorem div_pos' {e b : Rat} (he : 0 < e) (hb : 0 < b) : 0 < e / b := by
  rw [Rat.div_def]
  exact Rat.mul_pos he (Rat.inv_pos.2 hb)
theorem mul_div' {e b : Rat} (hb : 0 < b) : b * (e / b) = e := by
  have : b ≠ 0 := by grind
  grind
theorem null_mul {f g : Sq} (h : Bdd f) (k : Null g) : Null fun n => f n * g n := by
  intro e he
  obtain ⟨b, hb, hf⟩ := h
  obtain ⟨K, hK⟩ := k (e / b) (div_pos' he hb)
  refine ⟨K, fun n hn => ?_⟩
  have h1 := hK n hn
  have h2 := hf n
  have := abs_mul_le hb (div_pos' he hb) h2.1 h2.2 h1.1 h1.2
  rw [mul_div' hb] at this
  exact this
theorem null_zero : Null fun _ => 0 := fun e he => ⟨0, fun n _ => by grind⟩
theorem bdd_const (c : Rat) : Bdd fun _ => c := by
  rcases le_tot 0 c with h | h
  · exact ⟨c + 1, by grind, fun k => by grind⟩
  · exact ⟨1 - c, by grind, fun k => by grind⟩
theorem bdd_add {f g : Sq} (h : Bdd f) (k : Bdd g) : Bdd fun n => f n + g n := by
  obtain ⟨b, hb, h⟩ := h
  obtain ⟨c, hc, k⟩ := k
  exact ⟨b + c, by grind, fun n => by have := h n; have := k n; grind⟩
theorem bdd_neg {f : Sq} (h : Bdd f) : Bdd fun n => - f n := by
  obtain ⟨b, hb, h⟩ := h
  exact ⟨b, hb, fun n => by have := h n; grind⟩
theorem bdd_mul {f g : Sq} (h : Bdd f) (k : Bdd g) : Bdd fun n => f n * g n := by
  obtain ⟨b, hb, h⟩ := h
  obtain ⟨c, hc, k⟩ := k
  exact ⟨b * c, Rat.mul_pos hb hc, fun n => abs_mul_le hb hc (h n).1 (h n).2 (k n).1 (k n).2⟩
theorem bdd_congr {f g : Sq} (h : ∀ k, f k = g k) (n : Bdd f) : Bdd g := by
  obtain rfl : f = g := funext h
  exact n
theorem bdd_sub {f g : Sq} (h : Bdd f) (k : Bdd g) : Bdd fun n => f n - g n := bdd_congr (fun n => by grind) (bdd_add h (bdd_neg k))
theorem pos_add_null {f g : Sq} (h : PosS f) (k : Null g) : PosS fun n => f n + g n := by
  obtain ⟨e, he, K, hK⟩ := h
  obtain ⟨L, hL⟩ := k (e / 2) (half_pos he)
  refine ⟨e / 2, half_pos he, max K L, fun n hn => ?_⟩
  have := hK n (by omega)
  have := hL n (by omega)
  grind
theorem pos_add {f g : Sq} (h : PosS f) (k : PosS g) : PosS fun n => f n + g n := by
  obtain ⟨e, he, K, hK⟩ := h
  obtain ⟨e', he', L, hL⟩ := k
  refine ⟨e + e', by grind, max K L, fun n hn => ?_⟩
  have := hK n (by omega)
  have := hL n (by omega)
  grind
theorem pos_mul {f g : Sq} (h : PosS f) (k : PosS g) : PosS fun n => f n * g n := by
  obtain ⟨e, he, K, hK⟩ := h
  obtain ⟨e', he', L, hL⟩ := k
  refine ⟨e * e', Rat.mul_pos he he', max K L, fun n hn => ?_⟩
  exact mul_le (by grind) (hK n (by omega)) (by grind) (hL n (by omega))
theorem not_pos_null {f : Sq} (h : PosS f) (k : Null f) : False := by
  obtain ⟨e, he, K, hK⟩ := h
  obtain ⟨L, hL⟩ := k (e / 2) (half_pos he)
  have := hK (max K L) (by omega)
  have := hL (max K L) (by omega)
  grind
theorem not_pos_neg {f : Sq} (h : PosS f) (k : PosS fun n => - f n) : False := by
  obtain ⟨e, he, K, hK⟩ := h
  obtain ⟨e', he', L, hL⟩ := k
  have := hK (max K L) (by omega)
  have := hL (max K L) (by omega)
  grind
theorem not_negp_null {f : Sq} (h : PosS fun n => - f n) (k : Null f) : False := not_pos_null h (null_neg k)
theorem HasSg.unique {f : Sq} {s t : Int} (h : HasSg f s) (k : HasSg f t) : s = t := by
  rcases h with ⟨rfl, h⟩ | ⟨rfl, h⟩ | ⟨rfl, h⟩ <;> rcases k with ⟨rfl, k⟩ | ⟨rfl, k⟩ | ⟨rfl, k⟩ <;> first | rfl | exact (not_pos_null h k).elim | exact (not_pos_null k h).elim | exact (not_pos_neg h k).elim | exact (not_pos_neg k h).elim | exact (not_negp_null h k).elim | exact (not_negp_null k h).elim
theorem HasSg.neg {f : Sq} {s : Int} (h : HasSg f s) : HasSg (fun n => - f n) (-s) := by
  rcases h with ⟨rfl, h⟩ | ⟨rfl, h⟩ | ⟨rfl, h⟩
  · exact .inr (.inr ⟨rfl, pos_congr (fun k => by grind) h⟩)
  · exact .inr (.inl ⟨rfl, null_neg h⟩)
  · exact .inl ⟨rfl, h⟩
theorem HasSg.add_null {f g : Sq} {s : Int} (h : HasSg f s) (k : Null g) : HasSg (fun n => f n + g n) s := by
  rcases h with ⟨rfl, h⟩ | ⟨rfl, h⟩ | ⟨rfl, h⟩
  · exact .inl ⟨rfl, pos_add_null h k⟩
  · exact .inr (.inl ⟨rfl, null_add h k⟩)
  · exact .inr (.inr ⟨rfl, pos_congr (fun n => by grind) (pos_add_null h (null_neg k))⟩)
theorem HasSg.near {f g : Sq} {s : Int} (h : HasSg f s) (k : Null fun n => g n - f n) : HasSg g s := (h.add_null k).of_eq fun n => by grind
theorem HasSg.range {f : Sq} {s : Int} (h : HasSg f s) : s = 1 ∨ s = 0 ∨ s = -1 := by
  rcases h with ⟨rfl, h⟩ | ⟨rfl, h⟩ | ⟨rfl, h⟩ <;> simp
theorem HasSg.mul {f g : Sq} {s t : Int} (h : HasSg f s) (k : HasSg g t) (bf : Bdd f) (bg : Bdd g) : HasSg (fun n => f n * g n) (s * t) := by
  rcases h with ⟨rfl, h⟩ | ⟨rfl, h⟩ | ⟨rfl, h⟩
  · rcases k with ⟨rfl, k⟩ | ⟨rfl, k⟩ | ⟨rfl, k⟩
    · exact .inl ⟨rfl, pos_mul h k⟩
    · exact .inr (.inl ⟨rfl, null_mul bf k⟩)
    · exact .inr (.inr ⟨rfl, pos_congr (fun n => by grind) (pos_mul h k)⟩)
  · exact .inr (.inl ⟨by omega, null_congr (fun n => by grind) (null_mul bg h)⟩)
  · rcases k with ⟨rfl, k⟩ | ⟨rfl, k⟩ | ⟨rfl, k⟩
    · exact .inr (.inr ⟨rfl, pos_congr (fun n => by grind) (pos_mul h k)⟩)
    · exact .inr (.inl ⟨rfl, null_mul bf k⟩)
    · exact .inl ⟨rfl, pos_congr (fun n => by grind) (pos_mul h k)⟩
theorem pos_cancel {u v : Sq} (bu : Bdd u) (hu : PosS u) (h : PosS fun n => u n * v n) : PosS v := by
  obtain ⟨b, hb, hB⟩ := bu
  obtain ⟨e, he, K, hK⟩ := hu
  obtain ⟨e', he', L, hL⟩ := h
  refine ⟨e' / b, div_pos' he' hb, max K L, fun n hn => ?_⟩
  have h1 := hK n (by omega)
  have h2 : e' ≤ u n * v n := hL n (by omega)
  have h3 := hB n
  rcases le_tot (e' / b) (v n) with h | h
  · exact h
  · -- v n ≤ e'/b; u v ≥ e'
    have hv : 0 < v n := by
      rcases le_tot (v n) 0 with q | q
      · have : 0 ≤ u n * (- v n) := Rat.mul_nonneg (by grind) (by grind)
        grind
      · by_cases q0 : v n = 0
        · rw [q0] at h2; grind
        · grind
    have h5 : 0 ≤ (b - u n) * v n := Rat.mul_nonneg (by grind) (by grind)
    have h6 : b * (e' / b) = e' := mul_div' hb
    have h7 : 0 ≤ b * v n - b * (e' / b) := by grind
    by_cases q : v n = e' / b
    · grind
    · have : 0 < b * (e' / b - v n) := Rat.mul_pos hb (by grind)
      grind
theorem null_cancel {u v : Sq} (hu : PosS u) (h : Null fun n => u n * v n) : Null v := by
  obtain ⟨e, he, K, hK⟩ := hu
  intro d hd
  obtain ⟨L, hL⟩ := h (e * d) (Rat.mul_pos he hd)
  refine ⟨max K L, fun n hn => ?_⟩
  have h1 := hK n (by omega)
  have h2 := hL n (by omega)
  constructor
  · rcases le_tot (-d) (v n) with q | q
    · exact q
    · by_cases q0 : v n = -d
      · grind
      · have k1 : 0 < e * (-d - v n) := Rat.mul_pos he (by grind)
        have k2 : 0 ≤ (u n - e) * (- v n) := Rat.mul_nonneg (by grind) (by grind)
        grind
  · rcases le_tot (v n) d with q | q
    · exact q
    · by_cases q0 : v n = d
      · grind
      · have k1 : 0 < e * (v n - d) := Rat.mul_pos he (by grind)
        have k2 : 0 ≤ (u n - e) * (v n) := Rat.mul_nonneg (by grind) (by grind)
        grind
theorem HasSg.cancel {u v : Sq} {s : Int} (bu : Bdd u) (hu : PosS u) (h : HasSg (fun n => u n * v n) s) : HasSg v s := by
  rcases h with ⟨rfl, h⟩ | ⟨rfl, h⟩ | ⟨rfl, h⟩
  · exact .inl ⟨rfl, pos_cancel bu hu h⟩
  · exact .inr (.inl ⟨rfl, null_cancel hu h⟩)
  · exact .inr (.inr ⟨rfl, pos_cancel bu hu (pos_congr (fun n => by grind) h)⟩)
def sumSg (s t d : Int) : Int := if s = 0 then t else if t = 0 then s else if s = t then s else s * d
theorem HasSg.sum {f g : Sq} {s t d : Int} (h : HasSg f s) (k : HasSg g t) (bf : Bdd f) (bg : Bdd g) (hd : HasSg (fun n => f n * f n - g n * g n) d) : HasSg (fun n => f n + g n) (sumSg s t d) := by
  unfold sumSg
  rcases h with ⟨rfl, h⟩ | ⟨rfl, h⟩ | ⟨rfl, h⟩
  · rcases k with ⟨rfl, k⟩ | ⟨rfl, k⟩ | ⟨rfl, k⟩
    · exact .inl ⟨rfl, pos_add h k⟩
    · exact .inl ⟨rfl, pos_add_null h k⟩
    · rw [if_neg (by decide), if_neg (by decide), if_neg (by decide), Int.one_mul]
      refine HasSg.cancel (u := fun n => f n - g n) (bdd_sub bf bg) (pos_congr (fun n => by grind) (pos_add h k)) (hd.of_eq fun n => by grind)
  · rw [if_pos rfl]
    exact (k.add_null h).of_eq fun n => by grind
  · rcases k with ⟨rfl, k⟩ | ⟨rfl, k⟩ | ⟨rfl, k⟩
    · rw [if_neg (by decide), if_neg (by decide), if_neg (by decide)]
      have := HasSg.cancel (u := fun n => g n - f n) (v := fun n => f n + g n) (s := -d) (bdd_sub bg bf) (pos_congr (fun n => by grind) (pos_add h k)) (hd.neg.of_eq fun n => by grind)
      rw [show -1 * d = -d by omega]
      exact this
    · exact .inr (.inr ⟨rfl, pos_congr (fun n => by grind) (pos_add_null h (null_neg k))⟩)
    · exact .inr (.inr ⟨rfl, pos_congr (fun n => by grind) (pos_add h k)⟩)
def sgQ' (a : Rat) : Int := if 0 < a then 1 else if a = 0 then 0 else -1
theorem hasSg_const (a : Rat) : HasSg (fun _ => a) (sgQ' a) := by
  unfold sgQ'
  split
  · rename_i h; exact .inl ⟨rfl, a, h, 0, fun _ _ => by grind⟩
  · split
    · rename_i h; subst h; exact .inr (.inl ⟨rfl, null_zero⟩)
    · exact .inr (.inr ⟨rfl, -a, by grind, 0, fun _ _ => by grind⟩)
structure IsRt (c : Rat) (m : Sq) : Prop where
  nn : ∀ k, 0 ≤ m k
  le : ∀ k, m k * m k ≤ c
  lim : Null fun k => c - m k * m k
  low : ∀ (j : Nat), (j : Rat) * (j : Rat) ≤ c * (65536 * 65536) → ∀ k, (j : Rat) ≤ m k * 65536
theorem nat_sqrt (n : Nat) : ∃ t : Nat, t * t ≤ n ∧ n < (t + 1) * (t + 1) := by
  induction n with
  | zero => exact ⟨0, by omega, by omega⟩
  | succ n ih =>
    obtain ⟨t, h1, h2⟩ := ih
    by_cases h : n + 1 < (t + 1) * (t + 1)
    · exact ⟨t, by omega, h⟩
    · refine ⟨t + 1, by omega, ?_⟩
      have : (t + 1 + 1) * (t + 1 + 1) = (t + 1) * (t + 1) + 2 * t + 3 := by
        simp only [Nat.add_mul, Nat.mul_add]; omega
      omega
theorem rt_sq_mono {x y : Rat} (_ : 0 ≤ x) (hy : 0 ≤ y) (h : x * x < y * y) : x < y := by
  rcases le_tot y x with q | q
  · have := mul_le hy q hy q
    grind
  · by_cases e : x = y
    · subst e; grind
    · grind
theorem mul_den' (e : Rat) : e * (e.den : Rat) = (e.num : Rat) := by
  have h : (e.den : Rat) ≠ 0 := by
    have := e.den_pos
    intro h
    have h' : ((e.den : Nat) : Rat) = ((0 : Nat) : Rat) := h
    have := Rat.natCast_inj.1 h'
    omega
  have := Rat.num_divInt_den e
  rw [Rat.divInt_eq_div] at this
  have h2 : ((e.den : Int) : Rat) = (e.den : Rat) := Rat.intCast_natCast _
  rw [h2] at this
  have h3 : (e.den : Rat) * ((e.num : Rat) / (e.den : Rat)) = (e.num : Rat) := by grind
  rw [this] at h3
  grind
theorem num_pos' {e : Rat} (h : 0 < e) : 0 < e.num := by
  have h1 := Rat.num_nonneg.2 (show (0 : Rat) ≤ e by grind)
  by_cases q : e.num = 0
  · rw [Rat.num_eq_zero] at q; grind
  · omega
theorem exists_unit {e : Rat} (he : 0 < e) : ∃ K : Nat, ∀ k : Nat, K ≤ k → 1 / ((k : Rat) + 1) ≤ e := by
  refine ⟨e.den, fun k hk => ?_⟩
  have h1 : (0 : Rat) < (k : Rat) + 1 := by
    have : (0 : Rat) ≤ (k : Rat) := Rat.natCast_nonneg
    grind
  have h2 : 1 ≤ e * (e.den : Rat) := by
    have hn : 0 < e.num := num_pos' he
    rw [mul_den' e]
    have : ((1 : Int) : Rat) ≤ (e.num : Rat) := Rat.intCast_le_intCast.2 (by omega)
    exact this
  have h3 : (e.den : Rat) ≤ (k : Rat) := Rat.natCast_le_natCast.2 hk
  have h4 : 0 ≤ e * ((k : Rat) - (e.den : Rat)) := Rat.mul_nonneg (by grind) (by grind)
  have h5 : ((k : Rat) + 1) * (1 / ((k : Rat) + 1)) = 1 := mul_div' h1
  rcases le_tot (1 / ((k : Rat) + 1)) e with q | q
  · exact q
  · have : 0 ≤ ((k : Rat) + 1) * (1 / ((k : Rat) + 1) - e) := Rat.mul_nonneg (by grind) (by grind)
    grind
theorem hlp1 {u v d w e : Rat} (hu : 0 < u) (hd : 0 < d) (a1 : u * v = 1) (a2 : d * w = e) (h : v ≤ w) : d ≤ e * u := by
  have : 0 ≤ (d * u) * (w - v) := Rat.mul_nonneg (Rat.mul_nonneg (by grind) (by grind)) (by grind)
  have e1 : (d * u) * (w - v) = (d * w) * u - d * (u * v) := by grind
  rw [e1, a1, a2] at this
  grind
theorem hlp2 {u c m e : Rat} (_ : 0 < e) (hu : 1 ≤ u) (h5 : 0 ≤ m) (g1 : 2 * c + 3 ≤ e * u) (g2 : m ≤ c + 1) (h1 : c * (65536 * u * (65536 * u)) < (65536 * u * m + 1) * (65536 * u * m + 1)) : c - m * m ≤ e := by
  rcases le_tot (c - m * m) e with q | q
  · exact q
  · have b3 : 0 ≤ (u * u) * (c - m * m - e) := Rat.mul_nonneg (Rat.mul_nonneg (by grind) (by grind)) (by grind)
    have b4 : 0 ≤ u * (c + 1 - m) := Rat.mul_nonneg (by grind) (by grind)
    have b5 : 0 ≤ u * (e * u - (2 * c + 3)) := Rat.mul_nonneg (by grind) (by grind)
    have b6 : c * (65536 * u * (65536 * u)) = 4294967296 * (c * (u * u)) := by grind
    have b7 : (65536 * u * m + 1) * (65536 * u * m + 1) = 4294967296 * (u * u * (m * m)) + 131072 * (u * m) + 1 := by grind
    have b8 : 0 ≤ u * m := Rat.mul_nonneg (by grind) h5
    have b9 : 0 < u * u := Rat.mul_pos (by grind) (by grind)
    rw [b6, b7] at h1
    grind
theorem exists_rt {c : Rat} (hc : 0 ≤ c) : ∃ m, IsRt c m := by
  have hD : ∀ k : Nat, (0 : Rat) < 65536 * ((k : Rat) + 1) := fun k => by
    have : (0 : Rat) ≤ (k : Rat) := Rat.natCast_nonneg
    grind
  have key : ∀ k : Nat, ∃ t : Nat, (t : Rat) * (t : Rat) ≤ c * ((65536 * ((k : Rat) + 1)) * (65536 * ((k : Rat) + 1))) ∧ c * ((65536 * ((k : Rat) + 1)) * (65536 * ((k : Rat) + 1))) < ((t : Rat) + 1) * ((t : Rat) + 1) := by
    intro k
    have hx : 0 ≤ c * ((65536 * ((k : Rat) + 1)) * (65536 * ((k : Rat) + 1))) := Rat.mul_nonneg hc (Rat.mul_nonneg (by have := hD k; grind) (by have := hD k; grind))
    generalize c * ((65536 * ((k : Rat) + 1)) * (65536 * ((k : Rat) + 1))) = x at hx
    obtain ⟨t, h1, h2⟩ := nat_sqrt x.floor.toNat
    have hf : 0 ≤ x.floor := Rat.le_floor_iff.2 (by simpa using hx)
    refine ⟨t, ?_, ?_⟩
    · have : ((t * t : Nat) : Int) ≤ x.floor := by omega
      have := Rat.le_floor_iff.1 this
      simpa [Rat.intCast_natCast] using this
    · have : x.floor < (((t + 1) * (t + 1) : Nat) : Int) := by omega
      have := Rat.floor_lt_iff.1 this
      simpa [Rat.intCast_natCast] using this
  obtain ⟨t, ht⟩ : ∃ t : Nat → Nat, ∀ k, (t k : Rat) * (t k : Rat) ≤ c * ((65536 * ((k : Rat) + 1)) * (65536 * ((k : Rat) + 1))) ∧ c * ((65536 * ((k : Rat) + 1)) * (65536 * ((k : Rat) + 1))) < ((t k : Rat) + 1) * ((t k : Rat) + 1) :=
    ⟨fun k => (key k).choose, fun k => (key k).choose_spec⟩
  have hm : ∀ k : Nat, (65536 * ((k : Rat) + 1)) * ((t k : Rat) / (65536 * ((k : Rat) + 1))) = (t k : Rat) := fun k => mul_div' (hD k)
  have hnn : ∀ k : Nat, 0 ≤ (t k : Rat) / (65536 * ((k : Rat) + 1)) := by
    intro k
    rw [Rat.div_def]
    exact Rat.mul_nonneg Rat.natCast_nonneg (by have := Rat.inv_pos.2 (hD k); grind)
  have hle : ∀ k : Nat, (t k : Rat) / (65536 * ((k : Rat) + 1)) * ((t k : Rat) / (65536 * ((k : Rat) + 1))) ≤ c := by
    intro k
    have h1 := (ht k).1
    have h2 := hm k
    have h3 := hD k
    generalize (t k : Rat) / (65536 * ((k : Rat) + 1)) = m at *
    generalize 65536 * ((k : Rat) + 1) = D at *
    rw [← h2] at h1
    rcases le_tot (m * m) c with q | q
    · exact q
    · by_cases e : m * m = c
      · rw [e]; exact Rat.le_refl
      · have : 0 < D * D * (m * m - c) := Rat.mul_pos (Rat.mul_pos h3 h3) (by grind)
        grind
  refine ⟨fun k => (t k : Rat) / (65536 * ((k : Rat) + 1)), hnn, hle, ?_, ?_⟩
  · intro e he
    have hc3 : (0 : Rat) < 2 * c + 3 := by grind
    obtain ⟨K, hK⟩ := exists_unit (div_pos' he hc3)
    refine ⟨K, fun k hk => ?_⟩
    have h1 := (ht k).2
    have h2 := hm k
    have h4 := hle k
    have h5 := hnn k
    have h6 := hK k hk
    have hk1 : (0 : Rat) < (k : Rat) + 1 := by have := hD k; grind
    have hk2 : (1 : Rat) ≤ (k : Rat) + 1 := by
      have : (0 : Rat) ≤ (k : Rat) := Rat.natCast_nonneg
      grind
    show -e ≤ c - (t k : Rat) / (65536 * ((k : Rat) + 1)) * ((t k : Rat) / (65536 * ((k : Rat) + 1))) ∧ c - (t k : Rat) / (65536 * ((k : Rat) + 1)) * ((t k : Rat) / (65536 * ((k : Rat) + 1))) ≤ e
    generalize (t k : Rat) / (65536 * ((k : Rat) + 1)) = m at *
    have g1 : 2 * c + 3 ≤ e * ((k : Rat) + 1) := hlp1 hk1 hc3 (mul_div' hk1) (mul_div' hc3) h6
    generalize (k : Rat) + 1 = u at *
    have g2 : m ≤ c + 1 := by
      rcases le_tot m (c + 1) with q | q
      · exact q
      · have := mul_le (show 0 ≤ c + 1 by grind) q (show 0 ≤ c + 1 by grind) q
        have : 0 ≤ c * c := Rat.mul_nonneg hc hc
        grind
    rw [← h2] at h1
    refine ⟨by grind, hlp2 he hk2 h5 g1 g2 h1⟩
  · intro j hj k
    have h1 := (ht k).2
    have h2 := hm k
    have hk1 : (0 : Rat) < (k : Rat) + 1 := by have := hD k; grind
    have g1 : (j : Rat) * ((k : Rat) + 1) < (t k : Rat) + 1 := by
      refine rt_sq_mono ?_ ?_ ?_
      · exact Rat.mul_nonneg Rat.natCast_nonneg (by grind)
      · have : (0 : Rat) ≤ (t k : Rat) := Rat.natCast_nonneg
        grind
      · have : 0 ≤ (((k : Rat) + 1) * ((k : Rat) + 1)) * (c * (65536 * 65536) - (j : Rat) * (j : Rat)) := Rat.mul_nonneg (Rat.mul_nonneg (by grind) (by grind)) (by grind)
        grind
    have g2 : j * (k + 1) < t k + 1 := by
      have : ((j * (k + 1) : Nat) : Rat) < ((t k + 1 : Nat) : Rat) := by simpa using g1
      exact Rat.natCast_lt_natCast.1 this
    have g3 : (j : Rat) * ((k : Rat) + 1) ≤ (t k : Rat) := by
      have : ((j * (k + 1) : Nat) : Rat) ≤ ((t k : Nat) : Rat) := Rat.natCast_le_natCast.2 (by omega)
      simpa using this
    show (j : Rat) ≤ (t k : Rat) / (65536 * ((k : Rat) + 1)) * 65536
    generalize (t k : Rat) / (65536 * ((k : Rat) + 1)) = m at *
    rw [← h2] at g3
    rcases le_tot (j : Rat) (m * 65536) with q | q
    · exact q
    · have : 0 ≤ ((k : Rat) + 1) * ((j : Rat) - m * 65536) := Rat.mul_nonneg (by grind) (by grind)
      by_cases e : (j : Rat) = m * 65536
      · grind
      · have : 0 < ((k : Rat) + 1) * ((j : Rat) - m * 65536) := Rat.mul_pos hk1 (by grind)
        grind
theorem IsRt.bdd {c : Rat} {m : Sq} (hc : 0 ≤ c) (h : IsRt c m) : Bdd m := by
  refine ⟨c + 1, by grind, fun k => ⟨by have := h.nn k; grind, ?_⟩⟩
  have := h.le k
  rcases le_tot (m k) (c + 1) with q | q
  · exact q
  · have := mul_le (show 0 ≤ c + 1 by grind) q (show 0 ≤ c + 1 by grind) q
    have : 0 ≤ c * c := Rat.mul_nonneg hc hc
    grind
theorem IsRt.zero {m : Sq} (h : IsRt 0 m) : ∀ k, m k = 0 := by
  intro k
  have h1 := h.le k
  have h2 := h.nn k
  by_cases e : m k = 0
  · exact e
  · have : 0 < m k * m k := Rat.mul_pos (by grind) (by grind)
    grind
theorem IsRt.pos {c : Rat} {m : Sq} (hc : 0 < c) (h : IsRt c m) : PosS m := by
  have h1 : PosS fun k => m k * m k := by
    have := pos_add_null (f := fun _ => c) ⟨c, hc, 0, fun _ _ => Rat.le_refl⟩ (null_neg h.lim)
    exact pos_congr (fun k => by grind) this
  obtain ⟨e, he, K, hK⟩ := h1
  refine ⟨e / (c + 1), div_pos' he (by grind), K, fun k hk => ?_⟩
  have h2 := hK k hk
  have h3 := h.nn k
  have h4 : m k ≤ c + 1 := by
    have := h.le k
    rcases le_tot (m k) (c + 1) with q | q
    · exact q
    · have := mul_le (show 0 ≤ c + 1 by grind) q (show 0 ≤ c + 1 by grind) q
      have : 0 < c * c := Rat.mul_pos hc hc
      grind
  have h5 : (c + 1) * (e / (c + 1)) = e := mul_div' (by grind)
  have h6 : 0 ≤ m k * (c + 1 - m k) := Rat.mul_nonneg h3 (by grind)
  rcases le_tot (e / (c + 1)) (m k) with q | q
  · exact q
  · by_cases e0 : e / (c + 1) = m k
    · grind
    · have : 0 < (c + 1) * (e / (c + 1) - m k) := Rat.mul_pos (by grind) (by grind)
      grind
theorem IsRt.sg {c : Rat} {m : Sq} (hc : 0 ≤ c) (h : IsRt c m) : HasSg m (sgQ' c) := by
  unfold sgQ'
  split
  · rename_i q; exact .inl ⟨rfl, h.pos q⟩
  · split
    · rename_i q
      subst q
      exact .inr (.inl ⟨rfl, null_congr (fun k => (h.zero k).symm) null_zero⟩)
    · grind
end Go.Proofs.YtllijnecmekfeaaGreatDoor
end

section
set_option maxRecDepth 100000
namespace Go.Proofs.YtllijnecmekfeaaGreatDoor
theorem sgQ'_pos {a : Rat} (h : 0 < a) : sgQ' a = 1 := if_pos h
theorem sgQ'_zero : sgQ' 0 = 0 := rfl
theorem sgQ'_neg {a : Rat} (h : a < 0) : sgQ' a = -1 := by
  unfold sgQ'
  rw [if_neg (by grind), if_neg (by grind)]
def sg2 (a b m : Rat) : Int := sumSg (sgQ' a) (sgQ' b * sgQ' m) (sgQ' (a * a - b * b * m))
theorem sqv2 {a b M : Rat} {m : Sq} (hM : 0 ≤ M) (h : IsRt M m) : HasSg (fun k => a + b * m k) (sg2 a b M) := by
  refine HasSg.sum (f := fun _ => a) (g := fun k => b * m k) (hasSg_const a) (HasSg.mul (f := fun _ => b) (hasSg_const b) (h.sg hM) (bdd_const b) (h.bdd hM)) (bdd_const a) (bdd_mul (bdd_const b) (h.bdd hM)) ?_
  refine (hasSg_const (a * a - b * b * M)).near ?_
  refine null_congr (fun k => ?_) (null_mul (bdd_const (b * b)) h.lim)
  grind
def IvIn (l h : Int) (f : Sq) : Prop := ∀ k, (l : Rat) ≤ f k * 65536 ∧ f k * 65536 ≤ (h : Rat)
theorem IvIn.add {l h l' h' : Int} {f g : Sq} (a : IvIn l h f) (b : IvIn l' h' g) : IvIn (l + l') (h + h') fun k => f k + g k := fun k => by
  have := a k
  have := b k
  rw [Rat.intCast_add, Rat.intCast_add]
  grind
theorem IvIn.neg {l h : Int} {f : Sq} (a : IvIn l h f) : IvIn (-h) (-l) fun k => - f k := fun k => by
  have := a k
  rw [Rat.intCast_neg, Rat.intCast_neg]
  grind
theorem mul_between {a b c d x y : Rat} (h1 : a ≤ x) (h2 : x ≤ b) (h3 : c ≤ y) (h4 : y ≤ d) {lo : Rat} (l1 : lo ≤ a * c) (l2 : lo ≤ a * d) (l3 : lo ≤ b * c) (l4 : lo ≤ b * d) : lo ≤ x * y := by
  have hy : lo ≤ x * c ∧ lo ≤ x * d := by
    constructor
    · rcases le_tot 0 c with q | q
      · have : 0 ≤ (x - a) * c := Rat.mul_nonneg (by grind) q
        grind
      · have : 0 ≤ (b - x) * (-c) := Rat.mul_nonneg (by grind) (by grind)
        grind
    · rcases le_tot 0 d with q | q
      · have : 0 ≤ (x - a) * d := Rat.mul_nonneg (by grind) q
        grind
      · have : 0 ≤ (b - x) * (-d) := Rat.mul_nonneg (by grind) (by grind)
        grind
  rcases le_tot 0 x with q | q
  · have : 0 ≤ (y - c) * x := Rat.mul_nonneg (by grind) q
    grind
  · have : 0 ≤ (d - y) * (-x) := Rat.mul_nonneg (by grind) (by grind)
    grind
def fl16 (p : Int) : Int := p / 65536
def cl16 (p : Int) : Int := -((-p) / 65536)
theorem fl16_le (p : Int) : (fl16 p : Rat) * 65536 ≤ (p : Rat) := by
  have : fl16 p * 65536 ≤ p := by unfold fl16; omega
  have h := Rat.intCast_le_intCast.2 this
  rw [Rat.intCast_mul] at h
  exact h
theorem le_cl16 (p : Int) : (p : Rat) ≤ (cl16 p : Rat) * 65536 := by
  have : p ≤ cl16 p * 65536 := by unfold cl16; omega
  have h := Rat.intCast_le_intCast.2 this
  rw [Rat.intCast_mul] at h
  exact h
def mulLo (a b c d : Int) : Int := min (min (fl16 (a * c)) (fl16 (a * d))) (min (fl16 (b * c)) (fl16 (b * d)))
def mulHi (a b c d : Int) : Int := max (max (cl16 (a * c)) (cl16 (a * d))) (max (cl16 (b * c)) (cl16 (b * d)))
theorem mulLo_spec {a b c d p : Int} {q : Rat} (h : mulLo a b c d ≤ fl16 p) (hq : q = (p : Rat)) : (mulLo a b c d : Rat) * 65536 ≤ q := by
  have h1 := fl16_le p
  have h2 := Rat.intCast_le_intCast.2 h
  grind
theorem mulHi_spec {a b c d p : Int} {q : Rat} (h : cl16 p ≤ mulHi a b c d) (hq : q = (p : Rat)) : q ≤ (mulHi a b c d : Rat) * 65536 := by
  have h1 := le_cl16 p
  have h2 := Rat.intCast_le_intCast.2 h
  grind
theorem mulLo_le (a b c d : Int) : mulLo a b c d ≤ fl16 (a * c) ∧ mulLo a b c d ≤ fl16 (a * d) ∧ mulLo a b c d ≤ fl16 (b * c) ∧ mulLo a b c d ≤ fl16 (b * d) := by
  unfold mulLo; omega
theorem le_mulHi (a b c d : Int) : cl16 (a * c) ≤ mulHi a b c d ∧ cl16 (a * d) ≤ mulHi a b c d ∧ cl16 (b * c) ≤ mulHi a b c d ∧ cl16 (b * d) ≤ mulHi a b c d := by
  unfold mulHi; omega
theorem IvIn.mul {a b c d : Int} {f g : Sq} (h : IvIn a b f) (k : IvIn c d g) : IvIn (mulLo a b c d) (mulHi a b c d) fun i => f i * g i := fun i => by
  obtain ⟨h1, h2⟩ := h i
  obtain ⟨k1, k2⟩ := k i
  obtain ⟨l1, l2, l3, l4⟩ := mulLo_le a b c d
  obtain ⟨u1, u2, u3, u4⟩ := le_mulHi a b c d
  have e1 := mul_between h1 h2 k1 k2 (mulLo_spec l1 (Rat.intCast_mul a c).symm) (mulLo_spec l2 (Rat.intCast_mul a d).symm) (mulLo_spec l3 (Rat.intCast_mul b c).symm) (mulLo_spec l4 (Rat.intCast_mul b d).symm)
  have e2 := mul_between (a := -(b : Rat)) (b := -(a : Rat)) (x := -(f i * 65536)) (lo := -((mulHi a b c d : Rat) * 65536)) (by grind) (by grind) k1 k2 (by have := mulHi_spec u3 (Rat.intCast_mul b c).symm; grind) (by have := mulHi_spec u4 (Rat.intCast_mul b d).symm; grind) (by have := mulHi_spec u1 (Rat.intCast_mul a c).symm; grind) (by have := mulHi_spec u2 (Rat.intCast_mul a d).symm; grind)
  constructor <;> grind
def flR (a : Rat) : Int := (a * 65536).floor
def clR (a : Rat) : Int := -(-(a * 65536)).floor
theorem IvIn.const (a : Rat) : IvIn (flR a) (clR a) fun _ => a := fun _ => by
  have h1 := Rat.floor_le (a * 65536)
  have h2 := Rat.floor_le (-(a * 65536))
  unfold flR clR
  rw [Rat.intCast_neg]
  constructor
  · exact h1
  · grind
end Go.Proofs.YtllijnecmekfeaaGreatDoor
end

section
set_option maxRecDepth 100000
namespace Go.Proofs.YtllijnecmekfeaaGreatDoor
theorem sgQ'_scale {k a : Rat} (h : 0 < k) : sgQ' (k * a) = sgQ' a := by
  unfold sgQ'
  by_cases h1 : 0 < a
  · rw [if_pos h1, if_pos (Rat.mul_pos h h1)]
  · by_cases h2 : a = 0
    · subst h2
      rw [Rat.mul_zero]
    · have h3 : 0 < k * (-a) := Rat.mul_pos h (by grind)
      rw [if_neg h1, if_neg h2, if_neg (by grind), if_neg (by grind)]
theorem sgQ'_mul (a b : Rat) : sgQ' (a * b) = sgQ' a * sgQ' b := by
  by_cases h1 : 0 < a
  · rw [sgQ'_scale h1, sgQ'_pos h1, Int.one_mul]
  · by_cases h2 : a = 0
    · subst h2
      rw [Rat.zero_mul, sgQ'_zero, Int.zero_mul]
    · have h3 : 0 < -a := by grind
      have e : a * b = (-a) * (-b) := by grind
      rw [e, sgQ'_scale h3, sgQ'_neg (a := a) (by grind)]
      by_cases k1 : 0 < b
      · rw [sgQ'_pos k1, sgQ'_neg (by grind)]; rfl
      · by_cases k2 : b = 0
        · subst k2; rfl
        · rw [sgQ'_neg (a := b) (by grind), sgQ'_pos (by grind)]; rfl
theorem sgQ'_range (a : Rat) : sgQ' a = 1 ∨ sgQ' a = 0 ∨ sgQ' a = -1 := by
  unfold sgQ'
  split
  · exact .inl rfl
  · split
    · exact .inr (.inl rfl)
    · exact .inr (.inr rfl)
end Go.Proofs.YtllijnecmekfeaaGreatDoor
end

section
set_option maxRecDepth 100000
namespace Go.Proofs.YtllijnecmekfeaaGreatDoor
open Go.RowKit
end Go.Proofs.YtllijnecmekfeaaGreatDoor
end

section
set_option maxRecDepth 100000
namespace Go.Proofs.YtllijnecmekfeaaGreatDoor
open Go.RowKit
abbrev C6 (h : Nat) (a b c d e f : Value) (w : World) : Prop :=
  w.cell? ⟨h, 0, none⟩ = some a ∧ w.cell? ⟨h, 1, none⟩ = some b ∧ w.cell? ⟨h + 1, 0, none⟩ = some c ∧ w.cell? ⟨h + 1, 1, none⟩ = some d ∧ w.cell? ⟨h + 2, 0, none⟩ = some e ∧ w.cell? ⟨h + 2, 1, none⟩ = some f
theorem C6.ext {h : Nat} {a b c d e f : Value} {w w' : World} (k : C6 h a b c d e f w) (x : Ext w w') : C6 h a b c d e f w' :=
  ⟨x.cell k.1, x.cell k.2.1, x.cell k.2.2.1, x.cell k.2.2.2.1, x.cell k.2.2.2.2.1, x.cell k.2.2.2.2.2⟩

end Go.Proofs.YtllijnecmekfeaaGreatDoor
end

section
set_option maxRecDepth 100000
namespace Go.Proofs.YtllijnecmekfeaaGreatDoor
open Go.RowKit
end Go.Proofs.YtllijnecmekfeaaGreatDoor
end

section
set_option maxRecDepth 100000
namespace Go.Proofs.YtllijnecmekfeaaGreatDoor
open Go.RowKit
theorem limbs_top9 {n : Nat} (h : (limbs n).length = 3) : n = val ((limbs n).take 2) + 1000000000000000000 * (limbs n).getD 2 0 ∧ val ((limbs n).take 2) < 1000000000000000000 := by
  have h1 := val_split (limbs n) 2 (by omega)
  rw [val_limbs, val_drop _ 2 (by omega)] at h1
  have h2 : (limbs n).drop (2 + 1) = [] := List.drop_of_length_le (by omega)
  rw [h2] at h1
  have h3 := val_lt ((dig_limbs n).take 2)
  rw [List.length_take, h] at h3
  simp only [val] at h1
  have e : 1000000000 ^ min 2 3 = 1000000000000000000 := rfl
  rw [e] at h3
  omega
theorem big_len {n : Nat} (h : 10000000000000000000 ≤ n) : 3 < (limbs n).length ∨ ((limbs n).length = 3 ∧ 9 < (limbs n).getD 2 0) := by
  rcases Nat.lt_or_ge 3 (limbs n).length with h1 | h1
  · exact .inl h1
  · right
    have h3 : (limbs n).length = 3 := by
      rcases Nat.lt_or_ge (limbs n).length 3 with h2 | h2
      · have := lt_of_limbs_len (n := n) (k := 2) (by omega); omega
      · omega
    obtain ⟨h4, h5⟩ := limbs_top9 h3
    exact ⟨h3, by omega⟩
theorem small_len {n : Nat} (h : n < 10000000000000000000) : (limbs n).length ≤ 3 ∧ ((limbs n).length = 3 → (limbs n).getD 2 0 ≤ 9) := by
  refine ⟨limbs_len_le (by omega), fun h3 => ?_⟩
  obtain ⟨h4, h5⟩ := limbs_top9 h3
  omega
theorem neg_conv (n : Nat) (h0 : 0 < n) (h : n ≤ 9223372036854775808) : wrap64 (IntKind.u64.wrap (-(n : Int))) = -(n : Int) := by
  simp only [wrap64, IntKind.wrap_u64]
  omega
theorem wrap64_small {m : Int} (n : Nat) (h : (n : Int) = m) (k : m ≤ 9223372036854775807) : wrap64 m = m := by
  simp only [wrap64]
  omega
theorem ret2 {a b : Int} {c d : Bool} (h : a = b) (k : c = d) : Ending.returned (.tuple #[.int .i64 a, .bool c]) = .returned (.tuple #[.int .i64 b, .bool d]) := by rw [h, k]

set_option maxRecDepth 100000 in
set_option maxHeartbeats 1600000 in
theorem int64_calls (w : World) (v : Value) (z : Int) (h : IsInt w v z) :
    Calls Tryz.prog 149 #[v] w fun e w' => e = .returned (.tuple #[.int .i64 (i64v z), .bool (i64ok z)]) ∧ Ext w w' := by
  obtain ⟨ao, cap, s, n, rfl, h1, h2, h3, H4, H5, H6⟩ := h.open_
  obtain ⟨W, hW, eW, c0, c1⟩ := box1 w (.bool s) (.slice ao (limbs n).length cap) 25
  by_cases hb : 10000000000000000000 ≤ n
  · have HO := Lib.hid (i64_out (z := z) (by have := H4.out; omega))
    rcases big_len hb with hl | ⟨hl, ht⟩
    · have hlI : decide ((3 : Int) < ((limbs n).length : Int)) = true := decide_eq_true (by omega)
      clear hb hl
      go_enter Tryz.func149, Tryz.ntmps149
      go_wp2
      go_ret2
      exact ⟨ret2 HO.out.1.symm HO.out.2.symm, eW⟩
    · obtain ⟨b1, o1, rfl, hx⟩ := (h3.ext eW).at_ (by omega)
      have hc := hx 2 (by omega)
      clear hx
      generalize (limbs n).getD 2 0 = t at *
      have htI : (9 : Int) < (t : Int) := by omega
      generalize (limbs n).length = L at *
      subst hl
      clear hb ht
      go_enter Tryz.func149, Tryz.ntmps149
      go_wp2
      go_ret2
      exact ⟨ret2 HO.out.1.symm HO.out.2.symm, eW⟩
  · obtain ⟨hl, ht⟩ := small_len (n := n) (by omega)
    have hv := valueOf_calls W ao (limbs n) cap h1 h2 (h3.ext eW) (by rw [val_limbs]; omega)
    rw [val_limbs] at hv
    have HV := Lib.hid hv
    have hfin : Hid ((∃ L : Nat, L = (limbs n).length ∧ L ≤ 3 ∧ (L = 3 → ∃ b1 o1 t, ao = some ⟨b1, o1, none⟩ ∧ W.cell? ⟨b1, o1 + 2, none⟩ = some (.int .u32 ((t : Nat) : Int)) ∧ t ≤ 9))) := by
      refine ⟨_, rfl, hl, fun h' => ?_⟩
      obtain ⟨b1, o1, rfl, hx⟩ := (h3.ext eW).at_ (by omega)
      exact ⟨b1, o1, _, rfl, hx 2 (by omega), ht h'⟩
    obtain ⟨L, hL, hL3, hLt⟩ := hfin.out
    rw [← hL] at HV
    rw [← hL] at hW c1
    have HLE := Lib.hid (show (Value.slice ao (limbs n).length cap) = .slice ao L cap by rw [hL])
    have HN := Lib.hid (show n < 10000000000000000000 by omega)
    have hz : z = sgn s n := H5.out
    clear hv hl ht h1 h2 h3 hb hfin h
    rw [HLE.out]
    clear hL HLE
    have hgo : ∀ (P : Prop), True := fun _ => trivial
    have HZ := Lib.hid hz
    clear hz hgo
    rcases Nat.lt_or_ge L 3 with hl | hl
    · have hlI : (L : Int) < 3 := by omega
      clear hLt hl hL3
      cases s
      by_cases hn : n ≤ 9223372036854775807
      · have HI := Lib.hid (i64_in (z := z) (by rw [HZ.out]; simp only [sgn]; simp; try omega) (by rw [HZ.out]; simp only [sgn]; simp; try omega))
        have hnI : (n : Int) ≤ 9223372036854775807 := by omega
        have HE : Hid (z = n) := HZ.out
        clear hn
        go_enter Tryz.func149, Tryz.ntmps149
        go_wp2_with fail
        refine HV.out.mono ?_
        rintro e w' ⟨rfl, rfl⟩
        generalize hm : (n : Int) = m at hnI ⊢
        have HM := Lib.hid hm
        clear hm
        go_wp2
        go_ret2
        exact ⟨ret2 (by rw [HI.out.1, HE.out, HM.out]; exact wrap64_small n HM.out hnI) HI.out.2.symm, eW⟩
      · have HI := Lib.hid (i64_out (z := z) (.inr (by rw [HZ.out]; simp only [sgn]; simp; try omega)))
        have hnI : (9223372036854775807 : Int) < n := by omega
        clear hn
        go_enter Tryz.func149, Tryz.ntmps149
        go_wp2_with fail
        refine HV.out.mono ?_
        rintro e w' ⟨rfl, rfl⟩
        generalize hm : (n : Int) = m at hnI ⊢
        have HM := Lib.hid hm
        clear hm
        go_wp2
        go_ret2
        exact ⟨ret2 HI.out.1.symm HI.out.2.symm, eW⟩
      by_cases hn : n ≤ 9223372036854775808
      · have HI := Lib.hid (i64_in (z := z) (by rw [HZ.out]; simp only [sgn]; simp; try omega) (by rw [HZ.out]; simp only [sgn]; simp; try omega))
        have hnI : decide ((n : Int) ≤ 9223372036854775808) = true := decide_eq_true (by omega)
        have HE : Hid (z = -n) := HZ.out
        have HP := Lib.hid (H6.out rfl)
        have HB := Lib.hid hn
        clear hn
        go_enter Tryz.func149, Tryz.ntmps149
        go_wp2_with fail
        refine HV.out.mono ?_
        rintro e w' ⟨rfl, rfl⟩
        go_wp2
        go_ret2
        exact ⟨ret2 (by rw [HI.out.1, HE.out]; exact neg_conv n HP.out HB.out) HI.out.2.symm, eW⟩
      · have HI := Lib.hid (i64_out (z := z) (.inl (by rw [HZ.out]; simp only [sgn]; simp; try omega)))
        have hnI : decide ((n : Int) ≤ 9223372036854775808) = false := decide_eq_false (by omega)
        clear hn
        go_enter Tryz.func149, Tryz.ntmps149
        go_wp2_with fail
        refine HV.out.mono ?_
        rintro e w' ⟨rfl, rfl⟩
        go_wp2
        go_ret2
        exact ⟨ret2 HI.out.1.symm HI.out.2.symm, eW⟩
    · obtain ⟨b1, o1, t, rfl, hc, htt⟩ := hLt (by omega)
      obtain rfl : L = 3 := by omega
      have htI : (t : Int) ≤ 9 := by omega
      clear hLt hl hL3 htt
      cases s
      by_cases hn : n ≤ 9223372036854775807
      · have HI := Lib.hid (i64_in (z := z) (by rw [HZ.out]; simp only [sgn]; simp; try omega) (by rw [HZ.out]; simp only [sgn]; simp; try omega))
        have hnI : (n : Int) ≤ 9223372036854775807 := by omega
        have HE : Hid (z = n) := HZ.out
        clear hn
        go_enter Tryz.func149, Tryz.ntmps149
        go_wp2_with fail
        refine HV.out.mono ?_
        rintro e w' ⟨rfl, rfl⟩
        generalize hm : (n : Int) = m at hnI ⊢
        have HM := Lib.hid hm
        clear hm
        go_wp2
        go_ret2
        exact ⟨ret2 (by rw [HI.out.1, HE.out, HM.out]; exact wrap64_small n HM.out hnI) HI.out.2.symm, eW⟩
      · have HI := Lib.hid (i64_out (z := z) (.inr (by rw [HZ.out]; simp only [sgn]; simp; try omega)))
        have hnI : (9223372036854775807 : Int) < n := by omega
        clear hn
        go_enter Tryz.func149, Tryz.ntmps149
        go_wp2_with fail
        refine HV.out.mono ?_
        rintro e w' ⟨rfl, rfl⟩
        generalize hm : (n : Int) = m at hnI ⊢
        have HM := Lib.hid hm
        clear hm
        go_wp2
        go_ret2
        exact ⟨ret2 HI.out.1.symm HI.out.2.symm, eW⟩
      by_cases hn : n ≤ 9223372036854775808
      · have HI := Lib.hid (i64_in (z := z) (by rw [HZ.out]; simp only [sgn]; simp; try omega) (by rw [HZ.out]; simp only [sgn]; simp; try omega))
        have hnI : decide ((n : Int) ≤ 9223372036854775808) = true := decide_eq_true (by omega)
        have HE : Hid (z = -n) := HZ.out
        have HP := Lib.hid (H6.out rfl)
        have HB := Lib.hid hn
        clear hn
        go_enter Tryz.func149, Tryz.ntmps149
        go_wp2_with fail
        refine HV.out.mono ?_
        rintro e w' ⟨rfl, rfl⟩
        go_wp2
        go_ret2
        exact ⟨ret2 (by rw [HI.out.1, HE.out]; exact neg_conv n HP.out HB.out) HI.out.2.symm, eW⟩
      · have HI := Lib.hid (i64_out (z := z) (.inl (by rw [HZ.out]; simp only [sgn]; simp; try omega)))
        have hnI : decide ((n : Int) ≤ 9223372036854775808) = false := decide_eq_false (by omega)
        clear hn
        go_enter Tryz.func149, Tryz.ntmps149
        go_wp2_with fail
        refine HV.out.mono ?_
        rintro e w' ⟨rfl, rfl⟩
        go_wp2
        go_ret2
        exact ⟨ret2 HI.out.1.symm HI.out.2.symm, eW⟩

end Go.Proofs.YtllijnecmekfeaaGreatDoor
end

section
set_option maxRecDepth 100000
namespace Go.Proofs.YtllijnecmekfeaaGreatDoor
open Go.RowKit
end Go.Proofs.YtllijnecmekfeaaGreatDoor
end

section
set_option maxRecDepth 100000
namespace Go.Proofs.YtllijnecmekfeaaGreatDoor
open Go.RowKit
end Go.Proofs.YtllijnecmekfeaaGreatDoor
end

section
set_option maxRecDepth 100000
namespace Go.Proofs.YtllijnecmekfeaaGreatDoor
open Go.RowKit
end Go.Proofs.YtllijnecmekfeaaGreatDoor
end

section
set_option maxRecDepth 100000
namespace Go.Proofs.YtllijnecmekfeaaGreatDoor
open Go.RowKit
theorem cmpZ_nonneg {a b : Int} (h : b ≤ a) : 0 ≤ cmpZ a b := by
  rcases Int.lt_or_le b a with k | k
  · rw [cmpZ_gt k]; decide
  · rw [cmpZ_eq (by omega)]; decide
theorem cmpZ_nonpos {a b : Int} (h : a ≤ b) : cmpZ a b ≤ 0 := by
  rcases Int.lt_or_le a b with k | k
  · rw [cmpZ_lt k]; decide
  · rw [cmpZ_eq (by omega)]; decide
theorem rcmp_as {w : World} {v1 v2 : Value} {z1 z2 : Int} {k : Int} (h : Hid (cmpZ z1 z2 = k)) (h1 : IsInt w v1 z1) (h2 : IsInt w v2 z2) :
    Calls Tryz.prog 78 #[v1, v2] w fun e w' => e = .returned (.int .i64 k) ∧ Ext w w' := by
  rw [← h.out]
  exact rcmp_calls w v1 v2 z1 z2 h1 h2
theorem neg_conv2 {m : Int} (n : Nat) (h : (n : Int) = m) (h0 : 0 < n) (k : n ≤ 9223372036854775808) : wrap64 (-(wrap64 m)) = -(n : Int) := by
  simp only [wrap64]
  omega

set_option maxRecDepth 100000 in
set_option maxHeartbeats 1600000 in
theorem rint64_calls (w : World) (v : Value) (z : Int) (h : IsInt w v z) :
    Calls Tryz.prog 150 #[v] w fun e w' => e = .returned (.tuple #[.int .i64 (i64v z), .bool (i64ok z)]) ∧ Ext w w' := by
  have hI := h
  obtain ⟨ao, cap, s, n, rfl, h1, h2, h3, H4, H5, H6⟩ := h.open_
  obtain ⟨W, hW, eW, c0, c1⟩ := box1 w (.bool s) (.slice ao (limbs n).length cap) 25
  have HC := Lib.hid (And.intro h1 (And.intro h2 h3))
  clear h1 h2 h3
  go_enter Tryz.func150, Tryz.ntmps150
  go_wp2_with fail
  clear hW
  refine (rfromInt64_calls _ _ (by omega) (by omega)).mono ?_
  rintro e w1 ⟨x1, rfl, hx1, e1⟩
  replace c0 := e1.cell c0
  replace c1 := e1.cell c1
  replace eW := eW.trans e1
  clear e1
  go_wp2_with fail
  refine (rfromInt64_calls _ _ (by omega) (by omega)).mono ?_
  rintro e w2 ⟨x2, rfl, hx2, e2⟩
  replace c0 := e2.cell c0
  replace c1 := e2.cell c1
  replace eW := eW.trans e2
  replace hx1 := hx1.ext e2
  clear e2
  have i1 := hx1
  have i2 := hx2
  obtain ⟨a1, cp1, s1, n1, rfl, _, _, _, _, _, _⟩ := hx1.open_
  obtain ⟨a2, cp2, s2, n2, rfl, _, _, _, _, _, _⟩ := hx2.open_
  clear hx1 hx2
  obtain ⟨W3, hW3, e3, _, l0, l1, m0, m1⟩ := boxes2 w2 (.bool s1) (.slice a1 (limbs n1).length cp1) (.bool s2) (.slice a2 (limbs n2).length cp2) 25
  replace c0 := e3.cell c0
  replace c1 := e3.cell c1
  replace i1 := i1.ext e3
  replace i2 := i2.ext e3
  have i0 := hI.ext (eW.trans e3)
  replace eW := eW.trans e3
  have HI := Lib.hid (And.intro i0 (And.intro i1 i2))
  clear i0 i1 i2 e3
  rcases Int.lt_or_le z (-9223372036854775808) with hz | hz
  · have HK : Hid (cmpZ z (-9223372036854775808) = -1) := Lib.hid (cmpZ_lt hz)
    have HO := Lib.hid (i64_out (z := z) (.inl hz))
    clear hz
    go_wp2_with fail
    refine (rcmp_as HK HI.out.1 HI.out.2.1).mono ?_
    rintro e w4 ⟨rfl, e4⟩
    go_wp2
    go_ret2
    exact ⟨ret2 HO.out.1.symm HO.out.2.symm, eW.trans e4⟩
  have HK : Hid (∃ k, cmpZ z (-9223372036854775808) = k ∧ 0 ≤ k) := Lib.hid ⟨_, rfl, cmpZ_nonneg hz⟩
  obtain ⟨k, HK1, hk⟩ := HK.out
  replace HK1 := Lib.hid HK1
  clear HK
  rcases Int.lt_or_le 9223372036854775807 z with hy | hy
  · have HK2 : Hid (cmpZ z 9223372036854775807 = 1) := Lib.hid (cmpZ_gt hy)
    have HO := Lib.hid (i64_out (z := z) (.inr hy))
    clear hz hy
    go_wp2_with fail
    refine (rcmp_as HK1 HI.out.1 HI.out.2.1).mono ?_
    rintro e w4 ⟨rfl, e4⟩
    replace c0 := e4.cell c0
    replace c1 := e4.cell c1
    replace m0 := e4.cell m0
    replace m1 := e4.cell m1
    go_wp2_with fail
    refine (rcmp_as HK2 (HI.out.1.ext e4) (HI.out.2.2.ext e4)).mono ?_
    rintro e w5 ⟨rfl, e5⟩
    go_wp2
    go_ret2
    exact ⟨ret2 HO.out.1.symm HO.out.2.symm, (eW.trans e4).trans e5⟩
  have HK : Hid (∃ k, cmpZ z 9223372036854775807 = k ∧ k ≤ 0) := Lib.hid ⟨_, rfl, cmpZ_nonpos hy⟩
  obtain ⟨k', HK2, hk'⟩ := HK.out
  replace HK2 := Lib.hid HK2
  clear HK
  have HZ := Lib.hid (i64_in hz hy)
  have HN := Lib.hid (And.intro hz hy)
  clear hz hy
  go_wp2_with fail
  refine (rcmp_as HK1 HI.out.1 HI.out.2.1).mono ?_
  rintro e w4 ⟨rfl, e4⟩
  replace c0 := e4.cell c0
  replace c1 := e4.cell c1
  replace m0 := e4.cell m0
  replace m1 := e4.cell m1
  go_wp2_with fail
  refine (rcmp_as HK2 (HI.out.1.ext e4) (HI.out.2.2.ext e4)).mono ?_
  rintro e w5 ⟨rfl, e5⟩
  replace c0 := e5.cell c0
  replace c1 := e5.cell c1
  replace eW := (eW.trans e4).trans e5
  clear e4 e5 m0 m1 l0 l1
  have hsc := short_calls w5 ao (limbs n) cap HC.out.1 HC.out.2.1 (HC.out.2.2.ext eW) (by rw [val_limbs]; have := H4.out; have := HN.out; omega)
  rw [val_limbs] at hsc
  have HS := Lib.hid hsc
  clear hsc
  go_wp2_with fail
  refine HS.out.mono ?_
  rintro e w6 ⟨rfl, rfl⟩
  generalize hm : (n : Int) = m
  have HM := Lib.hid hm
  clear hm
  cases s
  · go_wp2
    go_ret2
    exact ⟨ret2 (by rw [HZ.out.1, H5.out]; have := HN.out; have := HM.out; have := H5.out; simp [sgn] at this ⊢; exact (wrap64_small n HM.out (by omega)).trans HM.out.symm) HZ.out.2.symm, eW⟩
  · have HP := Lib.hid (H6.out rfl)
    go_wp2
    go_ret2
    exact ⟨ret2 (by rw [HZ.out.1, H5.out]; have := HN.out; have := HP.out; have := H5.out; have := H4.out; simp [sgn]; exact neg_conv2 n HM.out (by omega) (by omega)) HZ.out.2.symm, eW⟩

end Go.Proofs.YtllijnecmekfeaaGreatDoor
end

section
set_option maxRecDepth 100000
namespace Go.Proofs.YtllijnecmekfeaaGreatDoor
open Go.RowKit
end Go.Proofs.YtllijnecmekfeaaGreatDoor
end

section
set_option maxRecDepth 100000
namespace Go.Proofs.YtllijnecmekfeaaGreatDoor
open Go.RowKit
def IsT (w : World) (e : Ending) (w' : World) : Prop := e = .returned (.bool true) ∧ Ext w w'
theorem qE_int {l : List Rat} {i : Nat} {x : Int} (h : l.getD i 0 = (x : Rat)) : (qE l).i (2 * i) = x := by
  show (if 2 * i % 2 = 0 then (l.getD (2 * i / 2) 0).num else _) = x
  rw [if_pos (by omega), show 2 * i / 2 = i by omega, h, Rat.num_intCast]
end Go.Proofs.YtllijnecmekfeaaGreatDoor
end

section
set_option maxRecDepth 100000
namespace Go.Proofs.YtllijnecmekfeaaGreatDoor
open Go.RowKit
end Go.Proofs.YtllijnecmekfeaaGreatDoor
end

section
set_option maxRecDepth 100000
namespace Go.Proofs.YtllijnecmekfeaaGreatDoor
open Go.RowKit
end Go.Proofs.YtllijnecmekfeaaGreatDoor
end

section
set_option maxRecDepth 100000
namespace Go.Proofs.YtllijnecmekfeaaGreatDoor
open Ieee
end Go.Proofs.YtllijnecmekfeaaGreatDoor
end

section
set_option maxRecDepth 100000
namespace Go.Proofs.YtllijnecmekfeaaGreatDoor
end Go.Proofs.YtllijnecmekfeaaGreatDoor
end

section
set_option maxRecDepth 100000
namespace Go.Proofs.YtllijnecmekfeaaGreatDoor
open Go.RowKit
end Go.Proofs.YtllijnecmekfeaaGreatDoor
end

section
set_option maxRecDepth 100000
namespace Go.Proofs.YtllijnecmekfeaaGreatDoor
open Go.RowKit
end Go.Proofs.YtllijnecmekfeaaGreatDoor
end

section
set_option maxRecDepth 100000
namespace Go.Proofs.YtllijnecmekfeaaGreatDoor
open Go.RowKit
end Go.Proofs.YtllijnecmekfeaaGreatDoor
end

section
set_option maxRecDepth 100000
namespace Go.Proofs.YtllijnecmekfeaaGreatDoor
open Go.RowKit
theorem one_arg {E : Env} {w : World} {args : List AV} {vs : List Value} {x : AV} {v : Value} (ha : args = [x]) (hv : vs = [v]) (h : ∀ β, x.holds E β w v) : ∀ (i : Nat) (y : AV), args[i]? = some y → ∃ u, vs[i]? = some u ∧ ∀ β, y.holds E β w u := by
  subst ha hv
  intro i y hy
  match i, hy with
  | 0, hy => injection hy with hy; subst hy; exact ⟨v, rfl, h⟩
end Go.Proofs.YtllijnecmekfeaaGreatDoor
end

section
set_option maxRecDepth 100000
namespace Go.Proofs.YtllijnecmekfeaaGreatDoor
open Go.RowKit
end Go.Proofs.YtllijnecmekfeaaGreatDoor
end

section
set_option maxRecDepth 100000
namespace Go.Proofs.YtllijnecmekfeaaGreatDoor
open Go.RowKit
end Go.Proofs.YtllijnecmekfeaaGreatDoor
end

section
set_option maxRecDepth 100000
namespace Go.Proofs.YtllijnecmekfeaaGreatDoor
open Go.RowKit
end Go.Proofs.YtllijnecmekfeaaGreatDoor
end

section
set_option maxRecDepth 100000
namespace Go.Proofs.YtllijnecmekfeaaGreatDoor
open Go.RowKit
end Go.Proofs.YtllijnecmekfeaaGreatDoor
end

section
set_option maxRecDepth 100000
namespace Go.Proofs.YtllijnecmekfeaaGreatDoor
open Go.RowKit
end Go.Proofs.YtllijnecmekfeaaGreatDoor
end

section
set_option maxRecDepth 100000
namespace Go.Proofs.YtllijnecmekfeaaGreatDoor
open Go.RowKit
end Go.Proofs.YtllijnecmekfeaaGreatDoor
end

section
set_option maxRecDepth 100000
namespace Go.Proofs.YtllijnecmekfeaaGreatDoor
open Go.RowKit
end Go.Proofs.YtllijnecmekfeaaGreatDoor
end

section
set_option maxRecDepth 100000
namespace Go.Proofs.YtllijnecmekfeaaGreatDoor
open Go.RowKit
end Go.Proofs.YtllijnecmekfeaaGreatDoor
end

section
set_option maxRecDepth 100000
namespace Go.Proofs.YtllijnecmekfeaaGreatDoor
open Go.RowKit
end Go.Proofs.YtllijnecmekfeaaGreatDoor
end

section
set_option maxRecDepth 100000
namespace Go.Proofs.YtllijnecmekfeaaGreatDoor
open Go.RowKit
end Go.Proofs.YtllijnecmekfeaaGreatDoor
end

section
set_option maxRecDepth 100000
namespace Go.Proofs.YtllijnecmekfeaaGreatDoor
open Go.RowKit
end Go.Proofs.YtllijnecmekfeaaGreatDoor
end

section
set_option maxRecDepth 100000
namespace Go.Proofs.YtllijnecmekfeaaGreatDoor
open Go.RowKit
end Go.Proofs.YtllijnecmekfeaaGreatDoor
end

section
set_option maxRecDepth 100000
namespace Go.Proofs.YtllijnecmekfeaaGreatDoor
open Go.RowKit
end Go.Proofs.YtllijnecmekfeaaGreatDoor
end

section
set_option maxRecDepth 100000
namespace Go.Proofs.YtllijnecmekfeaaGreatDoor
open Go.RowKit
def bools : List Bool := [true, false]
theorem bools_mem (b : Bool) : b ∈ bools := by cases b <;> decide
end Go.Proofs.YtllijnecmekfeaaGreatDoor
end

section
set_option maxRecDepth 100000
namespace Go.Proofs.YtllijnecmekfeaaGreatDoor
open Go.RowKit
end Go.Proofs.YtllijnecmekfeaaGreatDoor
end

section
set_option maxRecDepth 100000
namespace Go.Proofs.YtllijnecmekfeaaGreatDoor
open Go.RowKit
end Go.Proofs.YtllijnecmekfeaaGreatDoor
end

section
set_option maxRecDepth 100000
namespace Go.Proofs.YtllijnecmekfeaaGreatDoor
open Go.RowKit
end Go.Proofs.YtllijnecmekfeaaGreatDoor
end

section
set_option maxRecDepth 100000
namespace Go.Proofs.YtllijnecmekfeaaGreatDoor
open Go.RowKit
theorem sgQ'_num (a : Rat) : sgQ' a = cmpZ a.num 0 := by
  unfold sgQ'
  split
  · rename_i h
    rw [cmpZ_gt (num_pos' h)]
  · split
    · rename_i h
      subst h; rfl
    · rename_i h1 h2
      have : a.num < 0 := by
        have h3 : ¬ 0 ≤ a.num := fun k => by
          have := Rat.num_nonneg.1 k
          grind
        omega
      rw [cmpZ_lt this]
def qI (i : Nat) : IT2 := (.var i, .var (i + 1))
end Go.Proofs.YtllijnecmekfeaaGreatDoor
end

section
set_option maxRecDepth 100000
namespace Go.Proofs.YtllijnecmekfeaaGreatDoor
open Go.RowKit
end Go.Proofs.YtllijnecmekfeaaGreatDoor
end

section
set_option maxRecDepth 100000
namespace Go.Proofs.YtllijnecmekfeaaGreatDoor
open Go.RowKit
end Go.Proofs.YtllijnecmekfeaaGreatDoor
end

section
set_option maxRecDepth 100000
namespace Go.Proofs.YtllijnecmekfeaaGreatDoor
open Go.RowKit
theorem num_absQ {s : Rat} (h : s.num < 0) : (s.num.natAbs : Int) = (-s).num ∧ (s.den : Int) = ((-s).den : Int) := ⟨by rw [Rat.neg_num]; omega, by rw [Rat.neg_den]⟩
theorem cmp_sq (a s : Rat) (h0 : 0 ≤ s.num) : cmpZ (a.num * a.num * (s.den : Int)) ((s.num.natAbs : Int) * ((a.den : Int) * (a.den : Int))) = sgQ' (a * a - s) := by
  have da : (0 : Rat) < (a.den : Rat) := by
    have : ((0 : Nat) : Rat) < (a.den : Rat) := Rat.natCast_lt_natCast.2 a.den_pos
    exact this
  have ds : (0 : Rat) < (s.den : Rat) := by
    have : ((0 : Nat) : Rat) < (s.den : Rat) := Rat.natCast_lt_natCast.2 s.den_pos
    exact this
  have ea := mul_den' a
  have es := mul_den' s
  have e : (s.num.natAbs : Int) = s.num := by omega
  rw [e]
  have key : ((a.num * a.num * (s.den : Int) - s.num * ((a.den : Int) * (a.den : Int)) : Int) : Rat) = ((a.den : Rat) * (a.den : Rat) * (s.den : Rat)) * (a * a - s) := by
    rw [Rat.intCast_sub, Rat.intCast_mul, Rat.intCast_mul, Rat.intCast_mul, Rat.intCast_mul, ← ea, ← es]
    have e1 : (((a.den : Int)) : Rat) = (a.den : Rat) := rfl
    have e2 : (((s.den : Int)) : Rat) = (s.den : Rat) := rfl
    rw [e1, e2]
    grind
  have hk : (0 : Rat) < (a.den : Rat) * (a.den : Rat) * (s.den : Rat) := Rat.mul_pos (Rat.mul_pos da da) ds
  rw [← sgQ'_scale (a := a * a - s) hk, ← key, sgQ'_num, Rat.num_intCast]
  rcases cmpZ_cases (a.num * a.num * (s.den : Int)) (s.num * ((a.den : Int) * (a.den : Int))) with ⟨c, e⟩ | ⟨c, e⟩ | ⟨c, e⟩ <;> rw [e]
  · rw [cmpZ_lt (by omega)]
  · rw [cmpZ_eq (by omega)]
  · rw [cmpZ_gt (by omega)]
theorem sgS_sg2 {a b m : Rat} (hm : 0 ≤ m) : sgS a (ratF 7 b m) = sg2 a b m := by
  have hs : ∃ s : Rat, s = ratF 7 b m ∧ sgQ' s = sgQ' b * sgQ' m ∧ (s.num < 0 → -s = b * b * m) ∧ (0 ≤ s.num → s = b * b * m) := by
    refine ⟨_, rfl, ?_, ?_, ?_⟩
    · show sgQ' (if b.num < 0 then -(b * b * m) else b * b * m) = _
      by_cases h : b.num < 0
      · rw [if_pos h]
        have hb : sgQ' b = -1 := by rw [sgQ'_num, cmpZ_lt h]
        have e : -(b * b * m) = (-(b * b)) * m := by grind
        have : sgQ' (-(b * b)) = -1 := by
          have h1 : b < 0 := by
            have : ¬ 0 ≤ b := fun k => by have := Rat.num_nonneg.2 k; omega
            grind
          have := Rat.mul_pos (a := -b) (b := -b) (by grind) (by grind)
          exact sgQ'_neg (by grind)
        rw [e, sgQ'_mul, this, hb]
      · rw [if_neg h, sgQ'_mul, sgQ'_mul]
        have : sgQ' b = 1 ∨ sgQ' b = 0 := by
          rw [sgQ'_num]
          rcases cmpZ_cases b.num 0 with ⟨c, e⟩ | ⟨c, e⟩ | ⟨c, e⟩ <;> rw [e] <;> omega
        rcases this with e | e <;> rw [e] <;> rfl
    · show (if b.num < 0 then -(b * b * m) else b * b * m).num < 0 → -(if b.num < 0 then -(b * b * m) else b * b * m) = _
      intro h
      by_cases k : b.num < 0
      · rw [if_pos k]; grind
      · rw [if_neg k] at h
        have h1 : 0 ≤ b := Rat.num_nonneg.1 (by omega)
        have := Rat.num_nonneg.2 (Rat.mul_nonneg (Rat.mul_nonneg h1 h1) hm)
        omega
    · show 0 ≤ (if b.num < 0 then -(b * b * m) else b * b * m).num → (if b.num < 0 then -(b * b * m) else b * b * m) = _
      intro h
      by_cases k : b.num < 0
      · rw [if_pos k] at h ⊢
        have h0 := Rat.num_nonneg.1 h
        have h1 : b < 0 := by
          have : ¬ 0 ≤ b := fun k => by have := Rat.num_nonneg.2 k; omega
          grind
        have := Rat.mul_nonneg (Rat.mul_nonneg (a := -b) (b := -b) (by grind) (by grind)) hm
        grind
      · rw [if_neg k]
  obtain ⟨s, e, hsg, hn, hp⟩ := hs
  rw [← e]
  unfold sgS sg2 sumSg
  rw [← hsg]
  have ea : cmpZ a.num 0 = sgQ' a := (sgQ'_num a).symm
  have es : cmpZ s.num 0 = sgQ' s := (sgQ'_num s).symm
  rw [ea, es]
  by_cases h0 : s.num = 0
  · have z : sgQ' s = 0 := by rw [sgQ'_num, h0]; rfl
    rw [if_pos h0, z]
    by_cases ha : sgQ' a = 0
    · rw [if_pos ha, ha]
    · rw [if_neg ha, if_pos rfl]
  · have zs : sgQ' s ≠ 0 := by
      rw [sgQ'_num]
      rcases cmpZ_cases s.num 0 with ⟨c, e⟩ | ⟨c, e⟩ | ⟨c, e⟩ <;> rw [e] <;> omega
    rw [if_neg h0]
    have hc : cmpZ (a.num * a.num * (s.den : Int)) ((s.num.natAbs : Int) * ((a.den : Int) * (a.den : Int))) = sgQ' (a * a - b * b * m) := by
      rcases Int.lt_or_le s.num 0 with k | k
      · obtain ⟨e1, e2⟩ := num_absQ k
        have k' : 0 ≤ (-s).num := by rw [Rat.neg_num]; omega
        have := cmp_sq a (-s) k'
        rw [← e2, show ((-s).num.natAbs : Int) = (s.num.natAbs : Int) by rw [Rat.neg_num]; omega, hn k] at this
        exact this
      · rw [cmp_sq a s k, hp k]
    rw [hc]
    rcases sgQ'_range a with ra | ra | ra <;> rcases sgQ'_range s with rs | rs | rs <;> rw [ra, rs] <;> first | exact absurd rs zs | rfl | (simp)
end Go.Proofs.YtllijnecmekfeaaGreatDoor
end

section
set_option maxRecDepth 100000
namespace Go.Proofs.YtllijnecmekfeaaGreatDoor
open Go.RowKit
end Go.Proofs.YtllijnecmekfeaaGreatDoor
end

section
set_option maxRecDepth 100000
namespace Go.Proofs.YtllijnecmekfeaaGreatDoor
open Go.RowKit
def RatsQ (w : World) : List Value → List Rat → Prop
  | vs, [] => vs = []
  | vs, q :: l => ∃ x r, vs = x ++ r ∧ IsRat w (.agg x.toArray) q ∧ RatsQ w r l
def IsQs (w : World) (v : Value) (l : List Rat) : Prop := ∃ vs : List Value, v = .agg vs.toArray ∧ RatsQ w vs l
def LimQs (k : Nat) (l : List Rat) : Prop := ∀ q ∈ l, LimQ k q
end Go.Proofs.YtllijnecmekfeaaGreatDoor
end

section
set_option maxRecDepth 100000
namespace Go.Proofs.YtllijnecmekfeaaGreatDoor
open Go.RowKit
end Go.Proofs.YtllijnecmekfeaaGreatDoor
end

section
set_option maxRecDepth 100000
namespace Go.Proofs.YtllijnecmekfeaaGreatDoor
open Go.RowKit
end Go.Proofs.YtllijnecmekfeaaGreatDoor
end

section
set_option maxRecDepth 100000
namespace Go.Proofs.YtllijnecmekfeaaGreatDoor
open Go.RowKit
def kKq (chk : List AV → Bool) (r : AV) (k : Con) : Con := fun args G => if chk args then some r else k args G
structure KnownQ (E : Env) (f : Nat) (chk : List AV → Bool) (r : AV) : Prop where
  calls : ∀ args, chk args = true → ∀ (β : Nat → Nat) (w : World) (vs : List Value), (∀ (i : Nat) (x : AV), args[i]? = some x → ∃ v, vs[i]? = some v ∧ x.holds E β w v) → vs.length = args.length → Calls Tryz.prog f vs.toArray w fun e w' => ∃ v, e = .returned v ∧ (∀ β w', r.holds E β w' v) ∧ Ext w w'
  np : ∀ x off, r ≠ .ptr x off
def kNoQ : Con := fun _ _ => none
theorem kNoQ_ok {E : Env} {f : Nat} (hb : ∃ fn, Tryz.prog.funcs[f]? = some fn ∧ fn.name ≠ "runtime.NumGoroutine" ∧ fn.body.isNone = false) : ConOK Tryz.prog E f kNoQ := by
  refine ⟨?_, ?_, hb⟩
  · intro args G r h
    cases h
  · intro args G r h
    cases h
end Go.Proofs.YtllijnecmekfeaaGreatDoor
end

section
set_option maxRecDepth 100000
namespace Go.Proofs.YtllijnecmekfeaaGreatDoor
open Go.RowKit
end Go.Proofs.YtllijnecmekfeaaGreatDoor
end

section
set_option maxRecDepth 100000
namespace Go.Proofs.YtllijnecmekfeaaGreatDoor
open Go.RowKit
end Go.Proofs.YtllijnecmekfeaaGreatDoor
end

section
set_option maxRecDepth 100000
namespace Go.Proofs.YtllijnecmekfeaaGreatDoor
open Go.RowKit
end Go.Proofs.YtllijnecmekfeaaGreatDoor
end

section
set_option maxRecDepth 100000
namespace Go.Proofs.YtllijnecmekfeaaGreatDoor
open Go.RowKit
def t6 : List IT2 → List Chunk → Bool
  | [], [] => true
  | t :: ts, .int x _ :: .int y _ :: cs => x.beq t.1 && (y.beq t.2 && t6 ts cs)
  | _, _ => false
def c6 (ts : List IT2) : List AV → Bool
  | [.val true cs] => t6 ts cs
  | _ => false
def Reps (E : Env) : List IT2 → List Rat → Prop
  | [], [] => True
  | t :: ts, q :: qs => RepQ E t q ∧ Reps E ts qs
  | _, _ => False
theorem t6_holds {E : Env} {w : World} : ∀ {ts : List IT2} {cs : List Chunk} {qs : List Rat} {vs : List Value}, Reps E ts qs → t6 ts cs = true → chunks E w cs vs → RatsQ w vs qs
  | [], cs, [], vs, _, h, hc => by
    unfold t6 at h
    split at h
    · exact hc
    · contradiction
    · cases h
  | [], _, _ :: _, _, hr, _, _ => hr.elim
  | _ :: _, _, [], _, hr, _, _ => hr.elim
  | t :: ts, cs, q :: qs, vs, hr, h, hc => by
    unfold t6 at h
    split at h
    · contradiction
    · rename_i t' ts' x l y m cs' e
      cases e
      simp only [Bool.and_eq_true] at h
      obtain ⟨h1, h2, h3⟩ := h
      have e1 := IT.eq_of_beq h1
      have e2 := IT.eq_of_beq h2
      subst e1 e2
      obtain ⟨x, r, rfl, k1, k2⟩ := (two_chunks hr.1).1 hc
      exact ⟨x, r, rfl, k1.1, t6_holds hr.2 h3 k2⟩
    · cases h
theorem LimQ.mul' {l m k j : Nat} {a b : Rat} (h1 : Lim l a.num) (h2 : Lim m (a.den : Int)) (h3 : Lim k b.num) (h4 : Lim j (b.den : Int)) : Lim (l + k) (a * b).num ∧ Lim (m + j) ((a * b).den : Int) := by
  obtain ⟨m1, m2⟩ := mul_dq a b
  rw [← m1, ← m2]
  exact ⟨(h1.natAbs_le (dq_abs _ _)).mul (h3.natAbs_le (dq_abs _ _)), (h2.natAbs_le (dq_abs _ _)).mul (h4.natAbs_le (dq_abs _ _))⟩
theorem LimQ.sub' {l m k j n : Nat} {a b : Rat} (h1 : Lim l a.num) (h2 : Lim m (a.den : Int)) (h3 : Lim k b.num) (h4 : Lim j (b.den : Int)) (e1 : l + j < n) (e2 : k + m < n) : Lim n (a - b).num ∧ Lim (m + j) ((a - b).den : Int) := by
  rw [Rat.sub_eq_add_neg]
  have h3' : Lim k (-b).num := by rw [Rat.neg_num]; exact h3.neg
  have h4' : Lim j ((-b).den : Int) := h4
  obtain ⟨m1, m2⟩ := sum_dq a (-b) _ rfl
  rw [← m1, ← m2]
  refine ⟨Lim.natAbs_le ?_ (dq_abs _ _), (h2.natAbs_le (dq_abs _ _)).mul (h4'.natAbs_le (dq_abs _ _))⟩
  exact ((h1.mul (h4'.natAbs_le (dq_abs _ _))).add2 (h3'.mul (h2.natAbs_le (dq_abs _ _)))).mono (by omega)
end Go.Proofs.YtllijnecmekfeaaGreatDoor
end

section
set_option maxRecDepth 100000
namespace Go.Proofs.YtllijnecmekfeaaGreatDoor
open Go.RowKit
end Go.Proofs.YtllijnecmekfeaaGreatDoor
end

section
set_option maxRecDepth 100000
namespace Go.Proofs.YtllijnecmekfeaaGreatDoor
open Go.RowKit
end Go.Proofs.YtllijnecmekfeaaGreatDoor
end

section
set_option maxRecDepth 100000
namespace Go.Proofs.YtllijnecmekfeaaGreatDoor
open Go.RowKit
end Go.Proofs.YtllijnecmekfeaaGreatDoor
end

section
set_option maxRecDepth 100000
namespace Go.Proofs.YtllijnecmekfeaaGreatDoor
open Go.RowKit
structure KnownR (E : Env) (f : Nat) (chk : List AV → Bool) (r : AV) : Prop where
  calls : ∀ args, chk args = true → ∀ (β : Nat → Nat) (w : World) (vs : List Value), (∀ (i : Nat) (x : AV), args[i]? = some x → ∃ v, vs[i]? = some v ∧ x.holds E β w v) → vs.length = args.length → Calls Tryz.prog f vs.toArray w fun e w' => ∃ v, e = .returned v ∧ (∀ β, r.holds E β w' v) ∧ Ext w w'
  np : ∀ x off, r ≠ .ptr x off
theorem kKr_ok {E : Env} {f : Nat} {chk : List AV → Bool} {r : AV} {k : Con} (h : KnownR E f chk r) (hk : ConOK Tryz.prog E f k) : ConOK Tryz.prog E f (kKq chk r k) := by
  refine ⟨?_, ?_, hk.body⟩
  · intro args G s hs hG β w vs hv hl
    unfold kKq at hs
    split at hs
    · rename_i hc
      injection hs with hs
      subst hs
      refine (h.calls args hc β w vs hv hl).mono ?_
      rintro e w' ⟨v, rfl, h1, h2⟩
      exact ⟨v, rfl, h1 _, h2⟩
    · exact hk.calls args G s hs hG β w vs hv hl
  · intro args G s hs x off
    unfold kKq at hs
    split at hs
    · injection hs with hs
      subst hs
      exact h.np x off
    · exact hk.nptr args G s hs x off
end Go.Proofs.YtllijnecmekfeaaGreatDoor
end

section
set_option maxRecDepth 100000
namespace Go.Proofs.YtllijnecmekfeaaGreatDoor
open Go.RowKit
theorem Rd.nonneg {b c : Rat} (R : Rd b c) : 0 ≤ c := by
  rcases R with ⟨_, h⟩ | ⟨_, h, _⟩ <;> grind
end Go.Proofs.YtllijnecmekfeaaGreatDoor
end

section
set_option maxRecDepth 100000
namespace Go.Proofs.YtllijnecmekfeaaGreatDoor
open Go.RowKit
theorem sgN_sg2 {a b c : Rat} (R : Rd b c) : sgN a b c = sg2 a b c := by
  rw [← sgS_sgN R]
  exact sgS_sg2 R.nonneg
end Go.Proofs.YtllijnecmekfeaaGreatDoor
end

section
set_option maxRecDepth 100000
namespace Go.Proofs.YtllijnecmekfeaaGreatDoor
open Go.RowKit
end Go.Proofs.YtllijnecmekfeaaGreatDoor
end

section
set_option maxRecDepth 100000
namespace Go.Proofs.YtllijnecmekfeaaGreatDoor
open Go.RowKit
theorem rats3 {w : World} {vs : List Value} {a b c : Rat} (h : RatsQ w vs [a, b, c]) : IsRoot w (.agg vs.toArray) a b c := by
  obtain ⟨x, r, rfl, h1, y, s, rfl, h2, z, t, rfl, h3, rfl⟩ := h
  exact ⟨x, y, z, by rw [List.append_nil], h1, h2, h3⟩
end Go.Proofs.YtllijnecmekfeaaGreatDoor
end

section
set_option maxRecDepth 100000
namespace Go.Proofs.YtllijnecmekfeaaGreatDoor
open Go.RowKit
structure Rts (E : Env) (a b c a' b' c' : Rat) : Prop where
  r1 : RepQ E (qI 0) a
  r2 : RepQ E (qI 2) b
  r3 : RepQ E (qI 4) c
  r4 : RepQ E (qI 6) a'
  r5 : RepQ E (qI 8) b'
  r6 : RepQ E (qI 10) c'
end Go.Proofs.YtllijnecmekfeaaGreatDoor
end

section
set_option maxRecDepth 100000
namespace Go.Proofs.YtllijnecmekfeaaGreatDoor
open Go.RowKit
theorem lim_le {m : Nat} {x y : Int} (h : Lim m y) (h1 : 0 ≤ x) (h2 : x ≤ y) : Lim m x := h.natAbs_le (by omega)
theorem SimOK.lim {ln ld hn hd : Int} {r : Int × Int} (h : SimOK ln ld hn hd r) (h1 : 0 ≤ ln) (h2 : 0 < ld) (h3 : 0 < hn) (h4 : 0 ≤ hd) (hlt : ln * hd < hn * ld) (a1 : Lim 6 ln) (a2 : Lim 6 ld) (a3 : Lim 6 hn) (a4 : Lim 6 hd) : Lim 7 r.1 ∧ Lim 7 r.2 := by
  obtain ⟨j1, j2⟩ := h.least (ln + hn) (ld + hd) (by omega) (by rw [Int.mul_add, Int.add_mul]; omega) (by rw [Int.mul_add, Int.add_mul]; omega)
  have p1 := h.p1
  have p2 := h.p2
  exact ⟨lim_le (a1.add2 a3) (by omega) j1, lim_le (a2.add2 a4) (by omega) j2⟩
structure SmEnv (a b F T y G H : Rat) : Prop where
  hF : F = 1 / (b - (a.floor : Rat))
  hB : b - (a.floor : Rat) ≠ 0
  hG : G = 1 / ((F.floor : Rat) + 1)
  hG0 : (F.floor : Rat) + 1 ≠ 0
  lF : LimQ 8 F
  lG : LimQ 8 G
  ne : ¬ ((a.floor : Rat) + 1 < b) → a ≠ (a.floor : Rat) → T = 1 / (a - (a.floor : Rat)) ∧ LimQ 8 T ∧ H = 1 / y ∧ y ≠ 0 ∧ LimQ 8 H ∧ LimQ 8 y
end Go.Proofs.YtllijnecmekfeaaGreatDoor
end

section
set_option maxRecDepth 100000
namespace Go.Proofs.YtllijnecmekfeaaGreatDoor
open Go.RowKit
end Go.Proofs.YtllijnecmekfeaaGreatDoor
end

section
set_option maxRecDepth 100000
namespace Go.Proofs.YtllijnecmekfeaaGreatDoor
open Go.RowKit
end Go.Proofs.YtllijnecmekfeaaGreatDoor
end

section
set_option maxRecDepth 100000
namespace Go.Proofs.YtllijnecmekfeaaGreatDoor
open Go.RowKit
end Go.Proofs.YtllijnecmekfeaaGreatDoor
end

section
set_option maxRecDepth 100000
namespace Go.Proofs.YtllijnecmekfeaaGreatDoor
open Go.RowKit
end Go.Proofs.YtllijnecmekfeaaGreatDoor
end

section
set_option maxRecDepth 100000
namespace Go.Proofs.YtllijnecmekfeaaGreatDoor
open Go.RowKit
def ArgsQ (w : World) : List Value → List (List Rat) → Prop
  | [], [] => True
  | v :: vs, l :: ls => IsQs w v l ∧ ArgsQ w vs ls
  | _, _ => False
theorem qs_rat {w : World} {v : Value} {q : Rat} (h : IsQs w v [q]) : IsRat w v q := by
  obtain ⟨vs, rfl, x, r, rfl, h1, rfl⟩ := h
  rw [List.append_nil]
  exact h1
theorem qs_root {w : World} {v : Value} {a b c : Rat} (h : IsQs w v [a, b, c]) : IsRoot w v a b c := by
  obtain ⟨vs, rfl, h⟩ := h
  exact rats3 h
def limB (n : Nat) (q : Rat) : Bool := decide ((limbs q.num.natAbs).length ≤ n) && decide ((limbs (q.den : Int).natAbs).length ≤ n)
theorem limB_ok {n : Nat} {q : Rat} (h : limB n q = true) : LimQ n q := by
  unfold limB at h
  rw [Bool.and_eq_true, decide_eq_true_iff, decide_eq_true_iff] at h
  exact h
def lq (q : Rat) : IT2 := (.lit q.num, .lit (q.den : Int))
end Go.Proofs.YtllijnecmekfeaaGreatDoor
end

section
set_option maxRecDepth 100000
namespace Go.Proofs.YtllijnecmekfeaaGreatDoor
open Go.RowKit
end Go.Proofs.YtllijnecmekfeaaGreatDoor
end

section
set_option maxRecDepth 100000
namespace Go.Proofs.YtllijnecmekfeaaGreatDoor
open Go.RowKit
end Go.Proofs.YtllijnecmekfeaaGreatDoor
end

section
set_option maxRecDepth 100000
namespace Go.Proofs.YtllijnecmekfeaaGreatDoor
open Go.RowKit
def cts : List (List IT2) → List AV → Bool
  | [], [] => true
  | l :: ls, .val true cs :: xs => t6 l cs && cts ls xs
  | _, _ => false
def RepsL (E : Env) : List (List IT2) → List (List Rat) → Prop
  | [], [] => True
  | t :: ts, q :: qs => Reps E t q ∧ RepsL E ts qs
  | _, _ => False
theorem cts_holds {E : Env} {β : Nat → Nat} {w : World} : ∀ {ts : List (List IT2)} {ls : List (List Rat)} {args : List AV} {vs : List Value}, RepsL E ts ls → cts ts args = true → (∀ (i : Nat) (x : AV), args[i]? = some x → ∃ v, vs[i]? = some v ∧ x.holds E β w v) → vs.length = args.length → ArgsQ w vs ls
  | [], [], args, vs, _, h, hv, hl => by
    unfold cts at h
    split at h
    · match vs, hl with
      | [], _ => exact trivial
    · contradiction
    · cases h
  | [], _ :: _, _, _, hr, _, _, _ => hr.elim
  | _ :: _, [], _, _, hr, _, _, _ => hr.elim
  | t :: ts, l :: ls, args, vs, hr, h, hv, hl => by
    unfold cts at h
    split at h
    · contradiction
    · rename_i l' ls' cs xs e
      cases e
      rw [Bool.and_eq_true] at h
      obtain ⟨v, h1, h2⟩ := hv 0 _ rfl
      match vs, hl, h1 with
      | u :: us, hl, h1 =>
        injection h1 with h1
        subst h1
        obtain ⟨ys, rfl, hy⟩ := h2
        exact ⟨⟨ys, rfl, t6_holds hr.1 h.1 hy⟩, cts_holds hr.2 h.2 (fun i x hx => hv (i + 1) x hx) (by simpa using hl)⟩
    · cases h
theorem knownT {E : Env} {f : Nat} {ts : List (List IT2)} {ls : List (List Rat)} {r : AV} (hr : RepsL E ts ls) (np : ∀ x off, r ≠ .ptr x off) (h : ∀ (w : World) (vs : List Value), ArgsQ w vs ls → Calls Tryz.prog f vs.toArray w fun e w' => ∃ x, e = .returned x ∧ (∀ β, r.holds E β w' x) ∧ Ext w w') : KnownR E f (cts ts) r :=
  ⟨fun _ hc _ w vs hv hl => h w vs (cts_holds hr hc hv hl), np⟩
end Go.Proofs.YtllijnecmekfeaaGreatDoor
end

section
set_option maxRecDepth 100000
namespace Go.Proofs.YtllijnecmekfeaaGreatDoor
open Go.RowKit
def kSqX (b : Bool) : Con
  | [x], _ => match qOf x with
    | some (C, m) => if (C.1.beq (qv 2).1 && C.2.beq (qv 2).2) && decide (m ≤ 4) then some (if b then .tup [(true, [.int (qv 3).1 4, .int (qv 3).2 4]), (false, [.b (.lit true)])] else .tup [(true, [.int (.lit 0) 0, .int (.lit 0) 0]), (false, [.b (.lit false)])]) else none
    | none => none
  | _, _ => none
theorem kSqX_ok {a b c s : Rat} {x : Bool} (lc : LimQ 4 c) (hx : (sqB c.num && sqB (c.den : Int)) = x) (hs : x = true → s.num = isq c.num ∧ (s.den : Int) = isq (c.den : Int)) {f : Nat}
    (hc : ∀ (w : World) (v : Value) (n d : Int), IsPair w v n d → Lim 100000 n → Lim 100000 d → Calls Tryz.prog f #[v] w (RetSqQ n d w))
    (hb : ∃ fn, Tryz.prog.funcs[f]? = some fn ∧ fn.name ≠ "runtime.NumGoroutine" ∧ fn.body.isNone = false) : ConOK Tryz.prog (qE [a, b, c, s]) f (kSqX x) := by
  have rc : RepQ (qE [a, b, c, s]) (qv 2) c := rep_v (i := 2)
  have rs : RepQ (qE [a, b, c, s]) (qv 3) s := rep_v (i := 3)
  refine ⟨?_, ?_, hb⟩
  · intro args G r h hG β w vs hv hlen
    unfold kSqX at h
    split at h
    · split at h
      · rename_i y C m hy
        split at h
        · rename_i hcd
          simp only [Bool.and_eq_true, decide_eq_true_iff] at hcd
          injection h with h
          subst h
          obtain ⟨v, rfl, h1⟩ := args1 hv hlen
          obtain ⟨q, rq', iq, lq⟩ := qOf_spec (qE_ok _) hy h1
          have e1 : q.num = c.num := by rw [← rq'.1, ← rc.1, IT.eq_of_beq hcd.1.1]
          have e2 : (q.den : Int) = (c.den : Int) := by rw [← rq'.2, ← rc.2, IT.eq_of_beq hcd.1.2]
          have hp : IsPair w v c.num (c.den : Int) := by
            have h0 : IsPair w v q.num (q.den : Int) := iq
            rw [e1, e2] at h0
            exact h0
          refine (hc w v _ _ hp (lc.1.mono (by omega)) (lc.2.mono (by omega))).mono ?_
          rintro e w' ⟨u, rfl, hr, ex⟩
          unfold sqN at hr
          rw [hx] at hr ⊢
          cases x with
          | true =>
            obtain ⟨s1, s2⟩ := hs rfl
            rw [if_pos rfl, if_pos rfl, ← s1, ← s2] at hr
            exact ⟨_, rfl, ⟨[u, .bool true], rfl, u, _, rfl, (one_q rs).2 ⟨hr, by rw [s1]; exact isq_lim lc.1, by rw [s2]; exact isq_lim lc.2⟩, _, _, rfl, one_bool.2 rfl, rfl⟩, ex⟩
          | false =>
            rw [if_neg (by decide), if_neg (by decide)] at hr
            exact ⟨_, rfl, ⟨[u, .bool false], rfl, u, _, rfl, one_pair.2 ⟨hr, lim_zero, lim_zero⟩, _, _, rfl, one_bool.2 rfl, rfl⟩, ex⟩
        · cases h
      · cases h
    · cases h
  · intro args G r h y off
    unfold kSqX at h
    split at h
    · split at h
      · split at h
        · injection h with h; subst h; cases x <;> (intro e; cases e)
        · cases h
      · cases h
    · cases h
def mkA : IT2 := qop 0 (qv 0) (qop 2 (qv 1) (qv 3))
end Go.Proofs.YtllijnecmekfeaaGreatDoor
end

section
set_option maxRecDepth 100000
namespace Go.Proofs.YtllijnecmekfeaaGreatDoor
open Go.RowKit Go.Shelf
def allL6 : Tree → Bool
  | .leaf [(false, [.b t])] => t.ev [] == some true
  | .leaf _ => false
  | .ite _ x y => allL6 x && allL6 y
theorem allL6_out {E : Env} {β : Nat → Nat} {w : World} {v : Value} : ∀ {T : Tree}, allL6 T = true → (toAV (T.pick E)).holds E β w v → v = .bool true := by
  intro T
  induction T with
  | leaf l =>
    intro h hh
    unfold allL6 at h
    split at h
    · rename_i t e
      injection e with e
      subst e
      rw [one_bool.1 hh, BT.ev_spec (E := E) no_asm (beq_iff_eq.1 h)]
    · cases h
    · rename_i e
      cases e
  | ite b x y ihx ihy =>
    intro h hh
    simp only [allL6, Bool.and_eq_true] at h
    simp only [Tree.pick] at hh
    split at hh
    · exact ihx h.1 hh
    · exact ihy h.2 hh
def okL6 : Option Tree → Bool
  | some T => allL6 T
  | none => false
theorem okL6_spec {o : Option Tree} (h : okL6 o = true) : ∃ T, o = some T ∧ allL6 T = true := by
  cases o with
  | none => cases h
  | some T => exact ⟨T, rfl, h⟩
theorem aw6_walk : okL6 (funE (cfgW WQ tabAw6) Tryz.f11 [] []) = true := by kernel_rfl
theorem awake6_calls (w : World) (hW : WQ w) : Calls Tryz.prog 11 #[] w (IsT w) := by
  obtain ⟨T, hT, hall⟩ := okL6_spec aw6_walk
  refine (fun_sound (E := qE []) mixed (cfgW_ok (tabAw6_ok (qE_ok _))) no_asm Tryz.func11 (by decide +kernel) hT (by decide +kernel) rfl w [] rfl (fun i x hx => by simp at hx) (fun w' e => hW.ext e)).mono ?_
  rintro e w' ⟨β, u, rfl, hh, ex⟩
  rw [allL6_out hall hh]
  exact ⟨rfl, ex⟩
def kAw6 : Con
  | [], _ => some (.val false [.b (.lit true)])
  | _, _ => none
theorem kAw6_ok {E : Env} : ConW Tryz.prog WQ E 11 kAw6 := by
  refine ⟨?_, ?_, ⟨_, Tryz.func11, by decide +kernel, by kernel_rfl⟩⟩
  · intro args G r h hG β w vs hW hv hlen
    unfold kAw6 at h
    split at h
    · injection h with h
      subst h
      obtain rfl : vs = [] := by simpa using hlen
      refine (awake6_calls w hW).mono ?_
      rintro e w' ⟨rfl, ex⟩
      exact ⟨_, rfl, one_bool.2 rfl, ex⟩
    · cases h
  · intro args G r h x off
    unfold kAw6 at h
    split at h
    · injection h with h; subst h; intro e; cases e
    · cases h
theorem LimQ.add6 {l m k j n : Nat} {a b : Rat} (h1 : Lim l a.num) (h2 : Lim m (a.den : Int)) (h3 : Lim k b.num) (h4 : Lim j (b.den : Int)) (e1 : l + j < n) (e2 : k + m < n) : Lim n (a + b).num ∧ Lim (m + j) ((a + b).den : Int) := by
  have e : a + b = a - (-b) := by grind
  rw [e]
  exact LimQ.sub' h1 h2 (by rw [Rat.neg_num]; exact h3.neg) (show Lim j ((-b).den : Int) from h4) e1 e2
def isRt2 (A B C : IT2) : Option Tree → Bool
  | some (.leaf [(true, [.int a _, .int a' _, .int b _, .int b' _, .int c _, .int c' _]), (false, [.n .i64 (.lit z)])]) => (a.beq A.1 && a'.beq A.2) && ((b.beq B.1 && b'.beq B.2) && ((c.beq C.1 && c'.beq C.2) && z == 0))
  | _ => false
theorem isRt2_spec {A B C : IT2} {o : Option Tree} (h : isRt2 A B C o = true) : ∃ l1 l2 l3 l4 l5 l6, o = some (.leaf [(true, [.int A.1 l1, .int A.2 l2, .int B.1 l3, .int B.2 l4, .int C.1 l5, .int C.2 l6]), (false, [.n .i64 (.lit 0)])]) := by
  unfold isRt2 at h
  split at h
  · simp only [Bool.and_eq_true, beq_iff_eq] at h
    obtain ⟨⟨h1, h2⟩, ⟨h3, h4⟩, ⟨h5, h6⟩, rfl⟩ := h
    rw [IT.eq_of_beq h1, IT.eq_of_beq h2, IT.eq_of_beq h3, IT.eq_of_beq h4, IT.eq_of_beq h5, IT.eq_of_beq h6]
    exact ⟨_, _, _, _, _, _, rfl⟩
  · cases h
noncomputable def tabMk6 (x : Bool) : List (Nat × Con) := [(101, kSqX x)]
noncomputable def mkW (x : Bool) (G : Asm) : Option Tree := funE (cR (tabMk6 x)) Tryz.f49 G [aQl 0 8, aQl 1 3, aQl 2 3]
def gNn : BT × Bool := (.lt (sgt (qv 2)) (.lit 0), false)
theorem mk_sq : isRt2 mkA q0 q0 (mkW true [gNn]) = true := by kernel_rfl
theorem mk_b0 : isRt2 (qv 0) q0 q0 (mkW false [gNn, (zt (qv 1), true)]) = true := by kernel_rfl
theorem mk_rt : isRt2 (qv 0) (qv 1) (qv 2) (mkW false [gNn, (zt (qv 1), false), (zt (qv 2), false)]) = true := by kernel_rfl
theorem make_ex {a b c : Rat} (hc : 0 ≤ c) (la : LimQ 8 a) (lb : LimQ 3 b) (lc : LimQ 3 c) : ∃ a' b' c' : Rat, Rd b' c' ∧ LimR 20 a' b' c' ∧ (b' ≠ 0 → c' = c) ∧ ∀ (w : World) (v1 v2 v3 : Value), IsRat w v1 a → IsRat w v2 b → IsRat w v3 c →
    Calls Tryz.prog 49 #[v1, v2, v3] w fun e w' => ∃ x, e = .returned (.tuple #[x, .int .i64 0]) ∧ IsRoot w' x a' b' c' ∧ Ext w w' := by
  have up : ∀ {n m : Nat} {q : Rat}, n ≤ m → LimQ n q → LimQ m q := fun h l => ⟨l.1.mono h, l.2.mono h⟩
  have lz : LimQ 20 (0 : Rat) := limB_ok (by decide +kernel)
  have run : ∀ (x : Bool) (s : Rat) (G : Asm) (A B C : IT2) (a' b' c' : Rat), (sqB c.num && sqB (c.den : Int)) = x → (x = true → s.num = isq c.num ∧ (s.den : Int) = isq (c.den : Int)) → G.holds (qE [a, b, c, s]) → isRt2 A B C (mkW x G) = true → RepQ (qE [a, b, c, s]) A a' → RepQ (qE [a, b, c, s]) B b' → RepQ (qE [a, b, c, s]) C c' →
      ∀ (w : World) (v1 v2 v3 : Value), IsRat w v1 a → IsRat w v2 b → IsRat w v3 c → Calls Tryz.prog 49 #[v1, v2, v3] w fun e w' => ∃ x, e = .returned (.tuple #[x, .int .i64 0]) ∧ IsRoot w' x a' b' c' ∧ Ext w w' := by
    intro x s G A B C a' b' c' hx hs hG hT rA rB rC w v1 v2 v3 h1 h2 h3
    obtain ⟨l1, l2, l3, l4, l5, l6, hT⟩ := isRt2_spec hT
    have hC : CfgOK Tryz.prog (qE [a, b, c, s]) (cR (tabMk6 x)) := cR_ok (qE_ok _) (.cons (kSqX_ok (up (by omega) lc) hx hs (fun w v n d h l m => rsqrtQ_calls w v n d h l m) ⟨_, Tryz.func101, by decide +kernel, by kernel_rfl⟩) .nil)
    refine (fun_sound mixed hC hG Tryz.func49 (by decide +kernel) hT (by decide +kernel) rfl w [v1, v2, v3] rfl ?_).mono ?_
    · intro i t ht
      match i, ht with
      | 0, ht => injection ht with ht; subst ht; exact ⟨fun _ => 0, v1, rfl, aQl_holds (i := 0) h1 la⟩
      | 1, ht => injection ht with ht; subst ht; exact ⟨fun _ => 0, v2, rfl, aQl_holds (i := 1) h2 lb⟩
      | 2, ht => injection ht with ht; subst ht; exact ⟨fun _ => 0, v3, rfl, aQl_holds (i := 2) h3 lc⟩
    · rintro e w' ⟨β, y, rfl, ⟨vs, rfl, u1, r1, rfl, k1, u2, r2, rfl, k2, hn⟩, ex⟩
      simp only [tupAll] at hn
      subst hn
      have k2' : u2 = .int .i64 0 := one_num.1 k2
      subst k2'
      exact ⟨u1, rfl, ((one_root rA rB rC).1 k1).1, ex⟩
  have gn : ∀ s, (gNn).1.den (qE [a, b, c, s]) = false := fun s => by
    have rc : RepQ (qE [a, b, c, s]) (qv 2) c := rep_v (i := 2)
    show decide ((sgt (qv 2)).den _ < 0) = false
    rw [sgt_den rc]
    rcases sgQ_cases c with ⟨k, e⟩ | ⟨k, e⟩ | ⟨k, e⟩ <;> rw [e] <;> first | rfl | exact absurd k (by grind)
  have zq : ∀ (s : Rat), (zt (qv 1)).den (qE [a, b, c, s]) = decide (b = 0) ∧ (zt (qv 2)).den (qE [a, b, c, s]) = decide (c = 0) := fun s => ⟨zt_den (rep_v (i := 1)), zt_den (rep_v (i := 2))⟩
  cases hx : (sqB c.num && sqB (c.den : Int)) with
  | true =>
    have hx' := hx
    rw [Bool.and_eq_true] at hx'
    obtain ⟨s, s1, s2⟩ := root_rat hx'.1 hx'.2
    have ls : LimQ 3 s := ⟨by rw [s1]; exact isq_lim lc.1, by rw [s2]; exact isq_lim lc.2⟩
    have m1 := LimQ.mul' lb.1 lb.2 ls.1 ls.2
    have m2 := LimQ.add6 (n := 20) la.1 la.2 m1.1 m1.2 (by omega) (by omega)
    refine ⟨a + b * s, 0, 0, .inl ⟨rfl, rfl⟩, ⟨⟨m2.1, m2.2.mono (by omega)⟩, lz, lz⟩, fun h => absurd rfl h, run true s [gNn] mkA q0 q0 _ _ _ hx (fun _ => ⟨s1, s2⟩) (asm_and (gn s) asm_nil) mk_sq ?_ rep_0 rep_0⟩
    exact rep_add (rep_v (i := 0)) (rep_mul (rep_v (i := 1)) (rep_v (i := 3)))
  | false =>
    by_cases hb : b = 0
    · exact ⟨a, 0, 0, .inl ⟨rfl, rfl⟩, ⟨up (by omega) la, lz, lz⟩, fun h => absurd rfl h, run false 0 [gNn, (zt (qv 1), true)] (qv 0) q0 q0 _ _ _ hx (fun h => by cases h) (asm_and (gn 0) (asm_and (by rw [(zq 0).1, decide_eq_true hb]) asm_nil)) mk_b0 (rep_v (i := 0)) rep_0 rep_0⟩
    · have hc0 : c ≠ 0 := by
        intro h
        rw [h] at hx
        revert hx
        decide +kernel
      have hcp : 0 < c := by grind
      exact ⟨a, b, c, Rdb_iff.1 (by rw [Rdb_cases, if_neg hb, if_pos hcp, hx]; rfl), ⟨up (by omega) la, up (by omega) lb, up (by omega) lc⟩, fun _ => rfl, run false 0 [gNn, (zt (qv 1), false), (zt (qv 2), false)] (qv 0) (qv 1) (qv 2) _ _ _ hx (fun h => by cases h) (asm_and (gn 0) (asm_and (by rw [(zq 0).1, decide_eq_false hb]) (asm_and (by rw [(zq 0).2, decide_eq_false hc0]) asm_nil))) mk_rt (rep_v (i := 0)) (rep_v (i := 1)) (rep_v (i := 2))⟩
end Go.Proofs.YtllijnecmekfeaaGreatDoor
end

section
set_option maxRecDepth 100000
namespace Go.Proofs.YtllijnecmekfeaaGreatDoor
open Go.RowKit Go.Shelf
def cfr (t u : IT) : List AV → Bool
  | [.val false [.n .i64 x], .val false [.n .i64 y]] => x.beq t && y.beq u
  | _ => false
theorem frac_known {E : Env} {t u : IT} {q : IT2} {n d : Int} (ht : t.den E = n) (hu : u.den E = d) (hn : I64 n) (hd : I64 d) (hq : RepQ E q (Rat.divInt n d)) : KnownR E 22 (cfr t u) (.val true [.int q.1 3, .int q.2 3]) := by
  refine ⟨?_, fun x off e => by cases e⟩
  intro args hc β w vs hv hl
  unfold cfr at hc
  split at hc
  · rw [Bool.and_eq_true] at hc
    have e1 := IT.eq_of_beq hc.1
    have e2 := IT.eq_of_beq hc.2
    subst e1 e2
    obtain ⟨v, x, rfl, h1, h2⟩ := args2 hv hl
    have h1' := one_num.1 h1
    have h2' := one_num.1 h2
    subst h1' h2'
    rw [ht, hu]
    refine (rfrac_rat_calls w n d hn hd).mono ?_
    rintro e w' ⟨y, rfl, hy, ex⟩
    have l := frac_lim hn hd
    exact ⟨y, rfl, fun β => (one_q hq).2 ⟨hy, l.1, l.2⟩, ex⟩
  · cases hc
def surdV (A B C D E F : Int) : Value := .agg #[.int .i16 A, .int .i16 B, .int .u16 C, .int .u8 D, .int .u8 E, .int .u8 F]
def surdA : AV := .val true [.n .i16 (.var 6), .n .i16 (.var 8), .n .u16 (.var 10), .n .u8 (.var 12), .n .u8 (.var 14), .n .u8 (.var 16)]
def nT (i : Nat) : IT := .a1 20 (.var i)
def dT6 (i : Nat) : IT := .a1 20 (.a2 0 (.a1 20 (.var i)) (.lit 1))
def aQ3 (i : Nat) : AV := .val true [.int (.var i) 3, .int (.var (i + 1)) 3]
def tMk6 : List (List IT2) := [[qI 0], [qI 2], [qI 4]]
def rtX : List Chunk := rt (qI 18) (qI 20) (qI 22) 20
noncomputable def tabOf6 : List (Nat × Con) :=
  (22, kKq (cfr (nT 6) (dT6 12)) (aQ3 0) (kKq (cfr (nT 8) (dT6 14)) (aQ3 2) (kKq (cfr (nT 10) (dT6 16)) (aQ3 4) kNoQ))) ::
  (49, kKq (cts tMk6) (.tup [(true, rtX), (false, [.n .i64 (.lit 0)])]) kNoQ) :: []
theorem of6_walk : funE (cfgOf tabOf6) Tryz.f27 [] [surdA] = some (.leaf [(true, rtX)]) := by kernel_rfl
structure SurdOK (A B C D E F : Int) : Prop where
  a : -32768 ≤ A ∧ A ≤ 32767
  b : -32768 ≤ B ∧ B ≤ 32767
  c : 0 ≤ C ∧ C ≤ 65535
  d : 0 ≤ D ∧ D ≤ 255
  e : 0 ≤ E ∧ E ≤ 255
  f : 0 ≤ F ∧ F ≤ 255
theorem surd_holds {E : Env} {β : Nat → Nat} {w : World} {a b c d e f : Int} (h1 : E.i 6 = a) (h2 : E.i 8 = b) (h3 : E.i 10 = c) (h4 : E.i 12 = d) (h5 : E.i 14 = e) (h6 : E.i 16 = f) : surdA.holds E β w (surdV a b c d e f) := by
  subst h1 h2 h3 h4 h5 h6
  exact ⟨[_, _, _, _, _, _], rfl, [_], _, rfl, rfl, [_], _, rfl, rfl, [_], _, rfl, rfl, [_], _, rfl, rfl, [_], _, rfl, rfl, [_], [], rfl, rfl, rfl⟩
theorem argsQ3 {w : World} {vs : List Value} {l m n : List Rat} (h : ArgsQ w vs [l, m, n]) : ∃ v u x, vs = [v, u, x] ∧ IsQs w v l ∧ IsQs w u m ∧ IsQs w x n := by
  match vs, h with
  | [v, u, x], h => exact ⟨v, u, x, rfl, h.1, h.2.1, h.2.2.1⟩
theorem divInt_nn {n d : Int} (hn : 0 ≤ n) (hd : 0 < d) : 0 ≤ Rat.divInt n d := Rat.divInt_nonneg hn (by omega)
theorem of_ex (A B C D E F : Int) (h : SurdOK A B C D E F) : ∃ a b c : Rat, Rd b c ∧ LimR 20 a b c ∧ ∀ w : World, Calls Tryz.prog 27 #[surdV A B C D E F] w (Ret (fun x w' => IsRoot w' x a b c) w) := by
  obtain ⟨⟨a1, a2⟩, ⟨b1, b2⟩, ⟨c1, c2⟩, ⟨d1, d2⟩, ⟨e1, e2⟩, ⟨f1, f2⟩⟩ := h
  have i64 : ∀ z : Int, -32768 ≤ z → z ≤ 65536 → I64 z := fun z h1 h2 => ⟨by omega, by omega⟩
  obtain ⟨qa, hqa⟩ : ∃ q, q = Rat.divInt A (D + 1) := ⟨_, rfl⟩
  obtain ⟨qb, hqb⟩ : ∃ q, q = Rat.divInt B (E + 1) := ⟨_, rfl⟩
  obtain ⟨qc, hqc⟩ : ∃ q, q = Rat.divInt C (F + 1) := ⟨_, rfl⟩
  have la := frac_lim (n := A) (d := D + 1) (i64 _ (by omega) (by omega)) (i64 _ (by omega) (by omega))
  have lb := frac_lim (n := B) (d := E + 1) (i64 _ (by omega) (by omega)) (i64 _ (by omega) (by omega))
  have lc := frac_lim (n := C) (d := F + 1) (i64 _ (by omega) (by omega)) (i64 _ (by omega) (by omega))
  rw [← hqa] at la
  rw [← hqb] at lb
  rw [← hqc] at lc
  obtain ⟨a', b', c', R, lr, _, hm⟩ := make_ex (a := qa) (b := qb) (c := qc) (by rw [hqc]; exact divInt_nn c1 (by omega)) ⟨la.1.mono (by omega), la.2.mono (by omega)⟩ lb lc
  refine ⟨a', b', c', R, lr, fun w => ?_⟩
  obtain ⟨V, hV⟩ : ∃ V, V = qE [qa, qb, qc, (A : Rat), (B : Rat), (C : Rat), (D : Rat), (E : Rat), (F : Rat), a', b', c'] := ⟨_, rfl⟩
  have ra : RepQ V (qI 0) qa := by rw [hV]; exact ⟨rfl, rfl⟩
  have rb : RepQ V (qI 2) qb := by rw [hV]; exact ⟨rfl, rfl⟩
  have rc : RepQ V (qI 4) qc := by rw [hV]; exact ⟨rfl, rfl⟩
  have rx : RepQ V (qI 18) a' := by rw [hV]; exact ⟨rfl, rfl⟩
  have ry : RepQ V (qI 20) b' := by rw [hV]; exact ⟨rfl, rfl⟩
  have rz : RepQ V (qI 22) c' := by rw [hV]; exact ⟨rfl, rfl⟩
  have vA : V.i 6 = A := by rw [hV]; exact qE_int (i := 3) rfl
  have vB : V.i 8 = B := by rw [hV]; exact qE_int (i := 4) rfl
  have vC : V.i 10 = C := by rw [hV]; exact qE_int (i := 5) rfl
  have vD : V.i 12 = D := by rw [hV]; exact qE_int (i := 6) rfl
  have vE : V.i 14 = E := by rw [hV]; exact qE_int (i := 7) rfl
  have vF : V.i 16 = F := by rw [hV]; exact qE_int (i := 8) rfl
  have nt : ∀ {i : Nat} {z : Int}, V.i i = z → -32768 ≤ z → z ≤ 65536 → (nT i).den V = z := by
    intro i z hi h1 h2
    show IntKind.i64.wrap (V.i i) = z
    rw [hi]; exact IntWalk.i64_in _ (by omega)
  have dt : ∀ {i : Nat} {z : Int}, V.i i = z → 0 ≤ z → z ≤ 255 → (dT6 i).den V = z + 1 := by
    intro i z hi h1 h2
    show IntKind.i64.wrap (IntKind.i64.wrap (V.i i) + 1) = z + 1
    rw [hi, IntWalk.i64_in z (by omega)]; exact IntWalk.i64_in _ (by omega)
  have hT : TabOK Tryz.prog V tabOf6 := by
    refine .cons (kKr_ok (frac_known (q := qI 0) (nt vA (by omega) (by omega)) (dt vD (by omega) (by omega)) (i64 _ (by omega) (by omega)) (i64 _ (by omega) (by omega)) (by rw [← hqa]; exact ra)) <|
      kKr_ok (frac_known (q := qI 2) (nt vB (by omega) (by omega)) (dt vE (by omega) (by omega)) (i64 _ (by omega) (by omega)) (i64 _ (by omega) (by omega)) (by rw [← hqb]; exact rb)) <|
      kKr_ok (frac_known (q := qI 4) (nt vC (by omega) (by omega)) (dt vF (by omega) (by omega)) (i64 _ (by omega) (by omega)) (i64 _ (by omega) (by omega)) (by rw [← hqc]; exact rc)) (kNoQ_ok ⟨_, Tryz.func22, by decide +kernel, by kernel_rfl⟩)) <|
      .cons (kKr_ok (knownT (ls := [[qa], [qb], [qc]]) ⟨⟨ra, trivial⟩, ⟨rb, trivial⟩, ⟨rc, trivial⟩, trivial⟩ (fun x off e => by cases e) fun w vs hv => ?_) (kNoQ_ok ⟨_, Tryz.func49, by decide +kernel, by kernel_rfl⟩)) .nil
    obtain ⟨v1, v2, v3, rfl, k1, k2, k3⟩ := argsQ3 hv
    refine (hm w v1 v2 v3 (qs_rat k1) (qs_rat k2) (qs_rat k3)).mono ?_
    rintro e w' ⟨x, rfl, hx, ex⟩
    exact ⟨_, rfl, fun β => ⟨[x, .int .i64 0], rfl, _, _, rfl, (one_root rx ry rz).2 ⟨hx, lr⟩, _, _, rfl, one_num.2 rfl, rfl⟩, ex⟩
  refine (fun_sound mixed (cfg_ok hT) no_asm Tryz.func27 (by decide +kernel) of6_walk (by decide +kernel) rfl w [_] rfl ?_).mono ?_
  · intro i x hx
    match i, hx with
    | 0, hx => injection hx with hx; subst hx; exact ⟨fun _ => 0, _, rfl, surd_holds vA vB vC vD vE vF⟩
  · rintro e w' ⟨β, y, rfl, hh, ex⟩
    exact ⟨y, rfl, ((one_root rx ry rz).1 hh).1, ex⟩
def cSurd : List AV → Bool
  | [.val true [.n .i16 (.var 6), .n .i16 (.var 8), .n .u16 (.var 10), .n .u8 (.var 12), .n .u8 (.var 14), .n .u8 (.var 16)]] => true
  | _ => false
noncomputable def tabR6 : List (Nat × Con) := (36, kRNg false) :: (86, kRFl) :: (92, kRSg) :: tabRo
theorem tabR6_ok {E : Env} (hE : QEnv E) : TabOK Tryz.prog E tabR6 :=
  .cons (kRNg_ok hE (fun w v a b c h hr hl => r_neg hr hl) ⟨_, Tryz.func36, by decide +kernel, by kernel_rfl⟩) <|
  .cons (kRFl_ok hE (fun _ _ _ _ _ R h l => r_floor4 R h l) (fun _ _ _ _ _ R h l => r_floor50 R h l) (fun _ _ _ _ _ R h l => r_floor R h l) ⟨_, Tryz.func86, by decide +kernel, by kernel_rfl⟩) <|
  .cons (kRSg_ok hE (fun _ _ _ _ _ R h l => r_sign R h l) ⟨_, Tryz.func92, by decide +kernel, by kernel_rfl⟩) (tabRo_ok hE)
noncomputable def cR6a : Cfg := cfgI (cR tabR6) (cR tabR6) [(87, Tryz.f87), (75, Tryz.f75)]
theorem cR6a_ok {E : Env} (hE : QEnv E) : CfgOK Tryz.prog E cR6a := cfgI_ok mixed (cR_ok hE (tabR6_ok hE)) (cR_ok hE (tabR6_ok hE)) (fun _ => trivial) (.cons Tryz.func87 (by decide +kernel) (by kernel_rfl) <| .cons Tryz.func75 (by decide +kernel) (by kernel_rfl) .nil)
noncomputable def tabDR : List (Nat × Con) :=
  (27, kKq cSurd (.val true (rt (qI 0) (qI 2) (qI 4) 20)) kNoQ) ::
  (29, kInl cR6a Tryz.f29) :: (31, kInl cR6a Tryz.f31) :: (33, kInl cR6a Tryz.f33) ::
  (30, kInl cR6a Tryz.f30) :: (32, kInl cR6a Tryz.f32) :: (34, kInl cR6a Tryz.f34) ::
  (28, kIIb fun x y => .eq x y) :: []
noncomputable def tabLR : List (Nat × Con) := (11, kAw6) :: tabDR
end Go.Proofs.YtllijnecmekfeaaGreatDoor
end

section
set_option maxRecDepth 100000
namespace Go.Proofs.YtllijnecmekfeaaGreatDoor
open Go.RowKit Go.Shelf
theorem surd_out {E : Env} {β : Nat → Nat} {w : World} {v : Value} (h : surdA.holds E β w v) : v = surdV (E.i 6) (E.i 8) (E.i 10) (E.i 12) (E.i 14) (E.i 16) := by
  obtain ⟨vs, rfl, x0, r0, rfl, h0, x1, r1, rfl, h1, x2, r2, rfl, h2, x3, r3, rfl, h3, x4, r4, rfl, h4, x5, r5, rfl, h5, hn⟩ := h
  simp only [Chunk.holds] at h0 h1 h2 h3 h4 h5
  simp only [chunks] at hn
  subst h0 h1 h2 h3 h4 h5 hn
  rfl
theorem of_known {E : Env} {A B C D F H : Int} {a b c : Rat} (h1 : E.i 6 = A) (h2 : E.i 8 = B) (h3 : E.i 10 = C) (h4 : E.i 12 = D) (h5 : E.i 14 = F) (h6 : E.i 16 = H) (ra : RepQ E (qI 0) a) (rb : RepQ E (qI 2) b) (rc : RepQ E (qI 4) c) (l : LimR 20 a b c)
    (hm : ∀ w : World, Calls Tryz.prog 27 #[surdV A B C D F H] w (Ret (fun x w' => IsRoot w' x a b c) w)) : KnownR E 27 cSurd (.val true (rt (qI 0) (qI 2) (qI 4) 20)) := by
  refine ⟨?_, fun x off e => by cases e⟩
  intro args hc β w vs hv hl
  unfold cSurd at hc
  split at hc
  · obtain ⟨v, rfl, k⟩ := args1 hv hl
    have e := surd_out k
    rw [h1, h2, h3, h4, h5, h6] at e
    subst e
    refine (hm w).mono ?_
    rintro e w' ⟨x, rfl, hx, ex⟩
    exact ⟨x, rfl, fun β => (one_root ra rb rc).2 ⟨hx, l⟩, ex⟩
  · cases hc
theorem tabDR_ok {E : Env} (hE : QEnv E) (hk : KnownR E 27 cSurd (.val true (rt (qI 0) (qI 2) (qI 4) 20))) : TabOK Tryz.prog E tabDR :=
  .cons (kKr_ok hk (kNoQ_ok ⟨_, Tryz.func27, by decide +kernel, by kernel_rfl⟩)) <|
  .cons (kInl_ok mixed (cR6a_ok hE) (fun _ => trivial) Tryz.func29 (by decide +kernel) (by kernel_rfl)) <|
  .cons (kInl_ok mixed (cR6a_ok hE) (fun _ => trivial) Tryz.func31 (by decide +kernel) (by kernel_rfl)) <|
  .cons (kInl_ok mixed (cR6a_ok hE) (fun _ => trivial) Tryz.func33 (by decide +kernel) (by kernel_rfl)) <|
  .cons (kInl_ok mixed (cR6a_ok hE) (fun _ => trivial) Tryz.func30 (by decide +kernel) (by kernel_rfl)) <|
  .cons (kInl_ok mixed (cR6a_ok hE) (fun _ => trivial) Tryz.func32 (by decide +kernel) (by kernel_rfl)) <|
  .cons (kInl_ok mixed (cR6a_ok hE) (fun _ => trivial) Tryz.func34 (by decide +kernel) (by kernel_rfl)) <|
  .cons (kIIb_ok (fun x y => x == y) (fun _ _ => rfl) (fun w v1 v2 z1 z2 h1 h2 => (rsame_calls w v1 v2 z1 z2 h1 h2).mono (fun e w' h => ⟨by rw [h.1]; by_cases hz : z1 = z2 <;> simp [hz], h.2⟩)) ⟨_, Tryz.func28, by decide +kernel, by kernel_rfl⟩) .nil
theorem law6_calls {E : Env} {tab : List (Nat × Con)} (hT : TabW Tryz.prog WQ E tab) {G : Asm} (hG : G.holds E) {f : FuncId} {fn : Func} (hf : Tryz.prog.funcs[f]? = some fn) (h4 : fn.results.toList.length ≤ 4) {args : List AV} (hW : okL6 (funE (cfgW WQ tab) fn G args) = true) (hn : args.length ≤ fn.ntmps) (hp : args.all noPtr = true) (w : World) (hw : WQ w) (vs : List Value) (hl : vs.length = args.length)
    (hv : ∀ (i : Nat) (x : AV), args[i]? = some x → ∃ v, vs[i]? = some v ∧ ∀ β, x.holds E β w v) : Calls Tryz.prog f vs.toArray w (IsT w) := by
  obtain ⟨T, hT', hall⟩ := okL6_spec hW
  refine (fun_sound mixed (cfgW_ok hT) hG hf h4 hT' hn hp w vs hl (fun i x hx => ?_) (fun w' e => hw.ext e)).mono ?_
  · obtain ⟨v, h1, h2⟩ := hv i x hx
    exact ⟨fun _ => 0, v, h1, h2 _⟩
  · rintro e w' ⟨β, v, rfl, hh, ex⟩
    rw [allL6_out hall hh]
    exact ⟨rfl, ex⟩
def halfT : IT2 := (.a2 7 (.lit 1) (.lit 2), .a2 8 (.lit 1) (.lit 2))
def hf : Rat := Rat.divInt 1 2
theorem half_rep {E : Env} : RepQ E halfT hf := ⟨rfl, rfl⟩
def bT : IT2 := qop 0 (qv 1) q0
def cT6 : IT2 := qop 5 bT (cmT (qv 1) (qv 2) q0)
def fN1 : IT := floT (qop 0 (qv 0) halfT) bT cT6
def fN2 : IT := floT (qop 0 (qv 0) halfT) (qv 1) (qv 2)
def gR6 : Asm := [(rdT (qv 1) (qv 2), true), (rdT (qng (qv 1)) (qv 2), true), (rdT bT cT6, true), (.eq fN1 fN2, true)]
theorem rnd_walk : okL6 (funE (cfgW WQ tabLR) Tryz.f6 gR6 [surdA]) = true := by kernel_rfl
theorem rC_self {b c : Rat} (R : Rd b c) : rC (b + 0) (cm b c 0) = c := by
  rw [show b + 0 = b by grind]
  by_cases hb : b = 0
  · subst hb
    rw [rC_zero]
    rcases R with ⟨_, h⟩ | ⟨h, _⟩
    · exact h.symm
    · exact absurd rfl h
  · rw [rC_ne hb, cm_ne hb]
theorem Rd.neg {b c : Rat} (R : Rd b c) : Rd (-b) c := by
  rcases R with ⟨h1, h2⟩ | ⟨h1, h2⟩
  · exact .inl ⟨by rw [h1]; rfl, h2⟩
  · exact .inr ⟨fun h => h1 (by grind), h2⟩
section
variable {E : Env} {a b c : Rat}
theorem bT_rep (rb : RepQ E (qI 2) b) : RepQ E bT b := by
  have h := rep_op (f := 0) (by omega) rb (rep_0 (E := E))
  rwa [show ratF 0 b 0 = b from by show b + 0 = b; grind] at h
theorem cT6_rep (R : Rd b c) (rb : RepQ E (qI 2) b) (rc : RepQ E (qI 4) c) : RepQ E cT6 c := by
  have h : RepQ E cT6 (rC (b + 0) (cm b c 0)) := rep_rC (rep_add rb rep_0) (rep_cm rb rc rep_0)
  rwa [rC_self R] at h
theorem gR6_ok (R : Rd b c) (ra : RepQ E (qI 0) a) (rb : RepQ E (qI 2) b) (rc : RepQ E (qI 4) c) : gR6.holds E := by
  have k1 := bT_rep rb
  have k2 := cT6_rep R rb rc
  have k3 : RepQ E (qop 0 (qv 0) halfT) (a + hf) := rep_op (f := 0) (by omega) ra half_rep
  refine asm_and (rd_den rb rc R) (asm_and (rd_den (rep_ng rb) rc R.neg) (asm_and (rd_den k1 k2 R) (asm_and ?_ asm_nil)))
  show (fN1.den E == fN2.den E) = true
  rw [show fN1.den E = flN (a + hf) b c from floT_den k3 k1 k2, show fN2.den E = flN (a + hf) b c from floT_den k3 rb rc]
  exact beq_self_eq_true _
end
theorem decimalRound_calls (w : World) (hw : WQ w) (A B C D F H : Int) (h : SurdOK A B C D F H) : Calls Tryz.prog 6 #[surdV A B C D F H] w (IsT w) := by
  obtain ⟨a, b, c, R, l, hm⟩ := of_ex A B C D F H h
  obtain ⟨V, hV⟩ : ∃ V, V = qE [a, b, c, (A : Rat), (B : Rat), (C : Rat), (D : Rat), (F : Rat), (H : Rat)] := ⟨_, rfl⟩
  have ra : RepQ V (qI 0) a := by rw [hV]; exact ⟨rfl, rfl⟩
  have rb : RepQ V (qI 2) b := by rw [hV]; exact ⟨rfl, rfl⟩
  have rc : RepQ V (qI 4) c := by rw [hV]; exact ⟨rfl, rfl⟩
  have hQ : QEnv V := by rw [hV]; exact qE_ok _
  have vA : V.i 6 = A := by rw [hV]; exact qE_int (i := 3) rfl
  have vB : V.i 8 = B := by rw [hV]; exact qE_int (i := 4) rfl
  have vC : V.i 10 = C := by rw [hV]; exact qE_int (i := 5) rfl
  have vD : V.i 12 = D := by rw [hV]; exact qE_int (i := 6) rfl
  have vF : V.i 14 = F := by rw [hV]; exact qE_int (i := 7) rfl
  have vH : V.i 16 = H := by rw [hV]; exact qE_int (i := 8) rfl
  have hT : TabW Tryz.prog WQ V tabLR := .cons kAw6_ok (tabDR_ok hQ (of_known vA vB vC vD vF vH ra rb rc l hm)).toW
  exact law6_calls hT (gR6_ok R ra rb rc) Tryz.func6 (by decide +kernel) rnd_walk (by decide +kernel) rfl w hw [_] rfl (one_arg rfl rfl fun β => surd_holds vA vB vC vD vF vH)
end Go.Proofs.YtllijnecmekfeaaGreatDoor
end

section
set_option maxRecDepth 100000
namespace Go.Proofs.YtllijnecmekfeaaGreatDoor
open Go.RowKit Go.Shelf
theorem sgN_seq {b c : Rat} (R : Rd b c) {m : Sq} (hm : IsRt c m) (x : Rat) : HasSg (fun k => x + b * m k) (sgN x b c) := by
  rw [sgN_sg2 R]
  exact sqv2 R.nonneg hm
theorem sgN_up {b c x y : Rat} (R : Rd b c) (h : x < y) (hx : sgN x b c = 0) : sgN y b c = 1 := by
  obtain ⟨m, hm⟩ := exists_rt R.nonneg
  have h1 := sgN_seq R hm x
  have h2 := sgN_seq R hm y
  rw [hx] at h1
  have h3 : HasSg (fun _ => y - x) 1 := by
    have := hasSg_const (y - x)
    rwa [sgQ'_pos (by grind)] at this
  rcases h1 with ⟨h, _⟩ | ⟨_, hn⟩ | ⟨h, _⟩
  · cases h
  · exact h2.unique ((h3.add_null hn).of_eq fun k => by grind)
  · cases h
theorem sgN_down {b c x y : Rat} (R : Rd b c) (h : x < y) (hy : sgN y b c = 0) : sgN x b c = -1 := by
  obtain ⟨m, hm⟩ := exists_rt R.nonneg
  have h1 := sgN_seq R hm x
  have h2 := sgN_seq R hm y
  rw [hy] at h2
  have h3 : HasSg (fun _ => x - y) (-1) := by
    have := hasSg_const (x - y)
    rwa [sgQ'_neg (by grind)] at this
  rcases h2 with ⟨h, _⟩ | ⟨_, hn⟩ | ⟨h, _⟩
  · cases h
  · exact h1.unique ((h3.add_null hn).of_eq fun k => by grind)
  · cases h
theorem sgN_ng {b c x : Rat} (R : Rd b c) : sgN (-x) (-b) c = - sgN x b c := by
  obtain ⟨m, hm⟩ := exists_rt R.nonneg
  have h1 := sgN_seq R hm x
  have h2 := sgN_seq R.neg hm (-x)
  exact h2.unique (h1.neg.of_eq fun k => by grind)
theorem sgN_le {b c x y : Rat} (R : Rd b c) (h : x ≤ y) : sgN x b c ≤ sgN y b c := by
  by_cases e : x = y
  · rw [e]; exact Int.le_refl _
  · have hlt : x < y := by grind
    obtain ⟨m, hm⟩ := exists_rt R.nonneg
    have h1 := sgN_seq R hm x
    have h2 := sgN_seq R hm y
    have h3 : PosS (fun _ => y - x) := ⟨y - x, by grind, 0, fun _ _ => by grind⟩
    rcases h1 with ⟨e1, k⟩ | ⟨e1, k⟩ | ⟨e1, k⟩
    · rw [h2.unique (.inl ⟨rfl, pos_congr (fun k => by grind) (pos_add k h3)⟩), e1]; exact Int.le_refl _
    · rw [sgN_up R hlt e1, e1]; decide
    · rw [e1]; rcases h2.range with e | e | e <;> rw [e] <;> decide
theorem up_spec {a b c : Rat} (R : Rd b c) : flN (-a) (-b) c = if sgN (a - (flN a b c : Rat)) b c = 0 then - flN a b c else - flN a b c - 1 := by
  obtain ⟨f, hf⟩ : ∃ f, f = flN a b c := ⟨_, rfl⟩
  have h := flN_spec (a := a) R
  rw [← hf] at h ⊢
  obtain ⟨h1, h2⟩ := h
  have c1 : ((f + 1 : Int) : Rat) = (f : Rat) + 1 := by rw [Rat.intCast_add]; rfl
  split
  · rename_i hz
    refine (flN_spec R.neg).unique R.neg ⟨?_, ?_⟩
    · rw [show -a - ((-f : Int) : Rat) = -(a - (f : Rat)) by rw [Rat.intCast_neg]; grind, sgN_ng R, hz]; decide
    · have k := sgN_up R (show a - (f : Rat) < a - (f : Rat) + 1 by grind) hz
      rw [show -a - ((-f + 1 : Int) : Rat) = -(a - (f : Rat) + 1) by rw [Rat.intCast_add, Rat.intCast_neg]; grind, sgN_ng R, k]; decide
  · rename_i hz
    refine (flN_spec R.neg).unique R.neg ⟨?_, ?_⟩
    · rw [show -a - ((-f - 1 : Int) : Rat) = -(a - ((f + 1 : Int) : Rat)) by rw [c1, Rat.intCast_sub, Rat.intCast_neg]; grind, sgN_ng R]; omega
    · rw [show -a - ((-f - 1 + 1 : Int) : Rat) = -(a - (f : Rat)) by rw [show (-f - 1 + 1 : Int) = -f by omega, Rat.intCast_neg]; grind, sgN_ng R]; omega
theorem near_spec {a b c : Rat} (R : Rd b c) : flN (a + hf) b c = flN a b c ∨ (flN (a + hf) b c = flN a b c + 1 ∧ sgN (a - (flN a b c : Rat)) b c ≠ 0) := by
  obtain ⟨f, hf'⟩ : ∃ f, f = flN a b c := ⟨_, rfl⟩
  have h := flN_spec (a := a) R
  rw [← hf'] at h ⊢
  obtain ⟨h1, h2⟩ := h
  have hh : hf = 1 / 2 := by decide +kernel
  have c1 : ((f + 1 : Int) : Rat) = (f : Rat) + 1 := by rw [Rat.intCast_add]; rfl
  have c2 : ((f + 1 + 1 : Int) : Rat) = (f : Rat) + 2 := by rw [Rat.intCast_add, c1]; grind
  have k1 := sgN_le R (show a - (f : Rat) ≤ a + hf - (f : Rat) by rw [hh]; grind)
  by_cases hn : sgN (a + hf - ((f + 1 : Int) : Rat)) b c < 0
  · exact .inl ((flN_spec R).unique R ⟨by omega, hn⟩)
  · have k2 := sgN_le R (show a + hf - ((f + 1 + 1 : Int) : Rat) ≤ a - ((f + 1 : Int) : Rat) by rw [hh, c1, c2]; grind)
    refine .inr ⟨(flN_spec R).unique R ⟨by omega, by omega⟩, fun hz => hn ?_⟩
    have := sgN_down R (show a + hf - ((f + 1 : Int) : Rat) < a - (f : Rat) by rw [hh, c1]; grind) hz
    omega
def allLG (G : Asm) : Tree → Bool
  | .leaf [(false, [.b t])] => t.ev G == some true
  | .leaf _ => false
  | .ite _ x y => allLG G x && allLG G y
theorem allLG_out {E : Env} {G : Asm} (hG : G.holds E) {β : Nat → Nat} {w : World} {v : Value} : ∀ {T : Tree}, allLG G T = true → (toAV (T.pick E)).holds E β w v → v = .bool true := by
  intro T
  induction T with
  | leaf l =>
    intro h hh
    unfold allLG at h
    split at h
    · rename_i t e
      injection e with e
      subst e
      rw [one_bool.1 hh, BT.ev_spec hG (beq_iff_eq.1 h)]
    · cases h
    · rename_i e
      cases e
  | ite b x y ihx ihy =>
    intro h hh
    simp only [allLG, Bool.and_eq_true] at h
    simp only [Tree.pick] at hh
    split at hh
    · exact ihx h.1 hh
    · exact ihy h.2 hh
def okLG (G : Asm) : Option Tree → Bool
  | some T => allLG G T
  | none => false
theorem okLG_spec {G : Asm} {o : Option Tree} (h : okLG G o = true) : ∃ T, o = some T ∧ allLG G T = true := by
  cases o with
  | none => cases h
  | some T => exact ⟨T, rfl, h⟩
theorem law6g_calls {E : Env} {tab : List (Nat × Con)} (hT : TabW Tryz.prog WQ E tab) {G : Asm} (hG : G.holds E) {f : FuncId} {fn : Func} (hf : Tryz.prog.funcs[f]? = some fn) (h4 : fn.results.toList.length ≤ 4) {args : List AV} (hW : okLG G (funE (cfgW WQ tab) fn G args) = true) (hn : args.length ≤ fn.ntmps) (hp : args.all noPtr = true) (w : World) (hw : WQ w) (vs : List Value) (hl : vs.length = args.length)
    (hv : ∀ (i : Nat) (x : AV), args[i]? = some x → ∃ v, vs[i]? = some v ∧ ∀ β, x.holds E β w v) : Calls Tryz.prog f vs.toArray w (IsT w) := by
  obtain ⟨T, hT', hall⟩ := okLG_spec hW
  refine (fun_sound mixed (cfgW_ok hT) hG hf h4 hT' hn hp w vs hl (fun i x hx => ?_) (fun w' e => hw.ext e)).mono ?_
  · obtain ⟨v, h1, h2⟩ := hv i x hx
    exact ⟨fun _ => 0, v, h1, h2 _⟩
  · rintro e w' ⟨β, v, rfl, hh, ex⟩
    rw [allLG_out hG hall hh]
    exact ⟨rfl, ex⟩
noncomputable def tabLO : List (Nat × Con) := (11, kAw6) :: (39, kInl cR6a Tryz.f39) :: (36, kRNg false) :: (35, kIb fun _ => .lit true) :: (40, kFI) :: (tabDR ++ (tabR2 ++ tabT))
theorem tabLO_ok {E : Env} (hE : QEnv E) (hk : KnownR E 27 cSurd (.val true (rt (qI 0) (qI 2) (qI 4) 20))) : TabW Tryz.prog WQ E tabLO := by
  refine .cons kAw6_ok (TabOK.toW ?_)
  exact .cons (kInl_ok mixed (cR6a_ok hE) (fun _ => trivial) Tryz.func39 (by decide +kernel) (by kernel_rfl)) <|
    .cons (kRNg_ok hE (fun w v a b c h hr hl => r_neg hr hl) ⟨_, Tryz.func36, by decide +kernel, by kernel_rfl⟩) <|
    .cons (kIb_ok (fun _ => true) (fun _ => rfl) (fun w v z h => rvalidI_calls w v z h) ⟨_, Tryz.func35, by decide +kernel, by kernel_rfl⟩) <|
    .cons kFI_ok (TabOK.app (tabDR_ok hE hk) (TabOK.app tabR2_ok (tabT_ok hE)))
def tFd : IT := floT (qv 0) (qv 1) (qv 2)
def tFm : IT := floT (qng (qv 0)) (qng (qv 1)) (qv 2)
def tUp : IT := .a1 0 tFm
def tSg : IT := sgnT (qop 0 (qv 0) (.a1 0 tFd, .lit 1)) (qv 1) (qv 2)
def tWd : IT := .a2 1 tUp tFd
def gOp (W x y : Bool) : Asm := gR6 ++ [(.eq tFm (.a1 0 (.a1 0 tFm)), true), (.eq tWd (.lit 0), W), (.eq tSg (.lit 0), W), (.eq tWd (.lit 1), !W), (.eq fN1 tUp, x), (.eq fN1 tFd, y)]
theorem op_walk : (bools.all fun W => bools.all fun x => bools.all fun y => !(x || y) || okLG (gOp W x y) (funE (cfgW WQ tabLO) Tryz.f7 (gOp W x y) [surdA])) = true := by kernel_rfl
end Go.Proofs.YtllijnecmekfeaaGreatDoor
end

section
set_option maxRecDepth 100000
namespace Go.Proofs.YtllijnecmekfeaaGreatDoor
open Go.RowKit Go.Shelf
theorem asm_cat {E : Env} {G H : Asm} (h : G.holds E) (k : H.holds E) : (G ++ H).holds E := fun p hp => by
  rcases List.mem_append.1 hp with hp | hp
  · exact h p hp
  · exact k p hp
theorem eqd {E : Env} {s t : IT} {x y : Int} (hs : s.den E = x) (ht : t.den E = y) {b : Bool} (h : decide (x = y) = b) : (BT.eq s t).den E = b := by
  show (s.den E == t.den E) = b
  rw [hs, ht, ← h, Bool.eq_iff_iff, beq_iff_eq, decide_eq_true_iff]
theorem decimalOpposite_calls (w : World) (hw : WQ w) (A B C D F H : Int) (h : SurdOK A B C D F H) : Calls Tryz.prog 7 #[surdV A B C D F H] w (IsT w) := by
  obtain ⟨a, b, c, R, l, hm⟩ := of_ex A B C D F H h
  obtain ⟨V, hV⟩ : ∃ V, V = qE [a, b, c, (A : Rat), (B : Rat), (C : Rat), (D : Rat), (F : Rat), (H : Rat)] := ⟨_, rfl⟩
  have ra : RepQ V (qI 0) a := by rw [hV]; exact ⟨rfl, rfl⟩
  have rb : RepQ V (qI 2) b := by rw [hV]; exact ⟨rfl, rfl⟩
  have rc : RepQ V (qI 4) c := by rw [hV]; exact ⟨rfl, rfl⟩
  have hQ : QEnv V := by rw [hV]; exact qE_ok _
  have vA : V.i 6 = A := by rw [hV]; exact qE_int (i := 3) rfl
  have vB : V.i 8 = B := by rw [hV]; exact qE_int (i := 4) rfl
  have vC : V.i 10 = C := by rw [hV]; exact qE_int (i := 5) rfl
  have vD : V.i 12 = D := by rw [hV]; exact qE_int (i := 6) rfl
  have vF : V.i 14 = F := by rw [hV]; exact qE_int (i := 7) rfl
  have vH : V.i 16 = H := by rw [hV]; exact qE_int (i := 8) rfl
  obtain ⟨f, hf'⟩ : ∃ f, f = flN a b c := ⟨_, rfl⟩
  have dFd : tFd.den V = f := by rw [hf']; exact floT_den ra rb rc
  have dFm : tFm.den V = flN (-a) (-b) c := floT_den (rep_ng ra) (rep_ng rb) rc
  have dUp : tUp.den V = - flN (-a) (-b) c := by show -(tFm.den V) = _; rw [dFm]
  have dN : fN1.den V = flN (a + hf) b c := floT_den (rep_op (f := 0) (by omega) ra half_rep) (bT_rep rb) (cT6_rep R rb rc)
  have rf : RepQ V (.a1 0 tFd, .lit 1) ((-f : Int) : Rat) := ⟨by show -(tFd.den V) = _; rw [dFd, Rat.num_intCast], by show (1 : Int) = _; rw [Rat.den_intCast]; rfl⟩
  have dSg : tSg.den V = sgN (a - (f : Rat)) b c := by
    have := sgnT_den (rep_op (f := 0) (by omega) ra rf) rb rc R
    rw [show ratF 0 a ((-f : Int) : Rat) = a - (f : Rat) by show a + ((-f : Int) : Rat) = _; rw [Rat.intCast_neg]; grind] at this
    exact this
  have dWd : tWd.den V = - flN (-a) (-b) c - f := by show tUp.den V - tFd.den V = _; rw [dUp, dFd]
  have us := up_spec (a := a) R
  have ns := near_spec (a := a) R
  rw [← hf'] at us ns
  obtain ⟨W, hW⟩ : ∃ W, W = decide (sgN (a - (f : Rat)) b c = 0) := ⟨_, rfl⟩
  obtain ⟨x, hx⟩ : ∃ x, x = decide (flN (a + hf) b c = - flN (-a) (-b) c) := ⟨_, rfl⟩
  obtain ⟨y, hy⟩ : ∃ y, y = decide (flN (a + hf) b c = f) := ⟨_, rfl⟩
  have hG : (gOp W x y).holds V := by
    refine asm_cat (gR6_ok R ra rb rc) (asm_and (eqd dFm (show _ = - - flN (-a) (-b) c by show -(-(tFm.den V)) = _; rw [dFm]) (decide_eq_true (by omega))) <| asm_and (eqd (y := 0) dWd rfl ?_) <| asm_and (eqd (y := 0) dSg rfl hW.symm) <| asm_and (eqd (y := 1) dWd rfl ?_) <| asm_and (eqd dN dUp hx.symm) <| asm_and (eqd dN dFd hy.symm) asm_nil)
    · rw [hW, decide_eq_decide, us]
      split
      · rename_i hz; exact ⟨fun _ => hz, fun _ => by omega⟩
      · rename_i hz; exact ⟨fun k => by omega, fun k => absurd k hz⟩
    · rw [hW, us, ← decide_not, decide_eq_decide]
      split
      · rename_i hz; exact ⟨fun k => by omega, fun k => absurd hz k⟩
      · rename_i hz; exact ⟨fun _ => hz, fun _ => by omega⟩
  have hxy : (x || y) = true := by
    rcases ns with e | ⟨e, k⟩
    · rw [show y = true from hy.trans (decide_eq_true e), Bool.or_true]
    · rw [if_neg k] at us
      rw [show x = true from hx.trans (decide_eq_true (by omega)), Bool.true_or]
  have hWk := List.all_eq_true.1 (List.all_eq_true.1 (List.all_eq_true.1 op_walk W (bools_mem W)) x (bools_mem x)) y (bools_mem y)
  rw [hxy, Bool.not_true, Bool.false_or] at hWk
  exact law6g_calls (tabLO_ok hQ (of_known vA vB vC vD vF vH ra rb rc l hm)) hG Tryz.func7 (by decide +kernel) hWk (by decide +kernel) rfl w hw [_] rfl (one_arg rfl rfl fun β => surd_holds vA vB vC vD vF vH)
end Go.Proofs.YtllijnecmekfeaaGreatDoor
end

section
set_option maxRecDepth 100000
namespace Go.Proofs.YtllijnecmekfeaaGreatDoor
open Go.ChangeShapes Go.WideShapes Go.ChangeAt Go.RowKit Go.Joins
def laidL6 : List (String × DataW Unit) := [("math/bits.deBruijn32tab", Rows.laid_math_bits_deBruijn32tab), ("math/bits.deBruijn64tab", Rows.laid_math_bits_deBruijn64tab), ("internal/strconv.uint64pow10", Rows.laid_internal_strconv_uint64pow10), ("unicode/utf8.acceptRanges", Rows.laid_unicode_utf8_acceptRanges), ("unicode/utf8.first", Rows.laid_unicode_utf8_first)]
theorem WT.laid6 {W : World} (h : laidMetH Tryz.prog laidL6 W) : WT W := by
  rw [MakeChecks.laidMetH_plain _ _ _ (by kernel_rfl)] at h
  have h2 := h.tail.tail
  rw [pow10_eq] at h2
  exact Lib.tabIs_of_head (g := 1) (by kernel_rfl) (t := 187) (by kernel_rfl) (n := 20) (e := 109) Tryz.underlying187 Tryz.underlying109 (by kernel_rfl) (by kernel_rfl) h2
theorem WQ.laid6 {W : World} (h : laidMetH Tryz.prog laidL6 W) (hs : W.ShapedOpen Tryz.prog) : WQ W := ⟨WM.shaped hs, WT.laid6 h⟩
theorem all_met (os : Os) (args : Array Value) : laidMetH Tryz.prog laidL6 ((World.laidAll Tryz.prog os laidL6).forCall (fun _ _ => 0) ⟨#[], args, []⟩).memory := by
  rw [MakeChecks.laidMetH_plain _ _ _ (by kernel_rfl)]
  exact laidMet_laidAll _ (by kernel_rfl) (by kernel_rfl)
theorem arr6 {cs : Array Value} (h : cs.size = 6) : ∃ c0 c1 c2 c3 c4 c5, cs = #[c0, c1, c2, c3, c4, c5] := by
  obtain ⟨l⟩ := cs
  have h' : l.length = 6 := h
  match l, h' with
  | [c0, c1, c2, c3, c4, c5], _ => exact ⟨c0, c1, c2, c3, c4, c5, rfl⟩
theorem i16_wf {n : Int} (h : (Lit.int .i16 n).wf = true) : -32768 ≤ n ∧ n ≤ 32767 := by
  simpa [Lit.wf, IntKind.min, IntKind.max, IntKind.signed, IntKind.bits] using h
theorem u16_wf6 {n : Int} (h : (Lit.int .u16 n).wf = true) : 0 ≤ n ∧ n ≤ 65535 := by
  simpa [Lit.wf, IntKind.min, IntKind.max, IntKind.signed, IntKind.bits] using h
theorem u8_wf6 {n : Int} (h : (Lit.int .u8 n).wf = true) : 0 ≤ n ∧ n ≤ 255 := by
  simpa [Lit.wf, IntKind.min, IntKind.max, IntKind.signed, IntKind.bits] using h
theorem open_surd {H : Type} {enc : TypeId × Value → H} {W : World} {b0 base : Nat} {spare : Nat → Bool} {held : Bool} {r : Reach} {v : Value} {d : DataW H} {p : List MemPlace}
    (hv : Value.okWide Tryz.prog W r b0 47 v) (h : DataW.Trod enc Tryz.prog W base spare held 47 v d p) : ∃ a b c d e f : Int, v = surdV a b c d e f ∧ SurdOK a b c d e f := by
  obtain ⟨cs, rfl, hsz⟩ := okWide_struct Tryz.underlying47 hv
  have c6 : Tryz.prog.cellsOf 47 = 6 := by kernel_rfl
  have k1 : Tryz.prog.cellsOf 44 = 1 := by kernel_rfl
  have k2 : Tryz.prog.cellsOf 45 = 1 := by kernel_rfl
  have k3 : Tryz.prog.cellsOf 5 = 1 := by kernel_rfl
  obtain ⟨c0, c1, c2, c3, c4, c5, rfl⟩ := arr6 (hsz.trans c6)
  obtain ⟨fuel, hf⟩ := h
  obtain ⟨xs, n, _, _, _, hlen, hfl⟩ := DataW.trod_struct Tryz.underlying47 hf
  match xs, hlen with
  | [y0, y1, y2, y3, y4, y5], _ =>
    have h0 := hfl 0 _ rfl
    have h1 := hfl 1 _ rfl
    have h2 := hfl 2 _ rfl
    have h3 := hfl 3 _ rfl
    have h4 := hfl 4 _ rfl
    have h5 := hfl 5 _ rfl
    obtain ⟨a, e0, _, w0⟩ := DataW.trod_int (cs := [c0]) Tryz.underlying44 (by simpa [Value.cells, k1] using h0)
    obtain ⟨b, e1, _, w1⟩ := DataW.trod_int (cs := [c1]) Tryz.underlying44 (by simpa [Value.cells, k1] using h1)
    obtain ⟨c, e2, _, w2⟩ := DataW.trod_int (cs := [c2]) Tryz.underlying45 (by simpa [Value.cells, k2] using h2)
    obtain ⟨d', e3, _, w3⟩ := DataW.trod_int (cs := [c3]) Tryz.underlying5 (by simpa [Value.cells, k3] using h3)
    obtain ⟨e, e4, _, w4⟩ := DataW.trod_int (cs := [c4]) Tryz.underlying5 (by simpa [Value.cells, k3] using h4)
    obtain ⟨f, e5, _, w5⟩ := DataW.trod_int (cs := [c5]) Tryz.underlying5 (by simpa [Value.cells, k3] using h5)
    injection e0 with e0
    injection e1 with e1
    injection e2 with e2
    injection e3 with e3
    injection e4 with e4
    injection e5 with e5
    subst e0 e1 e2 e3 e4 e5
    exact ⟨a, b, c, d', e, f, rfl, i16_wf w0, i16_wf w1, u16_wf6 w2, u8_wf6 w3, u8_wf6 w4, u8_wf6 w5⟩
end Go.Proofs.YtllijnecmekfeaaGreatDoor
end

section
set_option maxRecDepth 100000
namespace Go.Proofs.YtllijnecmekfeaaGreatDoor
open Go.RowKit Go.Shelf
noncomputable def nrW (p : Bool) (G : Asm) : Option Tree := funE cR6a (if p then Tryz.f29 else Tryz.f30) G [.val true (rt (qI 0) (qI 2) (qI 4) 20)]
def isFl1 (t : IT) : Option Tree → Bool
  | some (.leaf [(true, [.int x m])]) => x.beq t && decide (m ≤ 9000)
  | _ => false
theorem nr_walk1 : isFl1 fN1 (nrW true gR6) = true := by kernel_rfl
theorem nr_walk2 : isFl1 fN2 (nrW false gR6) = true := by kernel_rfl
theorem nr_calls (p : Bool) {a b c : Rat} (R : Rd b c) (l : LimR 20 a b c) (w : World) (v : Value) (h : IsRoot w v a b c) : Calls Tryz.prog (if p then 29 else 30) #[v] w (Ret (fun x w' => IsInt w' x (flN (a + hf) b c) ∧ Lim 9000 (flN (a + hf) b c)) w) := by
  obtain ⟨E, hE⟩ : ∃ E, E = qE [a, b, c] := ⟨_, rfl⟩
  have hQ : QEnv E := by rw [hE]; exact qE_ok _
  have ra : RepQ E (qI 0) a := by rw [hE]; exact ⟨rfl, rfl⟩
  have rb : RepQ E (qI 2) b := by rw [hE]; exact ⟨rfl, rfl⟩
  have rc : RepQ E (qI 4) c := by rw [hE]; exact ⟨rfl, rfl⟩
  have dN1 : fN1.den E = flN (a + hf) b c := floT_den (rep_op (f := 0) (by omega) ra half_rep) (bT_rep rb) (cT6_rep R rb rc)
  have dN2 : fN2.den E = flN (a + hf) b c := floT_den (rep_op (f := 0) (by omega) ra half_rep) rb rc
  have ar : ∀ (i : Nat) (x : AV), [AV.val true (rt (qI 0) (qI 2) (qI 4) 20)][i]? = some x → ∃ β u, [v][i]? = some u ∧ x.holds E β w u := by
    intro i x hx
    match i, hx with
    | 0, hx => injection hx with hx; subst hx; exact ⟨fun _ => 0, v, rfl, (one_root ra rb rc).2 ⟨h, l⟩⟩
  have fin : ∀ (f : Nat) (fn : Func) (t : IT), Tryz.prog.funcs[f]? = some fn → fn.results.toList.length ≤ 4 → 1 ≤ fn.ntmps → t.den E = flN (a + hf) b c → isFl1 t (funE cR6a fn gR6 [.val true (rt (qI 0) (qI 2) (qI 4) 20)]) = true → Calls Tryz.prog f #[v] w (Ret (fun x w' => IsInt w' x (flN (a + hf) b c) ∧ Lim 9000 (flN (a + hf) b c)) w) := by
    intro f fn t hf h4 hn ht hT
    unfold isFl1 at hT
    split at hT
    · rename_i x m hTe
      rw [Bool.and_eq_true, decide_eq_true_iff] at hT
      rw [IT.eq_of_beq hT.1] at hTe
      refine (fun_sound mixed (cR6a_ok hQ) (gR6_ok R ra rb rc) hf h4 hTe hn rfl w [v] rfl ar).mono ?_
      rintro e w' ⟨β, y, rfl, hh, ex⟩
      obtain ⟨k, k2⟩ := one_int.1 hh
      rw [ht] at k k2
      exact ⟨y, rfl, ⟨k, k2.mono hT.2⟩, ex⟩
    · cases hT
  cases p with
  | true => exact fin _ _ fN1 Tryz.func29 (by decide +kernel) (by decide +kernel) dN1 nr_walk1
  | false => exact fin _ _ fN2 Tryz.func30 (by decide +kernel) (by decide +kernel) dN2 nr_walk2
noncomputable def coW (p : Bool) (G : Asm) : Option Tree := funE (cR []) (if p then Tryz.f99 else Tryz.f100) G [aQl 0 20, aQl 1 20, aQl 2 20]
def isRt1 (A B C : IT2) : Option Tree → Bool
  | some (.leaf [(true, [.int a _, .int a' _, .int b _, .int b' _, .int c _, .int c' _])]) => (a.beq A.1 && a'.beq A.2) && ((b.beq B.1 && b'.beq B.2) && (c.beq C.1 && c'.beq C.2))
  | _ => false
theorem isRt1_spec {A B C : IT2} {o : Option Tree} (h : isRt1 A B C o = true) : ∃ l1 l2 l3 l4 l5 l6, o = some (.leaf [(true, [.int A.1 l1, .int A.2 l2, .int B.1 l3, .int B.2 l4, .int C.1 l5, .int C.2 l6])]) := by
  unfold isRt1 at h
  split at h
  · simp only [Bool.and_eq_true] at h
    obtain ⟨⟨h1, h2⟩, ⟨h3, h4⟩, ⟨h5, h6⟩⟩ := h
    rw [IT.eq_of_beq h1, IT.eq_of_beq h2, IT.eq_of_beq h3, IT.eq_of_beq h4, IT.eq_of_beq h5, IT.eq_of_beq h6]
    exact ⟨_, _, _, _, _, _, rfl⟩
  · cases h
theorem co_all : (bools.all fun p => isRt1 (qv 0) q0 q0 (coW p [(zt (qv 1), true)]) && isRt1 (qv 0) (qv 1) (qv 2) (coW p [(zt (qv 1), false)])) = true := by kernel_rfl
def cx6 (b c : Rat) : Rat := if b = 0 then 0 else c
theorem co_calls (p : Bool) {a b c : Rat} (la : LimQ 20 a) (lb : LimQ 20 b) (lc : LimQ 20 c) (w : World) (v1 v2 v3 : Value) (h1 : IsRat w v1 a) (h2 : IsRat w v2 b) (h3 : IsRat w v3 c) : Calls Tryz.prog (if p then 99 else 100) #[v1, v2, v3] w (Ret (fun x w' => IsRoot w' x a b (cx6 b c)) w) := by
  obtain ⟨E, hE⟩ : ∃ E, E = qE [a, b, c] := ⟨_, rfl⟩
  have hQ : QEnv E := by rw [hE]; exact qE_ok _
  have ra : RepQ E (qv 0) a := by rw [hE]; exact rep_v (i := 0)
  have rb : RepQ E (qv 1) b := by rw [hE]; exact rep_v (i := 1)
  have rc : RepQ E (qv 2) c := by rw [hE]; exact rep_v (i := 2)
  have ar : ∀ (i : Nat) (x : AV), [aQl 0 20, aQl 1 20, aQl 2 20][i]? = some x → ∃ β u, [v1, v2, v3][i]? = some u ∧ x.holds E β w u := by
    intro i x hx
    subst hE
    match i, hx with
    | 0, hx => injection hx with hx; subst hx; exact ⟨fun _ => 0, v1, rfl, aQl_holds (i := 0) h1 la⟩
    | 1, hx => injection hx with hx; subst hx; exact ⟨fun _ => 0, v2, rfl, aQl_holds (i := 1) h2 lb⟩
    | 2, hx => injection hx with hx; subst hx; exact ⟨fun _ => 0, v3, rfl, aQl_holds (i := 2) h3 lc⟩
  have fin : ∀ (G : Asm) (B C : IT2), G.holds E → RepQ E B b → RepQ E C (cx6 b c) → isRt1 (qv 0) B C (coW p G) = true → Calls Tryz.prog (if p then 99 else 100) #[v1, v2, v3] w (Ret (fun x w' => IsRoot w' x a b (cx6 b c)) w) := by
    intro G B C hG rB rC hT
    obtain ⟨l1, l2, l3, l4, l5, l6, hT⟩ := isRt1_spec hT
    have go : ∀ (f : Nat) (fn : Func), Tryz.prog.funcs[f]? = some fn → fn.results.toList.length ≤ 4 → 3 ≤ fn.ntmps → funE (cR []) fn G [aQl 0 20, aQl 1 20, aQl 2 20] = some (.leaf [(true, [.int (qv 0).1 l1, .int (qv 0).2 l2, .int B.1 l3, .int B.2 l4, .int C.1 l5, .int C.2 l6])]) → Calls Tryz.prog f #[v1, v2, v3] w (Ret (fun x w' => IsRoot w' x a b (cx6 b c)) w) := by
      intro f fn hf h4 hn hT
      refine (fun_sound mixed (cR_ok hQ .nil) hG hf h4 hT hn rfl w [v1, v2, v3] rfl ar).mono ?_
      rintro e w' ⟨β, y, rfl, hh, ex⟩
      exact ⟨y, rfl, ((one_root ra rB rC).1 hh).1, ex⟩
    cases p with
    | true => exact go _ _ Tryz.func99 (by decide +kernel) (by decide +kernel) hT
    | false => exact go _ _ Tryz.func100 (by decide +kernel) (by decide +kernel) hT
  have hco := List.all_eq_true.1 co_all p (bools_mem p)
  rw [Bool.and_eq_true] at hco
  by_cases hb : b = 0
  · exact fin _ q0 q0 (asm_and (by rw [zt_den rb, decide_eq_true hb]) asm_nil) (by rw [hb]; exact rep_0) (by unfold cx6; rw [if_pos hb]; exact rep_0) hco.1
  · exact fin _ (qv 1) (qv 2) (asm_and (by rw [zt_den rb, decide_eq_false hb]) asm_nil) rb (by unfold cx6; rw [if_neg hb]; exact rc) hco.2
end Go.Proofs.YtllijnecmekfeaaGreatDoor
end

section
set_option maxRecDepth 100000
namespace Go.Proofs.YtllijnecmekfeaaGreatDoor
open Go.RowKit Go.Shelf
def cfi (t : IT) : List AV → Bool
  | [.val false [.n .i64 x]] => x.beq t
  | _ => false
theorem from_known {E : Env} {t : IT} {q : IT2} {n : Int} (ht : t.den E = n) (hn : I64 n) (hq : RepQ E q (n : Rat)) : KnownR E 50 (cfi t) (.val true [.int q.1 3, .int q.2 3]) := by
  refine ⟨?_, fun x off e => by cases e⟩
  intro args hc β w vs hv hl
  unfold cfi at hc
  split at hc
  · have e1 := IT.eq_of_beq hc
    subst e1
    obtain ⟨v, rfl, h1⟩ := args1 hv hl
    have h1' := one_num.1 h1
    subst h1'
    rw [ht]
    refine (rfrom_rat_calls w n hn).mono ?_
    rintro e w' ⟨y, rfl, hy, ex⟩
    have hy' : IsRat w' y (n : Rat) := by
      have h0 : IsPair w' y n 1 := hy
      show IsPair w' y (n : Rat).num ((n : Rat).den : Int)
      rw [Rat.num_intCast, Rat.den_intCast]
      exact h0
    exact ⟨y, rfl, fun β => (one_q hq).2 ⟨hy', by rw [Rat.num_intCast]; exact lim3 hn.1 hn.2, by rw [Rat.den_intCast]; exact lim3 (z := 1) (by decide) (by decide)⟩, ex⟩
  · cases hc
def placeV (a b c d e f : Int) : Value := .agg #[.int .i16 a, .int .i16 b, .int .i16 c, .int .i16 d, .int .u16 e, .int .u8 f]
def vecV (x y : Int) : Value := .agg #[.int .i64 x, .int .i64 y]
def placeA : AV := .val true [.n .i16 (.var 26), .n .i16 (.var 28), .n .i16 (.var 30), .n .i16 (.var 32), .n .u16 (.var 34), .n .u8 (.var 36)]
def vecA : AV := .val true [.n .i64 (.var 38), .n .i64 (.var 40)]
structure PlaceOK (a b c d e f : Int) : Prop where
  a : -32768 ≤ a ∧ a ≤ 32767
  b : -32768 ≤ b ∧ b ≤ 32767
  c : -32768 ≤ c ∧ c ≤ 32767
  d : -32768 ≤ d ∧ d ≤ 32767
  e : 0 ≤ e ∧ e ≤ 65535
  f : 0 ≤ f ∧ f ≤ 255
structure PlaceE (E : Env) (a b c d e f x y : Int) : Prop where
  a : E.i 26 = a
  b : E.i 28 = b
  c : E.i 30 = c
  d : E.i 32 = d
  e : E.i 34 = e
  f : E.i 36 = f
  x : E.i 38 = x
  y : E.i 40 = y
theorem PlaceE.place {E : Env} {β : Nat → Nat} {w : World} {a b c d e f x y : Int} (h : PlaceE E a b c d e f x y) : placeA.holds E β w (placeV a b c d e f) := by
  obtain ⟨rfl, rfl, rfl, rfl, rfl, rfl, rfl, rfl⟩ := h
  exact ⟨[_, _, _, _, _, _], rfl, [_], _, rfl, rfl, [_], _, rfl, rfl, [_], _, rfl, rfl, [_], _, rfl, rfl, [_], _, rfl, rfl, [_], [], rfl, rfl, rfl⟩
theorem PlaceE.vec {E : Env} {β : Nat → Nat} {w : World} {a b c d e f x y : Int} (h : PlaceE E a b c d e f x y) : vecA.holds E β w (vecV x y) := by
  obtain ⟨rfl, rfl, rfl, rfl, rfl, rfl, rfl, rfl⟩ := h
  exact ⟨[_, _], rfl, [_], _, rfl, rfl, [_], [], rfl, rfl, rfl⟩
theorem PlaceE.place_out {E : Env} {β : Nat → Nat} {w : World} {a b c d e f x y : Int} (h : PlaceE E a b c d e f x y) {v : Value} (hv : placeA.holds E β w v) : v = placeV a b c d e f := by
  obtain ⟨rfl, rfl, rfl, rfl, rfl, rfl, rfl, rfl⟩ := h
  obtain ⟨vs, rfl, x0, r0, rfl, h0, x1, r1, rfl, h1, x2, r2, rfl, h2, x3, r3, rfl, h3, x4, r4, rfl, h4, x5, r5, rfl, h5, hn⟩ := hv
  simp only [Chunk.holds] at h0 h1 h2 h3 h4 h5
  simp only [chunks] at hn
  subst h0 h1 h2 h3 h4 h5 hn
  rfl
theorem PlaceE.vec_out {E : Env} {β : Nat → Nat} {w : World} {a b c d e f x y : Int} (h : PlaceE E a b c d e f x y) {v : Value} (hv : vecA.holds E β w v) : v = vecV x y := by
  obtain ⟨rfl, rfl, rfl, rfl, rfl, rfl, rfl, rfl⟩ := h
  obtain ⟨vs, rfl, x0, r0, rfl, h0, x1, r1, rfl, h1, hn⟩ := hv
  simp only [Chunk.holds] at h0 h1
  simp only [chunks] at hn
  subst h0 h1 hn
  rfl
def rtA6 : List Chunk := rt (qI 14) (qI 16) (qI 18) 20
def rtB6 : List Chunk := rt (qI 20) (qI 22) (qI 24) 20
def rOk (cs : List Chunk) : AV := .tup [(true, cs), (false, [.n .i64 (.lit 0)])]
def tMx : List (List IT2) := [[qop 0 (qI 0) (qI 10)], [qI 2], [qI 8]]
def tMy : List (List IT2) := [[qop 0 (qI 4) (qI 12)], [qI 6], [qI 8]]
noncomputable def tabPl : List (Nat × Con) :=
  (22, kKq (cfr (nT 26) (dT6 36)) (aQ3 0) (kKq (cfr (nT 28) (dT6 36)) (aQ3 2) (kKq (cfr (nT 30) (dT6 36)) (aQ3 4) (kKq (cfr (nT 32) (dT6 36)) (aQ3 6) kNoQ)))) ::
  (50, kKq (cfi (nT 34)) (aQ3 8) (kKq (cfi (.var 38)) (aQ3 10) (kKq (cfi (.var 40)) (aQ3 12) kNoQ))) ::
  (49, kKq (cts tMx) (rOk rtA6) (kKq (cts tMy) (rOk rtB6) kNoQ)) :: tabT
def gX6 (b : Bool) : Asm := [(zt (qI 16), b)]
def ptT (C : IT2) : List IT2 := [qI 14, qI 16, qI 20, qI 22, C]
def isPt (ts : List IT2) : Option Tree → Bool
  | some (.leaf [(true, cs)]) => t6 ts cs
  | _ => false
noncomputable def plW (b : Bool) : Option Tree := funE (cfgOf tabPl) Tryz.f46 (gX6 b) [placeA, vecA]
theorem pl_walk : (isPt (ptT (qI 24)) (plW true) && isPt (ptT (qI 18)) (plW false)) = true := by kernel_rfl
end Go.Proofs.YtllijnecmekfeaaGreatDoor
end

section
set_option maxRecDepth 100000
namespace Go.Proofs.YtllijnecmekfeaaGreatDoor
open Go.RowKit Go.Shelf
theorem sum_lim8 {p q : Rat} (h : LimQ 3 p) (k : LimQ 3 q) : LimQ 8 (p + q) := by
  have m := LimQ.add6 (n := 8) h.1 h.2 k.1 k.2 (by omega) (by omega)
  exact ⟨m.1, m.2.mono (by omega)⟩
theorem i64_lim {z : Int} (h : I64 z) : LimQ 3 (z : Rat) := ⟨by rw [Rat.num_intCast]; exact lim3 h.1 h.2, by rw [Rat.den_intCast]; exact lim3 (z := 1) (by decide) (by decide)⟩
theorem place_ex (A B C D F H x y : Int) (h : PlaceOK A B C D F H) (hx : I64 x) (hy : I64 y) : ∃ a b c d e : Rat, (b ≠ 0 → Rd b e) ∧ (d ≠ 0 → Rd d e) ∧ (LimQ 20 a ∧ LimQ 20 b ∧ LimQ 20 c ∧ LimQ 20 d ∧ LimQ 20 e) ∧ ∀ w : World, Calls Tryz.prog 46 #[placeV A B C D F H, vecV x y] w (Ret (fun v w' => IsQs w' v [a, b, c, d, e]) w) := by
  obtain ⟨⟨a1, a2⟩, ⟨b1, b2⟩, ⟨c1, c2⟩, ⟨d1, d2⟩, ⟨e1, e2⟩, ⟨f1, f2⟩⟩ := h
  have i64 : ∀ z : Int, -32768 ≤ z → z ≤ 65536 → I64 z := fun z h1 h2 => ⟨by omega, by omega⟩
  obtain ⟨qa, hqa⟩ : ∃ q, q = Rat.divInt A (H + 1) := ⟨_, rfl⟩
  obtain ⟨qb, hqb⟩ : ∃ q, q = Rat.divInt B (H + 1) := ⟨_, rfl⟩
  obtain ⟨qc, hqc⟩ : ∃ q, q = Rat.divInt C (H + 1) := ⟨_, rfl⟩
  obtain ⟨qd, hqd⟩ : ∃ q, q = Rat.divInt D (H + 1) := ⟨_, rfl⟩
  have iH : I64 (H + 1) := i64 _ (by omega) (by omega)
  have iF : I64 F := i64 _ (by omega) (by omega)
  have la : LimQ 3 qa := by rw [hqa]; exact frac_lim (i64 _ (by omega) (by omega)) iH
  have lb : LimQ 3 qb := by rw [hqb]; exact frac_lim (i64 _ (by omega) (by omega)) iH
  have lc : LimQ 3 qc := by rw [hqc]; exact frac_lim (i64 _ (by omega) (by omega)) iH
  have ld : LimQ 3 qd := by rw [hqd]; exact frac_lim (i64 _ (by omega) (by omega)) iH
  have nF : (0 : Rat) ≤ (F : Rat) := Rat.intCast_nonneg.2 e1
  obtain ⟨x1, x2, x3, RX, lX, eX, hmX⟩ := make_ex (a := qa + (x : Rat)) (b := qb) (c := (F : Rat)) nF (sum_lim8 la (i64_lim hx)) lb (i64_lim iF)
  obtain ⟨y1, y2, y3, RY, lY, eY, hmY⟩ := make_ex (a := qc + (y : Rat)) (b := qd) (c := (F : Rat)) nF (sum_lim8 lc (i64_lim hy)) ld (i64_lim iF)
  obtain ⟨V, hV⟩ : ∃ V, V = qE [qa, qb, qc, qd, (F : Rat), (x : Rat), (y : Rat), x1, x2, x3, y1, y2, y3, (A : Rat), (B : Rat), (C : Rat), (D : Rat), (F : Rat), (H : Rat), (x : Rat), (y : Rat)] := ⟨_, rfl⟩
  have hQ : QEnv V := by rw [hV]; exact qE_ok _
  have r0 : RepQ V (qI 0) qa := by rw [hV]; exact ⟨rfl, rfl⟩
  have r1 : RepQ V (qI 2) qb := by rw [hV]; exact ⟨rfl, rfl⟩
  have r2 : RepQ V (qI 4) qc := by rw [hV]; exact ⟨rfl, rfl⟩
  have r3 : RepQ V (qI 6) qd := by rw [hV]; exact ⟨rfl, rfl⟩
  have r4 : RepQ V (qI 8) (F : Rat) := by rw [hV]; exact ⟨rfl, rfl⟩
  have r5 : RepQ V (qI 10) (x : Rat) := by rw [hV]; exact ⟨rfl, rfl⟩
  have r6 : RepQ V (qI 12) (y : Rat) := by rw [hV]; exact ⟨rfl, rfl⟩
  have rx1 : RepQ V (qI 14) x1 := by rw [hV]; exact ⟨rfl, rfl⟩
  have rx2 : RepQ V (qI 16) x2 := by rw [hV]; exact ⟨rfl, rfl⟩
  have rx3 : RepQ V (qI 18) x3 := by rw [hV]; exact ⟨rfl, rfl⟩
  have ry1 : RepQ V (qI 20) y1 := by rw [hV]; exact ⟨rfl, rfl⟩
  have ry2 : RepQ V (qI 22) y2 := by rw [hV]; exact ⟨rfl, rfl⟩
  have ry3 : RepQ V (qI 24) y3 := by rw [hV]; exact ⟨rfl, rfl⟩
  have pe : PlaceE V A B C D F H x y := by
    subst hV
    exact ⟨qE_int (i := 13) rfl, qE_int (i := 14) rfl, qE_int (i := 15) rfl, qE_int (i := 16) rfl, qE_int (i := 17) rfl, qE_int (i := 18) rfl, qE_int (i := 19) rfl, qE_int (i := 20) rfl⟩
  have nt : ∀ {i : Nat} {z : Int}, V.i i = z → -32768 ≤ z → z ≤ 65536 → (nT i).den V = z := by
    intro i z hi h1 h2
    show IntKind.i64.wrap (V.i i) = z
    rw [hi]; exact IntWalk.i64_in _ (by omega)
  have dt : (dT6 36).den V = H + 1 := by
    show IntKind.i64.wrap (IntKind.i64.wrap (V.i 36) + 1) = H + 1
    rw [pe.f, IntWalk.i64_in H (by omega)]; exact IntWalk.i64_in _ (by omega)
  have mk : ∀ {ts : List (List IT2)} {a b c a' b' c' : Rat} {A' B' C' : IT2}, RepsL V ts [[a], [b], [c]] → RepQ V A' a' → RepQ V B' b' → RepQ V C' c' → LimR 20 a' b' c' →
      (∀ (w : World) (v1 v2 v3 : Value), IsRat w v1 a → IsRat w v2 b → IsRat w v3 c → Calls Tryz.prog 49 #[v1, v2, v3] w fun e w' => ∃ x, e = .returned (.tuple #[x, .int .i64 0]) ∧ IsRoot w' x a' b' c' ∧ Ext w w') → KnownR V 49 (cts ts) (rOk (rt A' B' C' 20)) := by
    intro ts a b c a' b' c' A' B' C' hr rA rB rC l hm
    refine knownT hr (fun x off e => by cases e) fun w vs hv => ?_
    obtain ⟨v1, v2, v3, rfl, k1, k2, k3⟩ := argsQ3 hv
    refine (hm w v1 v2 v3 (qs_rat k1) (qs_rat k2) (qs_rat k3)).mono ?_
    rintro e w' ⟨x, rfl, hx, ex⟩
    exact ⟨_, rfl, fun β => ⟨[x, .int .i64 0], rfl, _, _, rfl, (one_root rA rB rC).2 ⟨hx, l⟩, _, _, rfl, one_num.2 rfl, rfl⟩, ex⟩
  have hT : TabOK Tryz.prog V tabPl :=
    .cons (kKr_ok (frac_known (q := qI 0) (nt pe.a (by omega) (by omega)) dt (i64 _ (by omega) (by omega)) iH (by rw [← hqa]; exact r0)) <|
      kKr_ok (frac_known (q := qI 2) (nt pe.b (by omega) (by omega)) dt (i64 _ (by omega) (by omega)) iH (by rw [← hqb]; exact r1)) <|
      kKr_ok (frac_known (q := qI 4) (nt pe.c (by omega) (by omega)) dt (i64 _ (by omega) (by omega)) iH (by rw [← hqc]; exact r2)) <|
      kKr_ok (frac_known (q := qI 6) (nt pe.d (by omega) (by omega)) dt (i64 _ (by omega) (by omega)) iH (by rw [← hqd]; exact r3)) (kNoQ_ok ⟨_, Tryz.func22, by decide +kernel, by kernel_rfl⟩)) <|
    .cons (kKr_ok (from_known (q := qI 8) (nt pe.e (by omega) (by omega)) iF r4) <|
      kKr_ok (from_known (q := qI 10) (t := .var 38) pe.x hx r5) <|
      kKr_ok (from_known (q := qI 12) (t := .var 40) pe.y hy r6) (kNoQ_ok ⟨_, Tryz.func50, by decide +kernel, by kernel_rfl⟩)) <|
    .cons (kKr_ok (mk ⟨⟨rep_op (f := 0) (by omega) r0 r5, trivial⟩, ⟨r1, trivial⟩, ⟨r4, trivial⟩, trivial⟩ rx1 rx2 rx3 lX hmX) <|
      kKr_ok (mk ⟨⟨rep_op (f := 0) (by omega) r2 r6, trivial⟩, ⟨r3, trivial⟩, ⟨r4, trivial⟩, trivial⟩ ry1 ry2 ry3 lY hmY) (kNoQ_ok ⟨_, Tryz.func49, by decide +kernel, by kernel_rfl⟩)) (tabT_ok hQ)
  have fin : ∀ (b : Bool) (Ct : IT2) (c : Rat), (gX6 b).holds V → RepQ V Ct c → isPt (ptT Ct) (plW b) = true → ∀ w : World, Calls Tryz.prog 46 #[placeV A B C D F H, vecV x y] w (Ret (fun v w' => IsQs w' v [x1, x2, y1, y2, c]) w) := by
    intro b Ct c hG rc hW w
    unfold isPt at hW
    split at hW
    · rename_i cs hTe
      refine (fun_sound mixed (cfg_ok hT) hG Tryz.func46 (by decide +kernel) hTe (by decide +kernel) rfl w [_, _] rfl ?_).mono ?_
      · intro i u hu
        match i, hu with
        | 0, hu => injection hu with hu; subst hu; exact ⟨fun _ => 0, _, rfl, pe.place⟩
        | 1, hu => injection hu with hu; subst hu; exact ⟨fun _ => 0, _, rfl, pe.vec⟩
      · rintro e w' ⟨β, v, rfl, ⟨vs, rfl, hc⟩, ex⟩
        exact ⟨_, rfl, ⟨vs, rfl, t6_holds (show Reps V (ptT Ct) [x1, x2, y1, y2, c] from ⟨rx1, rx2, ry1, ry2, rc, trivial⟩) hW hc⟩, ex⟩
    · cases hW
  have hpl := pl_walk
  rw [Bool.and_eq_true] at hpl
  by_cases h0 : x2 = 0
  · exact ⟨x1, x2, y1, y2, y3, fun k => absurd h0 k, fun _ => RY, ⟨lX.1, lX.2.1, lY.1, lY.2.1, lY.2.2⟩, fin true (qI 24) y3 (asm_and (by rw [zt_den rx2, decide_eq_true h0]) asm_nil) ry3 hpl.1⟩
  · exact ⟨x1, x2, y1, y2, x3, fun _ => RX, fun k => by rw [eX h0, ← eY k]; exact RY, ⟨lX.1, lX.2.1, lY.1, lY.2.1, lX.2.2⟩, fin false (qI 18) x3 (asm_and (by rw [zt_den rx2, decide_eq_false h0]) asm_nil) rx3 hpl.2⟩
end Go.Proofs.YtllijnecmekfeaaGreatDoor
end

section
set_option maxRecDepth 100000
namespace Go.Proofs.YtllijnecmekfeaaGreatDoor
open Go.RowKit Go.Shelf
def cfgAw (C : Cfg) : Cfg := { C with
  calls := fun f args M G => if f = 11 then kAw6 args G else C.calls f args M G
  wok := WQ }
theorem cfgAw_ok {E : Env} {C : Cfg} (h : CfgOK Tryz.prog E C) (hw : ∀ w, C.wok w) : CfgOK Tryz.prog E (cfgAw C) := by
  refine ⟨h.zero, h.ag, h.fld, h.flds, h.bool, h.row, h.arr, ?_, ?_, ?_, h.slc, h.strT, h.cnv, h.apd, h.eq2⟩
  · intro f args M G r hr hG β w vs hwk hv hlen hm
    simp only [cfgAw] at hr
    split at hr
    · rename_i hf
      subst hf
      exact kAw6_ok.calls args G r hr hG β w vs hwk hv hlen
    · exact h.calls f args M G r hr hG β w vs (hw w) hv hlen hm
  · intro f args M G r hr x off
    simp only [cfgAw] at hr
    split at hr
    · exact (kAw6_ok (E := E)).nptr args G r hr x off
    · exact h.nptr f args M G r hr x off
  · intro f args M G r hr
    simp only [cfgAw] at hr
    split at hr
    · rename_i hf
      subst hf
      exact (kAw6_ok (E := E)).body
    · exact h.body f args M G r hr
def cfgAg (C : Cfg) : Cfg := { C with ag := fun t => if t = 67 then some (true, 2) else C.ag t }
theorem cfgAg_ok {E : Env} {C : Cfg} (h : CfgOK Tryz.prog E C) : CfgOK Tryz.prog E (cfgAg C) := by
  refine ⟨h.zero, ?_, h.fld, h.flds, h.bool, h.row, h.arr, h.calls, h.nptr, h.body, h.slc, h.strT, h.cnv, h.apd, h.eq2⟩
  intro t b n ht w
  simp only [cfgAg] at ht
  split at ht
  · rename_i e
    subst e
    injection ht with ht
    injection ht with e1 e2
    subst e1 e2
    exact ⟨Tryz.isAgg67 w, Tryz.sizeOf67 w, fun h => by cases h⟩
  · exact h.ag t b n ht w
def cI6 (t : IT) : List AV → Bool
  | [.val true [.int x _]] => x.beq t
  | _ => false
def rI6 (i j : Nat) : AV := .tup [(false, [.n .i64 (.var i)]), (false, [.b (.var j)])]
theorem int64_known {E : Env} {f : Nat} {t : IT} {i j : Nat} {z : Int} (ht : t.den E = z) (hi : E.i i = i64v z) (hj : E.b j = i64ok z) (hc : ∀ (w : World) (v : Value) (z : Int), IsInt w v z → Calls Tryz.prog f #[v] w fun e w' => e = .returned (.tuple #[.int .i64 (i64v z), .bool (i64ok z)]) ∧ Ext w w') : KnownR E f (cI6 t) (rI6 i j) := by
  refine ⟨?_, fun x off e => by cases e⟩
  intro args hc' β w vs hv hl
  unfold cI6 at hc'
  split at hc'
  · have e1 := IT.eq_of_beq hc'
    subst e1
    obtain ⟨v, rfl, h1⟩ := args1 hv hl
    have k := (one_int.1 h1).1
    rw [ht] at k
    refine (hc w v z k).mono ?_
    rintro e w' ⟨rfl, ex⟩
    exact ⟨_, rfl, fun β => ⟨[_, _], rfl, _, _, rfl, one_num.2 (by rw [← hi]; rfl), _, _, rfl, one_bool.2 (by rw [← hj]; rfl), rfl⟩, ex⟩
  · cases hc'
def termD (k : Nat) : List IT2 → List Chunk
  | [] => []
  | t :: ts => .int t.1 k :: .int t.2 k :: termD k ts
theorem termD_holds {E : Env} {w : World} {k : Nat} : ∀ {ts : List IT2} {qs : List Rat} {vs : List Value}, Reps E ts qs → RatsQ w vs qs → LimQs k qs → chunks E w (termD k ts) vs
  | [], [], vs, _, h, _ => h
  | [], _ :: _, _, hr, _, _ => hr.elim
  | _ :: _, [], _, hr, _, _ => hr.elim
  | t :: ts, q :: qs, vs, hr, ⟨x, r, e, h1, h2⟩, hl => by
    subst e
    exact (two_chunks hr.1).2 ⟨x, r, rfl, ⟨h1, (hl q (by simp)).1, (hl q (by simp)).2⟩, termD_holds hr.2 h2 (fun p hp => hl p (by simp [hp]))⟩
def cPl : List AV → Bool
  | [.val true [.n .i16 (.var 26), .n .i16 (.var 28), .n .i16 (.var 30), .n .i16 (.var 32), .n .u16 (.var 34), .n .u8 (.var 36)], .val true [.n .i64 (.var 38), .n .i64 (.var 40)]] => true
  | _ => false
def ptC : List Chunk := termD 20 [qI 0, qI 2, qI 4, qI 6, qI 8]
def coX : List (List IT2) := [[qI 0], [qI 2], [qI 8]]
def coY : List (List IT2) := [[qI 4], [qI 6], [qI 8]]
def nrX : List (List IT2) := [[qI 0, qI 2, qI 10]]
def nrY : List (List IT2) := [[qI 4, qI 6, qI 12]]
def rN9 (i : Nat) : AV := .val true [.int (.var i) 9000]
noncomputable def tabSn6 : List (Nat × Con) :=
  (46, kKq cPl (.val true ptC) kNoQ) ::
  (99, kKq (cts coX) (.val true (rt (qI 0) (qI 2) (qI 10) 20)) (kKq (cts coY) (.val true (rt (qI 4) (qI 6) (qI 12) 20)) kNoQ)) ::
  (100, kKq (cts coX) (.val true (rt (qI 0) (qI 2) (qI 10) 20)) (kKq (cts coY) (.val true (rt (qI 4) (qI 6) (qI 12) 20)) kNoQ)) ::
  (29, kKq (cts nrX) (rN9 14) (kKq (cts nrY) (rN9 16) kNoQ)) ::
  (30, kKq (cts nrX) (rN9 14) (kKq (cts nrY) (rN9 16) kNoQ)) ::
  (149, kKq (cI6 (.var 14)) (rI6 18 0) (kKq (cI6 (.var 16)) (rI6 20 1) kNoQ)) ::
  (150, kKq (cI6 (.var 14)) (rI6 18 0) (kKq (cI6 (.var 16)) (rI6 20 1) kNoQ)) :: []
noncomputable def iSn1 : List (Nat × Func) := [(96, Tryz.f96), (97, Tryz.f97)]
noncomputable def iSn2 : List (Nat × Func) := [(47, Tryz.f47), (48, Tryz.f48)]
noncomputable def cSn6 : Cfg := cfgAw (cfgAg (cfgT2 tabSn6 iSn1 iSn2))
def gMl (i j : Nat) (b l h : Bool) : Asm := [(.var j, b), (.lt (.var i) (.lit (-10000000)), l), (.le (.lit (-10000000)) (.var i), !l), (.lt (.lit 10000000) (.var i), h), (.le (.var i) (.lit 10000000), !h)]
def bo3 : List (Bool × Bool × Bool) := [(true, true, true), (true, true, false), (true, false, true), (true, false, false), (false, true, true), (false, true, false), (false, false, true), (false, false, false)]
theorem bo3_mem (p : Bool × Bool × Bool) : p ∈ bo3 := by
  obtain ⟨a, b, c⟩ := p
  cases a <;> cases b <;> cases c <;> decide
def gSn (x y : Bool × Bool × Bool) : Asm := gMl 18 0 x.1 x.2.1 x.2.2 ++ gMl 20 1 y.1 y.2.1 y.2.2
theorem sn_walk : (bo3.all fun x => bo3.all fun y => okL6 (funE cSn6 Tryz.f10 (gSn x y) [placeA, vecA])) = true := by kernel_rfl
end Go.Proofs.YtllijnecmekfeaaGreatDoor
end

section
set_option maxRecDepth 100000
namespace Go.Proofs.YtllijnecmekfeaaGreatDoor
open Go.RowKit Go.Shelf
theorem argsQ1' {w : World} {vs : List Value} {l : List Rat} (h : ArgsQ w vs [l]) : ∃ v, vs = [v] ∧ IsQs w v l := by
  match vs, h with
  | [v], h => exact ⟨v, rfl, h.1⟩
theorem co_known {E : Env} (p : Bool) {A B C D : IT2} {a b c : Rat} (ra : RepQ E A a) (rb : RepQ E B b) (rc : RepQ E C c) (rd : RepQ E D (cx6 b c)) (la : LimQ 20 a) (lb : LimQ 20 b) (lc : LimQ 20 c) : KnownR E (if p then 99 else 100) (cts [[A], [B], [C]]) (.val true (rt A B D 20)) := by
  refine knownT (ls := [[a], [b], [c]]) ⟨⟨ra, trivial⟩, ⟨rb, trivial⟩, ⟨rc, trivial⟩, trivial⟩ (fun x off e => by cases e) fun w vs hv => ?_
  obtain ⟨v1, v2, v3, rfl, k1, k2, k3⟩ := argsQ3 hv
  refine (co_calls p la lb lc w v1 v2 v3 (qs_rat k1) (qs_rat k2) (qs_rat k3)).mono ?_
  rintro e w' ⟨x, rfl, hx, ex⟩
  refine ⟨x, rfl, fun β => (one_root ra rb rd).2 ⟨hx, la, lb, ?_⟩, ex⟩
  unfold cx6
  split
  · exact LimQ.zero (by omega)
  · exact lc
theorem nr_known {E : Env} (p : Bool) {A B C : IT2} {i : Nat} {a b c : Rat} (R : Rd b c) (l : LimR 20 a b c) (ra : RepQ E A a) (rb : RepQ E B b) (rc : RepQ E C c) (hi : E.i i = flN (a + hf) b c) : KnownR E (if p then 29 else 30) (cts [[A, B, C]]) (rN9 i) := by
  refine knownT (ls := [[a, b, c]]) ⟨⟨ra, rb, rc, trivial⟩, trivial⟩ (fun x off e => by cases e) fun w vs hv => ?_
  obtain ⟨v, rfl, k⟩ := argsQ1' hv
  refine (nr_calls p R l w v (qs_root k)).mono ?_
  rintro e w' ⟨x, rfl, ⟨hx, hl⟩, ex⟩
  exact ⟨x, rfl, fun β => one_int.2 (by show IsInt w' x (E.i i) ∧ Lim 9000 (E.i i); rw [hi]; exact ⟨hx, hl⟩), ex⟩
theorem rd_cx {b c : Rat} (h : b ≠ 0 → Rd b c) : Rd b (cx6 b c) := by
  unfold cx6
  split
  · rename_i hb; exact .inl ⟨hb, rfl⟩
  · rename_i hb; exact h hb
theorem lim_cx {b c : Rat} (h : LimQ 20 c) : LimQ 20 (cx6 b c) := by
  unfold cx6
  split
  · exact LimQ.zero (by omega)
  · exact h
theorem gMl_ok {E : Env} {i j : Nat} : (gMl i j (E.b j) (decide (E.i i < -10000000)) (decide (10000000 < E.i i))).holds E := by
  refine asm_and rfl <| asm_and rfl <| asm_and ?_ <| asm_and rfl <| asm_and ?_ asm_nil
  · show decide (-10000000 ≤ E.i i) = !decide (E.i i < -10000000)
    rw [← decide_not, decide_eq_decide]; omega
  · show decide (E.i i ≤ 10000000) = !decide (10000000 < E.i i)
    rw [← decide_not, decide_eq_decide]; omega
theorem cAgT_ok {E : Env} (h : TabOK Tryz.prog E tabSn6) : CfgOK Tryz.prog E cSn6 :=
  cfgAw_ok (cfgAg_ok (cfgT2_ok mixed h (.cons Tryz.func96 (by decide +kernel) (by kernel_rfl) (.cons Tryz.func97 (by decide +kernel) (by kernel_rfl) .nil)) (.cons Tryz.func47 (by decide +kernel) (by kernel_rfl) (.cons Tryz.func48 (by decide +kernel) (by kernel_rfl) .nil)))) (fun _ => trivial)
theorem decimalSnap_calls (w : World) (hw : WQ w) (A B C D F H x y : Int) (h : PlaceOK A B C D F H) (hx : I64 x) (hy : I64 y) : Calls Tryz.prog 10 #[placeV A B C D F H, vecV x y] w (IsT w) := by
  obtain ⟨a, b, c, d, e, Rb, Rc, ⟨la, lb, lc, ld, le⟩, hm⟩ := place_ex A B C D F H x y h hx hy
  obtain ⟨nx, hnx⟩ : ∃ n, n = flN (a + hf) b (cx6 b e) := ⟨_, rfl⟩
  obtain ⟨ny, hny⟩ : ∃ n, n = flN (c + hf) d (cx6 d e) := ⟨_, rfl⟩
  obtain ⟨V, hV⟩ : ∃ V : Env, V = { qE [a, b, c, d, e, cx6 b e, cx6 d e, (nx : Rat), (ny : Rat), (i64v nx : Rat), (i64v ny : Rat), 0, 0, (A : Rat), (B : Rat), (C : Rat), (D : Rat), (F : Rat), (H : Rat), (x : Rat), (y : Rat)] with b := fun j => if j = 0 then i64ok nx else i64ok ny } := ⟨_, rfl⟩
  have r0 : RepQ V (qI 0) a := by rw [hV]; exact ⟨rfl, rfl⟩
  have r1 : RepQ V (qI 2) b := by rw [hV]; exact ⟨rfl, rfl⟩
  have r2 : RepQ V (qI 4) c := by rw [hV]; exact ⟨rfl, rfl⟩
  have r3 : RepQ V (qI 6) d := by rw [hV]; exact ⟨rfl, rfl⟩
  have r4 : RepQ V (qI 8) e := by rw [hV]; exact ⟨rfl, rfl⟩
  have r5 : RepQ V (qI 10) (cx6 b e) := by rw [hV]; exact ⟨rfl, rfl⟩
  have r6 : RepQ V (qI 12) (cx6 d e) := by rw [hV]; exact ⟨rfl, rfl⟩
  have v14 : V.i 14 = nx := by rw [hV]; exact qE_int (i := 7) rfl
  have v16 : V.i 16 = ny := by rw [hV]; exact qE_int (i := 8) rfl
  have v18 : V.i 18 = i64v nx := by rw [hV]; exact qE_int (i := 9) rfl
  have v20 : V.i 20 = i64v ny := by rw [hV]; exact qE_int (i := 10) rfl
  have b0 : V.b 0 = i64ok nx := by rw [hV]; rfl
  have b1 : V.b 1 = i64ok ny := by rw [hV]; rfl
  have pe : PlaceE V A B C D F H x y := by
    subst hV
    exact ⟨qE_int (i := 13) rfl, qE_int (i := 14) rfl, qE_int (i := 15) rfl, qE_int (i := 16) rfl, qE_int (i := 17) rfl, qE_int (i := 18) rfl, qE_int (i := 19) rfl, qE_int (i := 20) rfl⟩
  have kOf : KnownR V 46 cPl (.val true ptC) := by
    refine ⟨?_, fun x off e => by cases e⟩
    intro args hc β w vs hv hl
    unfold cPl at hc
    split at hc
    · match vs, hl with
      | [v1, v2], _ =>
        obtain ⟨u1, e1, k1⟩ := hv 0 _ rfl
        obtain ⟨u2, e2, k2⟩ := hv 1 _ rfl
        injection e1 with e1
        injection e2 with e2
        subst e1 e2
        rw [pe.place_out k1, pe.vec_out k2]
        refine (hm w).mono ?_
        rintro e' w' ⟨v, rfl, ⟨us, rfl, hr⟩, ex⟩
        refine ⟨_, rfl, fun β => ⟨us, rfl, termD_holds (ts := [qI 0, qI 2, qI 4, qI 6, qI 8]) (show Reps V _ [a, b, c, d, e] from ⟨r0, r1, r2, r3, r4, trivial⟩) hr ?_⟩, ex⟩
        intro q hq
        simp only [List.mem_cons, List.not_mem_nil, or_false] at hq
        rcases hq with rfl | rfl | rfl | rfl | rfl <;> assumption
    · cases hc
  have i1 : KnownR V 149 (cI6 (.var 14)) (rI6 18 0) := int64_known v14 v18 b0 int64_calls
  have i2 : KnownR V 149 (cI6 (.var 16)) (rI6 20 1) := int64_known v16 v20 b1 int64_calls
  have j1 : KnownR V 150 (cI6 (.var 14)) (rI6 18 0) := int64_known v14 v18 b0 rint64_calls
  have j2 : KnownR V 150 (cI6 (.var 16)) (rI6 20 1) := int64_known v16 v20 b1 rint64_calls
  have lx : LimR 20 a b (cx6 b e) := ⟨la, lb, lim_cx le⟩
  have ly : LimR 20 c d (cx6 d e) := ⟨lc, ld, lim_cx le⟩
  have hT : TabOK Tryz.prog V tabSn6 :=
    .cons (kKr_ok kOf (kNoQ_ok ⟨_, Tryz.func46, by decide +kernel, by kernel_rfl⟩)) <|
    .cons (kKr_ok (co_known true r0 r1 r4 r5 la lb le) <| kKr_ok (co_known true r2 r3 r4 r6 lc ld le) (kNoQ_ok ⟨_, Tryz.func99, by decide +kernel, by kernel_rfl⟩)) <|
    .cons (kKr_ok (co_known false r0 r1 r4 r5 la lb le) <| kKr_ok (co_known false r2 r3 r4 r6 lc ld le) (kNoQ_ok ⟨_, Tryz.func100, by decide +kernel, by kernel_rfl⟩)) <|
    .cons (kKr_ok (nr_known true (rd_cx Rb) lx r0 r1 r5 (v14.trans hnx)) <| kKr_ok (nr_known true (rd_cx Rc) ly r2 r3 r6 (v16.trans hny)) (kNoQ_ok ⟨_, Tryz.func29, by decide +kernel, by kernel_rfl⟩)) <|
    .cons (kKr_ok (nr_known false (rd_cx Rb) lx r0 r1 r5 (v14.trans hnx)) <| kKr_ok (nr_known false (rd_cx Rc) ly r2 r3 r6 (v16.trans hny)) (kNoQ_ok ⟨_, Tryz.func30, by decide +kernel, by kernel_rfl⟩)) <|
    .cons (kKr_ok i1 <| kKr_ok i2 (kNoQ_ok ⟨_, Tryz.func149, by decide +kernel, by kernel_rfl⟩)) <|
    .cons (kKr_ok j1 <| kKr_ok j2 (kNoQ_ok ⟨_, Tryz.func150, by decide +kernel, by kernel_rfl⟩)) .nil
  have hG : (gSn (V.b 0, decide (V.i 18 < -10000000), decide (10000000 < V.i 18)) (V.b 1, decide (V.i 20 < -10000000), decide (10000000 < V.i 20))).holds V := asm_cat gMl_ok gMl_ok
  have hWk := List.all_eq_true.1 (List.all_eq_true.1 sn_walk _ (bo3_mem (V.b 0, decide (V.i 18 < -10000000), decide (10000000 < V.i 18)))) _ (bo3_mem (V.b 1, decide (V.i 20 < -10000000), decide (10000000 < V.i 20)))
  obtain ⟨T, hT', hall⟩ := okL6_spec hWk
  refine (fun_sound mixed (cAgT_ok hT) hG Tryz.func10 (by decide +kernel) hT' (by decide +kernel) rfl w [_, _] rfl (fun i u hu => ?_) (fun w' e => hw.ext e)).mono ?_
  · match i, hu with
    | 0, hu => injection hu with hu; subst hu; exact ⟨fun _ => 0, _, rfl, pe.place⟩
    | 1, hu => injection hu with hu; subst hu; exact ⟨fun _ => 0, _, rfl, pe.vec⟩
  · rintro e w' ⟨β, v, rfl, hh, ex⟩
    rw [allL6_out hall hh]
    exact ⟨rfl, ex⟩
end Go.Proofs.YtllijnecmekfeaaGreatDoor
end

section
set_option maxRecDepth 100000
namespace Go.Proofs.YtllijnecmekfeaaGreatDoor
open Go.ChangeShapes Go.WideShapes Go.ChangeAt Go.RowKit Go.Joins
theorem okWide_arr6 {W : World} {r : Reach} {b0 : Nat} {t e : TypeId} {n : Nat} {v : Value} (ht : Tryz.prog.underlying t = some (.array n e)) (h : Value.okWide Tryz.prog W r b0 t v) : ∃ cs, v = .agg cs ∧ cs.size = Tryz.prog.cellsOf t := by
  unfold Value.okWide at h
  rw [ht] at h
  obtain ⟨cs, h1, h2, _⟩ := h
  exact ⟨cs, h1, h2⟩
theorem arr2d {cs : Array Value} (h : cs.size = 2) : ∃ c0 c1, cs = #[c0, c1] := by
  obtain ⟨l⟩ := cs
  have h' : l.length = 2 := h
  match l, h' with
  | [c0, c1], _ => exact ⟨c0, c1, rfl⟩
theorem i64_wf6 {n : Int} (h : (Lit.int .i64 n).wf = true) : I64 n := by
  have h' := h
  simp [Lit.wf, IntKind.min, IntKind.max, IntKind.signed, IntKind.bits] at h'
  exact ⟨by omega, by omega⟩
theorem open_v2 {H : Type} {enc : TypeId × Value → H} {W : World} {b0 base : Nat} {spare : Nat → Bool} {held : Bool} {r : Reach} {v : Value} {d : DataW H} {p : List MemPlace}
    (hv : Value.okWide Tryz.prog W r b0 67 v) (h : DataW.Trod enc Tryz.prog W base spare held 67 v d p) : ∃ x y : Int, v = vecV x y ∧ (I64 x ∧ I64 y) := by
  obtain ⟨cs, rfl, hsz⟩ := okWide_arr6 Tryz.underlying67 hv
  have c2 : Tryz.prog.cellsOf 67 = 2 := by kernel_rfl
  have k1 : Tryz.prog.cellsOf 2 = 1 := by kernel_rfl
  obtain ⟨c0, c1, rfl⟩ := arr2d (hsz.trans c2)
  obtain ⟨fuel, hf⟩ := h
  obtain ⟨xs, m, _, _, _, hl, hel⟩ := DataW.trod_array Tryz.underlying67 hf
  match xs, hl with
  | [y0, y1], _ =>
    have h0 := hel 0 (by omega)
    have h1 := hel 1 (by omega)
    obtain ⟨x, e0, _, w0⟩ := DataW.trod_int (cs := [c0]) Tryz.underlying2 (by simpa [Value.cells, k1] using h0)
    obtain ⟨y, e1, _, w1⟩ := DataW.trod_int (cs := [c1]) Tryz.underlying2 (by simpa [Value.cells, k1] using h1)
    injection e0 with e0
    injection e1 with e1
    subst e0 e1
    exact ⟨x, y, rfl, i64_wf6 w0, i64_wf6 w1⟩
theorem open_place {H : Type} {enc : TypeId × Value → H} {W : World} {b0 base : Nat} {spare : Nat → Bool} {held : Bool} {r : Reach} {v : Value} {d : DataW H} {p : List MemPlace}
    (hv : Value.okWide Tryz.prog W r b0 66 v) (h : DataW.Trod enc Tryz.prog W base spare held 66 v d p) : ∃ a b c d e f : Int, v = placeV a b c d e f ∧ PlaceOK a b c d e f := by
  obtain ⟨cs, rfl, hsz⟩ := okWide_struct Tryz.underlying66 hv
  have c6 : Tryz.prog.cellsOf 66 = 6 := by kernel_rfl
  have k1 : Tryz.prog.cellsOf 44 = 1 := by kernel_rfl
  have k2 : Tryz.prog.cellsOf 45 = 1 := by kernel_rfl
  have k3 : Tryz.prog.cellsOf 5 = 1 := by kernel_rfl
  obtain ⟨c0, c1, c2, c3, c4, c5, rfl⟩ := arr6 (hsz.trans c6)
  obtain ⟨fuel, hf⟩ := h
  obtain ⟨xs, n, _, _, _, hlen, hfl⟩ := DataW.trod_struct Tryz.underlying66 hf
  match xs, hlen with
  | [y0, y1, y2, y3, y4, y5], _ =>
    have h0 := hfl 0 _ rfl
    have h1 := hfl 1 _ rfl
    have h2 := hfl 2 _ rfl
    have h3 := hfl 3 _ rfl
    have h4 := hfl 4 _ rfl
    have h5 := hfl 5 _ rfl
    obtain ⟨a, e0, _, w0⟩ := DataW.trod_int (cs := [c0]) Tryz.underlying44 (by simpa [Value.cells, k1] using h0)
    obtain ⟨b, e1, _, w1⟩ := DataW.trod_int (cs := [c1]) Tryz.underlying44 (by simpa [Value.cells, k1] using h1)
    obtain ⟨c, e2, _, w2⟩ := DataW.trod_int (cs := [c2]) Tryz.underlying44 (by simpa [Value.cells, k1] using h2)
    obtain ⟨d', e3, _, w3⟩ := DataW.trod_int (cs := [c3]) Tryz.underlying44 (by simpa [Value.cells, k1] using h3)
    obtain ⟨e, e4, _, w4⟩ := DataW.trod_int (cs := [c4]) Tryz.underlying45 (by simpa [Value.cells, k2] using h4)
    obtain ⟨f, e5, _, w5⟩ := DataW.trod_int (cs := [c5]) Tryz.underlying5 (by simpa [Value.cells, k3] using h5)
    injection e0 with e0
    injection e1 with e1
    injection e2 with e2
    injection e3 with e3
    injection e4 with e4
    injection e5 with e5
    subst e0 e1 e2 e3 e4 e5
    exact ⟨a, b, c, d', e, f, rfl, i16_wf w0, i16_wf w1, i16_wf w2, i16_wf w3, u16_wf6 w4, u8_wf6 w5⟩
end Go.Proofs.YtllijnecmekfeaaGreatDoor
end
