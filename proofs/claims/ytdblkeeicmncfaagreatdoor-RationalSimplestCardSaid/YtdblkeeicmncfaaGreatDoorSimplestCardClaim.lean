/-
  Texts of this seat, joined.
-/
import Derived.Test.YtdblkeeicmncfaaGreatDoorJ7
import Derived.Test.YtdblkeeicmncfaaGreatDoorTie
import Derived.Test.YtdblkeeicmncfaaGreatDoorCards
import Derived.SevenTiedAt
/- ---- Rfa ---- -/
section
/-
  Sign and Cmp of the reference; small on rows of one and of three; what the laws of one and of three numbers share.
-/
set_option maxRecDepth 100000
namespace Go.Proofs.YtdblkeeicmncfaaGreatDoor
open Go.RowKit

theorem rsign_rat_calls (w : World) (v1 : Value) (n d : Int) (h1 : IsPair w v1 n d) (l1 : Lim 100000 n) (l1' : Lim 100000 d) : Calls Tryz.prog 21 #[v1] w fun e w' => e = .returned (.int .i64 (cmpZ n 0)) ∧ Ext w w' := by
  refine (fun_sound (E := zE [n, d]) (args := [argQ 0]) (T := .leaf [(false, [.n .i64 (.a2 3 (.var 0) (.lit 0))])])
    mixed (cfg_ok (.cons (kIn_ok (f := 40) (g := fun x => .a2 3 x (.lit 0)) (fun x => cmpZ x 0) (fun _ => rfl) (fun w v z h => rsign_calls w v z h) ⟨_, Tryz.func40, by decide +kernel, by kernel_rfl⟩) .nil))
    no_asm Tryz.func21 (by decide +kernel) (by kernel_rfl) (by decide +kernel) rfl w [v1] rfl ?_).mono ?_
  · intro i x hx
    match i, hx with
    | 0, hx => injection hx with hx; subst hx; exact ⟨fun _ => 0, v1, rfl, argP_holds h1 l1 l1' rfl rfl⟩
  · rintro e w' ⟨β, v, rfl, hh, ex⟩
    have := one_num.1 hh
    subst this
    exact ⟨rfl, ex⟩
theorem kSgF_ok {E : Env} {f : Nat} (hc : ∀ (w : World) (v1 : Value) (n d : Int), IsPair w v1 n d → Lim 100000 n → Lim 100000 d → Calls Tryz.prog f #[v1] w fun e w' => e = .returned (.int .i64 (cmpZ n 0)) ∧ Ext w w')
    (hb : ∃ fn, Tryz.prog.funcs[f]? = some fn ∧ fn.name ≠ "runtime.NumGoroutine" ∧ fn.body.isNone = false) : ConOK Tryz.prog E f kSg := by
  refine ⟨?_, ?_, hb⟩
  · intro args As r h hG β w vs hv hlen
    unfold kSg at h
    split at h
    · split at h
      · rename_i hlo
        injection h with h
        subst h
        simp only [Bool.and_eq_true, decide_eq_true_iff] at hlo
        obtain ⟨v, rfl, h1⟩ := args1 hv hlen
        obtain ⟨p1, a1, a2⟩ := one_pair.1 h1
        refine (hc w v _ _ p1 (a1.mono hlo.1) (a2.mono hlo.2)).mono ?_
        rintro e w' ⟨rfl, ex⟩
        exact ⟨_, rfl, one_num.2 rfl, ex⟩
      · cases h
    · cases h
  · intro args As r h x off
    unfold kSg at h
    split at h
    · split at h
      · injection h with h; subst h; intro e; cases e
      · cases h
    · cases h
theorem rcmp_rat_calls (w : World) (v1 v2 : Value) (a b : Rat) (h1 : IsRat w v1 a) (h2 : IsRat w v2 b) (l1 : LimQ 100000 a) (l2 : LimQ 100000 b) :
    Calls Tryz.prog 7 #[v1, v2] w fun e w' => e = .returned (.int .i64 (cmpZ (a.num * (b.den : Int)) (b.num * (a.den : Int)))) ∧ Ext w w' := by
  refine (walkQ2 (T := .leaf [(false, [.n .i64 (.a2 3 (.a2 2 (.var 0) (.var 3)) (.a2 2 (.var 2) (.var 1)))])])
    (tab := (35, kIIn (.a2 3)) :: tabR3 true)
    (.cons (kIIn_ok cmpZ (fun _ _ => rfl) (fun w v1 v2 z1 z2 h1 h2 => rcmp_calls w v1 v2 z1 z2 h1 h2) ⟨_, Tryz.func35, by decide +kernel, by kernel_rfl⟩) (tabR3_ok (q := true) (fun _ => qE_ok _)))
    Tryz.func7 (by kernel_rfl) (by decide +kernel) (by decide +kernel) h1 h2 l1 l2).mono ?_
  rintro e w' ⟨β, v, rfl, hh, ex⟩
  have := one_num.1 hh
  subst this
  exact ⟨rfl, ex⟩
def tabT : List (Nat × Con) :=
  (21, kSg)  ::
  (31, kSg)  ::
  (7, kCmpQ)  ::
  (30, kCmpQ)  ::
  tabQ
theorem tabT_ok {E : Env} (hE : QEnv E) : TabOK Tryz.prog E tabT := by
  refine .cons (kSgF_ok (fun w v1 n d h l m => rsign_rat_calls w v1 n d h l m) ⟨_, Tryz.func21, by decide +kernel, by kernel_rfl⟩) ?_ 
  refine .cons kSg_ok ?_ 
  refine .cons (kCmpQ_ok hE (fun w v1 v2 a b h1 h2 l1 l2 => rcmp_rat_calls w v1 v2 a b h1 h2 l1 l2) ⟨_, Tryz.func7, by decide +kernel, by kernel_rfl⟩) ?_
  refine .cons (kCmpQ_ok hE (fun w v1 v2 a b h1 h2 l1 l2 => cmp_rat_calls w v1 v2 a b h1 h2 l1 l2) ⟨_, Tryz.func30, by decide +kernel, by kernel_rfl⟩) ?_
  exact tabQ_ok hE

def smOf (a : Rat) : Prop := smQ (decide (a.num < 0)) (limbs a.num.natAbs) (decide ((a.den : Int) < 0)) (limbs (a.den : Int).natAbs) = true
theorem smT_ok1 {a : Rat} (ha : smOf a) : SmOK (qE [a]) (smT 1) := by
  intro cs off c h w bl hv
  unfold smT at h
  split at h
  · rename_i hbb
    injection h with h
    subst h
    simp only [Bool.and_eq_true, beq_iff_eq] at hbb
    obtain ⟨h1, h2, rfl⟩ := hbb
    have hcs := isVars_spec h1
    rw [h2] at hcs
    have hcs' : cs = [.int (.var 0) 6, .int (.var 1) 6] := hcs
    subst hcs'
    have hv' : VarAt (bE smQ (rawOf a)) w bl (rowC 1) := by
      obtain ⟨vs, hc, hcell⟩ := hv
      refine ⟨vs, ?_, hcell⟩
      obtain ⟨l1, r1, rfl, c1, l2, r2, rfl, c2, hn⟩ := hc
      exact ⟨l1, _, rfl, int_chunk c1 rfl, l2, r2, rfl, int_chunk c2 rfl, hn⟩
    refine (small_row1 (bE_sm _) w bl hv').mono ?_
    rintro e w' ⟨c, rfl, hc, ex⟩
    have : c = true := hc.2 (fun i hi => by
      match i, hi with
      | 0, _ => exact ha)
    subst this
    exact ⟨rfl, ex⟩
  · cases h
theorem smT_ok3 {a b d : Rat} (ha : smOf a) (hb : smOf b) (hd : smOf d) : SmOK (qE [a, b, d]) (smT 3) := by
  intro cs off c h w bl hv
  unfold smT at h
  split at h
  · rename_i hbb
    injection h with h
    subst h
    simp only [Bool.and_eq_true, beq_iff_eq] at hbb
    obtain ⟨h1, h2, rfl⟩ := hbb
    have hcs := isVars_spec h1
    rw [h2] at hcs
    have hcs' : cs = [.int (.var 0) 6, .int (.var 1) 6, .int (.var 2) 6, .int (.var 3) 6, .int (.var 4) 6, .int (.var 5) 6] := hcs
    subst hcs'
    have hv' : VarAt (bE smQ (rawOf a ++ rawOf b ++ rawOf d)) w bl (rowC 3) := by
      obtain ⟨vs, hc, hcell⟩ := hv
      refine ⟨vs, ?_, hcell⟩
      obtain ⟨l1, r1, rfl, c1, l2, r2, rfl, c2, l3, r3, rfl, c3, l4, r4, rfl, c4, l5, r5, rfl, c5, l6, r6, rfl, c6, hn⟩ := hc
      exact ⟨l1, _, rfl, int_chunk c1 rfl, l2, _, rfl, int_chunk c2 rfl, l3, _, rfl, int_chunk c3 rfl, l4, _, rfl, int_chunk c4 rfl, l5, _, rfl, int_chunk c5 rfl, l6, r6, rfl, int_chunk c6 rfl, hn⟩
    refine (small_row3 (bE_sm _) w bl hv').mono ?_
    rintro e w' ⟨c, rfl, hc, ex⟩
    have : c = true := hc.2 (fun i hi => by
      match i, hi with
      | 0, _ => exact ha
      | 1, _ => exact hb
      | 2, _ => exact hd)
    subst this
    exact ⟨rfl, ex⟩
  · cases h
theorem smF_ok1 {l : List (Bool × List Nat)} (hn : ¬ ∀ i, i < 1 → (bE smQ l).b i = true) : SmOK (bE smQ l) (smF 1) := by
  intro cs off c h w b hv
  unfold smF at h
  split at h
  · rename_i hb
    injection h with h
    subst h
    simp only [Bool.and_eq_true, beq_iff_eq] at hb
    obtain ⟨h1, h2, rfl⟩ := hb
    have hcs := isRaw_spec h1
    rw [h2] at hcs
    have hcs' : cs = rowC 1 := hcs
    subst hcs'
    refine (small_row1 (bE_sm l) w b hv).mono ?_
    rintro e w' ⟨c, rfl, hc, ex⟩
    have : c = false := by
      cases c with
      | false => rfl
      | true => exact absurd (hc.1 rfl) hn
    subst this
    exact ⟨rfl, ex⟩
  · cases h
theorem smF_ok3 {l : List (Bool × List Nat)} (hn : ¬ ∀ i, i < 3 → (bE smQ l).b i = true) : SmOK (bE smQ l) (smF 3) := by
  intro cs off c h w b hv
  unfold smF at h
  split at h
  · rename_i hb
    injection h with h
    subst h
    simp only [Bool.and_eq_true, beq_iff_eq] at hb
    obtain ⟨h1, h2, rfl⟩ := hb
    have hcs := isRaw_spec h1
    rw [h2] at hcs
    have hcs' : cs = rowC 3 := hcs
    subst hcs'
    refine (small_row3 (bE_sm l) w b hv).mono ?_
    rintro e w' ⟨c, rfl, hc, ex⟩
    have : c = false := by
      cases c with
      | false => rfl
      | true => exact absurd (hc.1 rfl) hn
    subst this
    exact ⟨rfl, ex⟩
  · cases h
/-- A law of one number, of two, of three numbers: small numbers, or others. -/
def IsTrue (w : World) (e : Ending) (w' : World) : Prop := e = .returned (.bool true) ∧ Ext w w'
theorem law1_any {f : Nat} {fn : Func} {W : World → Prop} (hf : Tryz.prog.funcs[f]? = some fn) (h4 : fn.results.toList.length ≤ 4) (hR : funE (cfgL W [] (smF 1)) fn [] [argRaw 0 1] = some (.leaf [(false, [.b (.lit true)])])) (hn : 1 ≤ fn.ntmps)
    (haw : Awake W) (w : World) (hW : ∀ w', Ext w w' → W w') (v1 : Value) (s1 s2 : Bool) (xs1 xs2 : List Nat) (h1 : RawQ w v1 s1 xs1 s2 xs2) (hv : ∀ a : Rat, IsRat w v1 a → LimQ 6 a → Calls Tryz.prog f #[v1] w (IsTrue w)) :
    Calls Tryz.prog f #[v1] w (IsTrue w) := by
  by_cases hc : smQ s1 xs1 s2 xs2 = true
  · obtain ⟨a, i1, l1⟩ := smQ_rat h1 hc
    exact hv a i1 l1
  · refine (fun_sound (C := cfgL W [] (smF 1)) (E := bE smQ [(s1, xs1), (s2, xs2)]) (args := [argRaw 0 1]) (T := .leaf [(false, [.b (.lit true)])])
      mixed (cfgL_ok .nil haw (smF_ok1 (fun hall => hc (hall 0 (by omega))))) no_asm hf h4 hR hn rfl w [v1] rfl ?_ hW).mono ?_
    · intro i x hx
      match i, hx with
      | 0, hx => injection hx with hx; subst hx; exact ⟨fun _ => 0, v1, rfl, argRaw_holds h1 rfl rfl⟩
    · rintro e w' ⟨β, u, rfl, hh, ex⟩
      have := one_bool.1 hh
      subst this
      exact ⟨rfl, ex⟩
theorem law2_any {f : Nat} {fn : Func} {W : World → Prop} (hf : Tryz.prog.funcs[f]? = some fn) (h4 : fn.results.toList.length ≤ 4) (hR : funE (cfgL W [] (smF 2)) fn [] [argRaw 0 1, argRaw 2 3] = some (.leaf [(false, [.b (.lit true)])])) (hn : 2 ≤ fn.ntmps)
    (haw : Awake W) (w : World) (hW : ∀ w', Ext w w' → W w') (v1 v2 : Value) (s1 s2 t1 t2 : Bool) (xs1 xs2 ys1 ys2 : List Nat) (h1 : RawQ w v1 s1 xs1 s2 xs2) (h2 : RawQ w v2 t1 ys1 t2 ys2)
    (hv : ∀ a b : Rat, IsRat w v1 a → IsRat w v2 b → LimQ 6 a → LimQ 6 b → Calls Tryz.prog f #[v1, v2] w (IsTrue w)) :
    Calls Tryz.prog f #[v1, v2] w (IsTrue w) := by
  by_cases hc : smQ s1 xs1 s2 xs2 = true ∧ smQ t1 ys1 t2 ys2 = true
  · obtain ⟨a, i1, l1⟩ := smQ_rat h1 hc.1
    obtain ⟨b, i2, l2⟩ := smQ_rat h2 hc.2
    exact hv a b i1 i2 l1 l2
  · refine (fun_sound (C := cfgL W [] (smF 2)) (E := bE smQ [(s1, xs1), (s2, xs2), (t1, ys1), (t2, ys2)]) (args := [argRaw 0 1, argRaw 2 3]) (T := .leaf [(false, [.b (.lit true)])])
      mixed (cfgL_ok .nil haw (smF_ok2 (fun hall => hc ⟨hall 0 (by omega), hall 1 (by omega)⟩))) no_asm hf h4 hR hn rfl w [v1, v2] rfl ?_ hW).mono ?_
    · intro i x hx
      match i, hx with
      | 0, hx => injection hx with hx; subst hx; exact ⟨fun _ => 0, v1, rfl, argRaw_holds h1 rfl rfl⟩
      | 1, hx => injection hx with hx; subst hx; exact ⟨fun _ => 0, v2, rfl, argRaw_holds h2 rfl rfl⟩
    · rintro e w' ⟨β, u, rfl, hh, ex⟩
      have := one_bool.1 hh
      subst this
      exact ⟨rfl, ex⟩
theorem law3_any {f : Nat} {fn : Func} {W : World → Prop} (hf : Tryz.prog.funcs[f]? = some fn) (h4 : fn.results.toList.length ≤ 4) (hR : funE (cfgL W [] (smF 3)) fn [] [argRaw 0 1, argRaw 2 3, argRaw 4 5] = some (.leaf [(false, [.b (.lit true)])])) (hn : 3 ≤ fn.ntmps)
    (haw : Awake W) (w : World) (hW : ∀ w', Ext w w' → W w') (v1 v2 v3 : Value) (s1 s2 t1 t2 u1 u2 : Bool) (xs1 xs2 ys1 ys2 zs1 zs2 : List Nat) (h1 : RawQ w v1 s1 xs1 s2 xs2) (h2 : RawQ w v2 t1 ys1 t2 ys2) (h3 : RawQ w v3 u1 zs1 u2 zs2)
    (hv : ∀ a b c : Rat, IsRat w v1 a → IsRat w v2 b → IsRat w v3 c → LimQ 6 a → LimQ 6 b → LimQ 6 c → Calls Tryz.prog f #[v1, v2, v3] w (IsTrue w)) :
    Calls Tryz.prog f #[v1, v2, v3] w (IsTrue w) := by
  by_cases hc : smQ s1 xs1 s2 xs2 = true ∧ smQ t1 ys1 t2 ys2 = true ∧ smQ u1 zs1 u2 zs2 = true
  · obtain ⟨a, i1, l1⟩ := smQ_rat h1 hc.1
    obtain ⟨b, i2, l2⟩ := smQ_rat h2 hc.2.1
    obtain ⟨c, i3, l3⟩ := smQ_rat h3 hc.2.2
    exact hv a b c i1 i2 i3 l1 l2 l3
  · refine (fun_sound (C := cfgL W [] (smF 3)) (E := bE smQ [(s1, xs1), (s2, xs2), (t1, ys1), (t2, ys2), (u1, zs1), (u2, zs2)]) (args := [argRaw 0 1, argRaw 2 3, argRaw 4 5]) (T := .leaf [(false, [.b (.lit true)])])
      mixed (cfgL_ok .nil haw (smF_ok3 (fun hall => hc ⟨hall 0 (by omega), hall 1 (by omega), hall 2 (by omega)⟩))) no_asm hf h4 hR hn rfl w [v1, v2, v3] rfl ?_ hW).mono ?_
    · intro i x hx
      match i, hx with
      | 0, hx => injection hx with hx; subst hx; exact ⟨fun _ => 0, v1, rfl, argRaw_holds h1 rfl rfl⟩
      | 1, hx => injection hx with hx; subst hx; exact ⟨fun _ => 0, v2, rfl, argRaw_holds h2 rfl rfl⟩
      | 2, hx => injection hx with hx; subst hx; exact ⟨fun _ => 0, v3, rfl, argRaw_holds h3 rfl rfl⟩
    · rintro e w' ⟨β, u, rfl, hh, ex⟩
      have := one_bool.1 hh
      subst this
      exact ⟨rfl, ex⟩
/-- Terms for the parts of rational numbers, and what they mean. -/
abbrev IT2 := IT × IT
def qv (i : Nat) : IT2 := (.var (2 * i), .var (2 * i + 1))
def qop (f : Nat) (p q : IT2) : IT2 := (.a4 (2 * f) p.1 p.2 q.1 q.2, .a4 (2 * f + 1) p.1 p.2 q.1 q.2)
def qsame (p q : IT2) : BT := .and (.eq p.1 q.1) (.eq p.2 q.2)
def RepQ (E : Env) (p : IT2) (q : Rat) : Prop := p.1.den E = q.num ∧ p.2.den E = (q.den : Int)
theorem rep_op {E : Env} {f : Nat} {p q : IT2} {a b : Rat} (hf : f ≠ 4) (hp : RepQ E p a) (hq : RepQ E q b) : RepQ E (qop f p q) (ratF f a b) := by
  constructor
  · show fn4 (2 * f) (p.1.den E) (p.2.den E) (q.1.den E) (q.2.den E) = _
    rw [hp.1, hp.2, hq.1, hq.2, fn4_num (by omega), show 2 * f / 2 = f by omega]
  · show fn4 (2 * f + 1) (p.1.den E) (p.2.den E) (q.1.den E) (q.2.den E) = _
    rw [hp.1, hp.2, hq.1, hq.2, fn4_den (by omega) (by omega), show (2 * f + 1) / 2 = f by omega]
theorem rep_div {E : Env} {p q : IT2} {a b : Rat} (hb : b ≠ 0) (hp : RepQ E p a) (hq : RepQ E q b) : RepQ E (qop 4 p q) (a / b) := by
  constructor
  · show fn4 8 (p.1.den E) (p.2.den E) (q.1.den E) (q.2.den E) = _
    rw [hp.1, hp.2, hq.1, hq.2, fn4_num rfl]; rfl
  · show fn4 9 (p.1.den E) (p.2.den E) (q.1.den E) (q.2.den E) = _
    rw [hp.1, hp.2, hq.1, hq.2]
    unfold fn4
    rw [if_neg (by decide), divInt_parts, divInt_parts, if_neg (fun e => hb e.2)]
    rfl
theorem rep_same {E : Env} {p q : IT2} {a b : Rat} (hp : RepQ E p a) (hq : RepQ E q b) (h : a = b) : (qsame p q).den E = true := by
  subst h
  show (p.1.den E == q.1.den E && p.2.den E == q.2.den E) = true
  rw [hp.1, hp.2, hq.1, hq.2]
  simp
theorem rep_v {l : List Rat} {i : Nat} : RepQ (qE l) (qv i) (l.getD i 0) := by
  constructor
  · show (if 2 * i % 2 = 0 then _ else _) = _
    rw [if_pos (by omega), show 2 * i / 2 = i by omega]
  · show (if (2 * i + 1) % 2 = 0 then _ else _) = _
    rw [if_neg (by omega), show (2 * i + 1) / 2 = i by omega]
end Go.Proofs.YtdblkeeicmncfaaGreatDoor
end

/- ---- Rfb ---- -/
section
/-
  RationalField: sums and products are associative, commutative and distributive; differences and quotients undo them.
-/
set_option maxRecDepth 100000
namespace Go.Proofs.YtdblkeeicmncfaaGreatDoor
open Go.RowKit

def fieldOut : BT := qsame (qop 4 (qop 2 (qv 0) (qv 2)) (qv 2)) (qv 0)
def leafB (b : BT) : Tree := .leaf [(false, [.b b])]
def fieldT : Tree :=
  .ite (qsame (qop 0 (qop 0 (qv 0) (qv 1)) (qv 2)) (qop 0 (qv 1) (qop 0 (qv 2) (qv 0))))
    (.ite (qsame (qop 2 (qop 2 (qv 0) (qv 1)) (qv 2)) (qop 2 (qv 1) (qop 2 (qv 2) (qv 0))))
      (.ite (qsame (qop 2 (qv 0) (qop 0 (qv 1) (qv 2))) (qop 0 (qop 2 (qv 0) (qv 1)) (qop 2 (qv 0) (qv 2))))
        (.ite (qsame (qop 1 (qop 0 (qv 0) (qv 1)) (qv 1)) (qv 0))
          (.ite (.eq (.a2 3 (.var 4) (.lit 0)) (.lit 0))
            (.ite (.eq (.a1 1 (.var 4)) (.lit 6)) (.ite (.eq (.a1 1 (.var 4)) (.lit 0)) (leafB fieldOut) (leafB (.lit true))) (leafB (.lit false)))
            (.ite (.eq (.a1 1 (.var 4)) (.lit 6)) (leafB (.lit false)) (.ite (.eq (.a1 1 (.var 4)) (.lit 0)) (leafB fieldOut) (leafB (.lit true)))))
          (leafB (.lit false))) (leafB (.lit false))) (leafB (.lit false))) (leafB (.lit false))
end Go.Proofs.YtdblkeeicmncfaaGreatDoor
end

/- ---- Rfc ---- -/
section
/-
  RationalOrder and RationalFloor.
-/
set_option maxRecDepth 100000
namespace Go.Proofs.YtdblkeeicmncfaaGreatDoor
open Go.RowKit

def sgQ (q : Rat) : Int := cmpZ q.num 0
theorem num_pos_iff (q : Rat) : 0 < q.num ↔ 0 < q := by
  have h1 : 0 ≤ q.num ↔ 0 ≤ q := Rat.num_nonneg
  have h2 : q.num = 0 ↔ q = 0 := Rat.num_eq_zero
  constructor
  · intro h
    have a := h1.1 (by omega)
    have b : q ≠ 0 := fun e => by have := h2.2 e; omega
    grind
  · intro h
    have a := h1.2 (by grind)
    have b : q.num ≠ 0 := fun e => by have := h2.1 e; grind
    omega
theorem sgQ_cases (q : Rat) : (q < 0 ∧ sgQ q = -1) ∨ (q = 0 ∧ sgQ q = 0) ∨ (0 < q ∧ sgQ q = 1) := by
  have h1 := num_pos_iff q
  have h2 : q.num = 0 ↔ q = 0 := Rat.num_eq_zero
  unfold sgQ
  rcases cmpZ_cases q.num 0 with ⟨h, e⟩ | ⟨h, e⟩ | ⟨h, e⟩
  · refine .inl ⟨?_, e⟩
    have a : ¬ 0 < q := fun k => by have := h1.2 k; omega
    have b : q ≠ 0 := fun k => by have := h2.2 k; omega
    grind
  · exact .inr (.inl ⟨h2.1 h, e⟩)
  · exact .inr (.inr ⟨h1.1 h, e⟩)
theorem sgQ_pos {q : Rat} (h : 0 < q) : sgQ q = 1 := by rcases sgQ_cases q with ⟨k, e⟩ | ⟨k, e⟩ | ⟨k, e⟩ <;> grind
theorem sgQ_neg' {q : Rat} (h : q < 0) : sgQ q = -1 := by rcases sgQ_cases q with ⟨k, e⟩ | ⟨k, e⟩ | ⟨k, e⟩ <;> grind
theorem sgQ_zero : sgQ 0 = 0 := rfl
theorem sgQ_opp (q : Rat) : sgQ (-q) = - sgQ q := by
  rcases sgQ_cases q with ⟨k, e⟩ | ⟨k, e⟩ | ⟨k, e⟩
  · rw [e, sgQ_pos (by grind)]; rfl
  · rw [e, k]; rfl
  · rw [e, sgQ_neg' (by grind)]
theorem sgQ_mul (a b : Rat) : sgQ (a * b) = sgQ a * sgQ b := by
  rcases sgQ_cases a with ⟨k, e⟩ | ⟨k, e⟩ | ⟨k, e⟩ <;> rcases sgQ_cases b with ⟨j, f⟩ | ⟨j, f⟩ | ⟨j, f⟩ <;> rw [e, f]
  · have := Rat.mul_pos (a := -a) (b := -b) (by grind) (by grind)
    rw [sgQ_pos (by grind)]; rfl
  · rw [j, Rat.mul_zero]; rfl
  · have := Rat.mul_pos (a := -a) (b := b) (by grind) (by grind)
    rw [sgQ_neg' (by grind)]; rfl
  · rw [k, Rat.zero_mul]; rfl
  · rw [k, Rat.zero_mul]; rfl
  · rw [k, Rat.zero_mul]; rfl
  · have := Rat.mul_pos (a := a) (b := -b) (by grind) (by grind)
    rw [sgQ_neg' (by grind)]; rfl
  · rw [j, Rat.mul_zero]; rfl
  · rw [sgQ_pos (Rat.mul_pos k j)]; rfl
theorem cmpQ_sub (a b : Rat) : cmpZ (a.num * (b.den : Int)) (b.num * (a.den : Int)) = sgQ (a - b) := by
  have h1 := Rat.lt_iff a b
  have h2 := Rat.lt_iff b a
  rcases cmpZ_cases (a.num * (b.den : Int)) (b.num * (a.den : Int)) with ⟨h, e⟩ | ⟨h, e⟩ | ⟨h, e⟩
  · have := h1.2 h
    rw [e, sgQ_neg' (by grind)]
  · have k1 : ¬ a < b := fun k => by have := h1.1 k; omega
    have k2 : ¬ b < a := fun k => by have := h2.1 k; omega
    have : a - b = 0 := by grind
    rw [e, this]; rfl
  · have := h2.2 h
    rw [e, sgQ_pos (by grind)]
def qcmp (p q : IT2) : IT := .a2 3 (.a2 2 p.1 q.2) (.a2 2 q.1 p.2)
theorem rep_cmp {E : Env} {p q : IT2} {a b : Rat} (hp : RepQ E p a) (hq : RepQ E q b) : (qcmp p q).den E = sgQ (a - b) := by
  show cmpZ (p.1.den E * q.2.den E) (q.1.den E * p.2.den E) = _
  rw [hp.1, hp.2, hq.1, hq.2, cmpQ_sub]
def ordT : Tree :=
  .ite (.eq (qcmp (qv 1) (qv 0)) (.a1 0 (qcmp (qv 0) (qv 1))))
    (.ite (.eq (qcmp (qop 0 (qv 0) (qv 2)) (qop 0 (qv 1) (qv 2))) (qcmp (qv 0) (qv 1)))
      (leafB (.eq (qcmp (qop 2 (qv 0) (qv 2)) (qop 2 (qv 1) (qv 2))) (.a2 2 (qcmp (qv 0) (qv 1)) (.a2 3 (.var 4) (.lit 0)))))
      (leafB (.lit false))) (leafB (.lit false))
theorem eq_den {E : Env} {s t : IT} {x y : Int} (h : s.den E = x) (k : t.den E = y) (e : x = y) : (BT.eq s t).den E = true := by
  show (s.den E == t.den E) = true
  rw [h, k, e]; simp
/-- Floor. -/
theorem rvalidI_calls (w : World) (v : Value) (z : Int) (h : IsInt w v z) : Calls Tryz.prog 39 #[v] w fun e w' => e = .returned (.bool true) ∧ Ext w w' := by
  obtain ⟨k1, k2⟩ := int_raw h
  have := rvalid_calls w v _ _ k1
  rw [k2] at this
  exact this
theorem rfromInt_calls (w : World) (v : Value) (z : Int) (h : IsInt w v z) (l : Lim 400000 z) : Calls Tryz.prog 14 #[v] w (Ret (fun v w' => IsPair w' v z 1) w) := by
  refine (walkZ1 (T := .leaf [(true, [.int (.var 0) 400000, .int (.lit 1) 3])]) (tabR3_ok (q := false) (fun h => by cases h)) Tryz.func14 (by kernel_rfl) (by decide +kernel) (by decide +kernel) h l).mono ?_
  rintro e w' ⟨β, v, rfl, hh, ex⟩
  exact ⟨v, rfl, (one_pair.1 hh).1, ex⟩
def kFI : Con
  | [.val true [.int x l]], _ => if lo l then some (.val true [.int x l, .int (.lit 1) 3]) else none
  | _, _ => none
theorem kFI_ok {E : Env} : ConOK Tryz.prog E 14 kFI := by
  refine ⟨?_, ?_, ⟨_, Tryz.func14, by decide +kernel, by kernel_rfl⟩⟩
  · intro args As r h hG β w vs hv hlen
    unfold kFI at h
    split at h
    · split at h
      · rename_i hlo
        injection h with h
        subst h
        simp only [lo, decide_eq_true_iff] at hlo
        obtain ⟨v, rfl, h1⟩ := args1 hv hlen
        obtain ⟨i1, l1⟩ := one_int.1 h1
        refine (rfromInt_calls w v _ i1 (l1.mono hlo)).mono ?_
        rintro e w' ⟨u, rfl, hp, ex⟩
        exact ⟨u, rfl, one_pair.2 ⟨hp, l1, lim3 (z := 1) (by decide) (by decide)⟩, ex⟩
      · cases h
    · cases h
  · intro args As r h x off
    unfold kFI at h
    split at h
    · split at h
      · injection h with h; subst h; intro e; cases e
      · cases h
    · cases h
def tabFl : List (Nat × Con) := (27, kFlQ) :: (14, kFI) :: (39, kIb fun _ => .lit true) :: tabT
theorem tabFl_ok {E : Env} (hE : QEnv E) : TabOK Tryz.prog E tabFl :=
  .cons (kFlQ_ok hE) (.cons kFI_ok (.cons (kIb_ok (fun _ => true) (fun _ => rfl) (fun w v z h => rvalidI_calls w v z h) ⟨_, Tryz.func39, by decide +kernel, by kernel_rfl⟩) (tabT_ok hE)))
def flQ : IT2 := (.a2 4 (.var 0) (.var 1), .lit 1)
def flT : Tree :=
  .ite (.le (.lit 0) (.a2 3 (qop 1 (qv 0) flQ).1 (.lit 0))) (leafB (.lt (qcmp (qop 1 (qv 0) flQ) (.lit 1, .lit 1)) (.lit 0))) (leafB (.lit false))
end Go.Proofs.YtdblkeeicmncfaaGreatDoor
end

/- ---- Rsq ---- -/
section
/-
  Sqrt of the reference.
-/
set_option maxRecDepth 100000
namespace Go.Proofs.YtdblkeeicmncfaaGreatDoor
open Go.RowKit

/-- What an append of limbs to a slice of the call's own leaves. -/
theorem run_append_own_limbs (w : World) (B : Nat) (hB : B ≤ w.heap.size) (ty : TypeId) (v : Value) (zs : List Nat) (lz : zs.length ≤ 1099511627776) (hz : 0 < zs.length) (hown : w.ownsRow B 71 1 v zs.length (zs.map fun x => Value.int .u32 ((x : Nat) : Int))) (b : Nat) (xs : List Nat) (c : Nat) (lx : xs.length ≤ 1099511627776)
    (h : ∀ i, i < xs.length → w.cell? ⟨b, i, none⟩ = some (.int .u32 ((xs.getD i 0 : Nat) : Int))) :
    ∃ ao' cap w1, (Builtin.append_ #[22, 22] ty #[v, .slice (some ⟨b, 0, none⟩) xs.length c]).run Tryz.prog w = .ok (.slice ao' (zs.length + xs.length) cap) w1 ∧
      zs.length + xs.length ≤ cap ∧ cap ≤ 9223372036854775807 ∧ Below B w w1 ∧ Cells w1 ao' (zs ++ xs) := by
  obtain ⟨i0, hi, hz0, hz1, hz2⟩ := info_parts info_u32
  have hnews : ∀ j u, (xs.map fun x => Value.int .u32 ((x : Nat) : Int))[j]? = some u → w.cell? ((⟨b, 0, none⟩ : Addr).add j) = some u := by
    intro j u hu
    rw [List.getElem?_map] at hu
    obtain ⟨x, hx1, rfl⟩ := Option.map_eq_some_iff.1 hu
    have hj : j < xs.length := (List.getElem?_eq_some_iff.1 hx1).1
    have := h j hj
    rw [List.getD_eq_getElem?_getD, hx1] at this
    by_cases h0 : j = 0
    · subst h0; simpa [Addr.add] using this
    · simpa [Addr.add, h0] using this
  obtain ⟨v', w1, hrun, hown1, hgrow, hnil⟩ := run_append_own (P := Tryz.prog) w B 22 ty 71 i0 (.int .u32 0) 1 4 Tryz.underlying22 hi hz0 hz1 hz2 rfl (by decide) _ _ _ hown ⟨b, 0, none⟩ xs.length c (xs.map fun x => Value.int .u32 ((x : Nat) : Int)) (by simp) hnews
    (by intro u hu; obtain ⟨x, _, rfl⟩ := List.mem_map.1 hu; rfl) (by unfold maxLen; omega) (by omega) hB
  rw [← List.map_append, ← List.length_append] at hown1
  have hE : Below B w w1 := Below.grown (Below.refl _ _) hgrow hB (fun k hk => (hown.lt k hk).1)
  rcases hown1.2 with ⟨rfl, h0⟩ | ⟨g, cap, cur, rfl, hg, _, hnc, hcm, _, _⟩
  · exfalso
    rw [List.length_append] at h0
    omega
  · rw [List.length_append] at hnc
    exact ⟨_, cap, w1, by rw [hrun, List.length_append], hnc, by unfold maxLen at hcm; omega, hE, (Blk.of_owns hown1).cells⟩

/-- The rounds. -/
def sqI : LInv where
  lk := [(1, .ptr 1 0), (2, .ptr 2 0), (4, .ptr 4 0), (5, .ptr 5 0)]
  vr := [(1, [.int (.var 0) 100000]), (2, [.int (.lit 0) 0]), (4, [.int (.var 1) 100001]), (5, [.int (.lit 2) 3])]
  vs := [1]
  G := []
  lm := [(1, 100001)]
def sqNext : IT := .a2 4 (.a2 0 (.var 1) (.a2 4 (.var 0) (.var 1))) (.lit 2)
def sqLeaf : List (Bool × List Chunk) := [(true, [.int (.var 1) 100001]), (false, [.n .i64 (.lit 0)])]
def sqTree : LTree := .ite (.le (.lit 0) (.a2 3 sqNext (.var 1))) (.leaf sqLeaf) (.again 0 [sqNext])
def tabRsq : List (Nat × Con) := [(47, kDM), (15, kII (.a2 0) (fun l m => max l m + 1)), (35, kIIn (.a2 3))]
theorem rcmp_calls' (w : World) (v1 v2 : Value) (z1 z2 : Int) (h1 : IsInt w v1 z1) (h2 : IsInt w v2 z2) : Calls Tryz.prog 35 #[v1, v2] w fun e w' => e = .returned (.int .i64 (cmpZ z1 z2)) ∧ Ext w w' := rcmp_calls w v1 v2 z1 z2 h1 h2
theorem tabRsq_ok {E : Env} : TabOK Tryz.prog E tabRsq :=
  .cons (kDMg_ok (fun w v u a b h k l1 l2 => rdivMod_fn w v u a b h k l1 l2) ⟨_, Tryz.func47, by decide +kernel, by kernel_rfl⟩)
    (.cons (tabR1_ok.all (15, kII (.a2 0) (fun l m => max l m + 1)) (by simp [tabR1]))
      (.cons (kIIn_ok cmpZ (fun _ _ => rfl) (fun w v1 v2 z1 z2 h1 h2 => rcmp_calls w v1 v2 z1 z2 h1 h2) ⟨_, Tryz.func35, by decide +kernel, by kernel_rfl⟩) .nil))

/-- A variable that was just made. -/
theorem VarAt.new {E : Env} {w : World} {cs : List Chunk} {vs : List Value} {t : TypeId} (h : chunks E w cs vs) : VarAt E (w.alloc (.cells vs.toArray t)) w.heap.size cs := by
  have hk := Kp.of (B := w.heap.size) ((Ext.refl w).alloc (.cells vs.toArray t)) (Nat.le_refl _)
  have hh : (w.alloc (.cells vs.toArray t)).heap[w.heap.size]? = some (.cells vs.toArray t (0, 0)) := heap_alloc_new w _
  refine ⟨vs, chunks_keep hk h, fun i v hi => ⟨?_, ?_⟩⟩
  · simp only [World.cell?, hh]
    simpa using hi
  · simp only [World.frozen?, hh]
    simp
theorem chunks_int {E : Env} {w : World} {x y : Value} {t : IT} {l : Nat} {z : Int} (h : IsInt w (.agg #[x, y]) z) (hz : t.den E = z) (hl : Lim l z) : chunks E w [.int t l] [x, y] :=
  ⟨[x, y], [], rfl, ⟨x, y, rfl, by rw [hz]; exact h, by rw [hz]; exact hl⟩, rfl⟩
/-- Newton's method from above ends at the root. -/
theorem sq_run (n : Nat) (hn : 0 < n) : ∀ (x : Nat), 0 < x → n < (x + 1) * (x + 1) → Lim 100001 (x : Int) → ∃ m E', Run (fun _ => True) (noStk.set 0 (sqI, sqTree)) sqTree ((zE [(n : Int), 0]).upd [1] [(x : Int)]) m E' sqLeaf ∧ E'.i 1 = (isqN n : Int) := by
  intro x
  induction x using Nat.strongRecOn with
  | ind x ih =>
    intro hx hu hl
    have hq : dq (n : Int) (x : Int) = ((n / x : Nat) : Int) := by rw [dq_pos (by omega)]; exact (Int.natCast_ediv n x).symm
    have hy : sqNext.den ((zE [(n : Int), 0]).upd [1] [(x : Int)]) = (((x + n / x) / 2 : Nat) : Int) := by
      show dq ((x : Int) + dq (n : Int) (x : Int)) 2 = _
      rw [hq, dq_pos (by omega)]
      omega
    have hc : (IT.a2 3 sqNext (.var 1)).den ((zE [(n : Int), 0]).upd [1] [(x : Int)]) = cmpZ (((x + n / x) / 2 : Nat) : Int) (x : Int) := by
      show cmpZ (sqNext.den _) (x : Int) = _
      rw [hy]
    by_cases hge : x ≤ (x + n / x) / 2
    · refine ⟨0, _, .iteT ?_ .leaf, ?_⟩
      · show decide ((0 : Int) ≤ (IT.a2 3 sqNext (.var 1)).den _) = true
        rw [hc, decide_eq_true_iff]
        rcases cmpZ_cases (((x + n / x) / 2 : Nat) : Int) (x : Int) with ⟨h, e⟩ | ⟨h, e⟩ | ⟨h, e⟩ <;> omega
      · show (x : Int) = _
        rw [isqN_spec_eq (newton_stop hx hu hge)]
    · have hp := newton_pos hx hn
      have hnx := newton_next (n := n) hx
      obtain ⟨m, E', hR, hE⟩ := ih _ (by omega) hp hnx (hl.natAbs_le (by omega))
      refine ⟨m + 1, E', .iteF ?_ (.again (I := sqI) (T := sqTree) (by simp [Stk.set]) ⟨no_asm, trivial, ?_⟩ ?_), hE⟩
      · show decide ((0 : Int) ≤ (IT.a2 3 sqNext (.var 1)).den _) = false
        rw [hc, decide_eq_false_iff_not]
        rcases cmpZ_cases (((x + n / x) / 2 : Nat) : Int) (x : Int) with ⟨h, e⟩ | ⟨h, e⟩ | ⟨h, e⟩ <;> omega
      · intro p hp
        simp only [sqI, List.mem_cons, List.not_mem_nil, or_false] at hp
        subst hp
        show Lim 100001 (sqNext.den _)
        rw [hy]
        exact hl.natAbs_le (by omega)
      · have : Env.upd ((zE [(n : Int), 0]).upd [1] [(x : Int)]) sqI.vs ([sqNext].map (IT.den ((zE [(n : Int), 0]).upd [1] [(x : Int)]))) = (zE [(n : Int), 0]).upd [1] [(((x + n / x) / 2 : Nat) : Int)] := by
          simp only [List.map_cons, List.map_nil, hy]
          unfold Env.upd
          congr 1
          funext k
          simp only [sqI, updI]
          by_cases hk : k = 1
          · simp [hk]
          · simp [hk]
        rw [this]
        exact hR

theorem open_iq {E : Env} {β : Nat → Nat} {w : World} {v : Value} {x u : IT} {l : Nat} (hx : (AV.tup [(true, [.int x l]), (false, [.n .i64 u])]).holds E β w v) : ∃ p, v = .tuple #[p, .int .i64 (u.den E)] ∧ IsInt w p (x.den E) := by
  obtain ⟨vs, rfl, u1, r1, rfl, k1, u2, r2, rfl, k2, hn⟩ := hx
  simp only [tupAll] at hn
  subst hn
  have k2' := one_num.1 k2
  subst k2'
  exact ⟨u1, rfl, (one_int.1 k1).1⟩
end Go.Proofs.YtdblkeeicmncfaaGreatDoor
end

/- ---- Rff ---- -/
section
/-
  RationalSqrt.
-/
set_option maxRecDepth 100000
namespace Go.Proofs.YtdblkeeicmncfaaGreatDoor
open Go.RowKit

def kSqRef : Con
  | [.val true [.int x l]], _ => if decide (l ≤ 100000) then some (.tup [(true, [.int (.a1 2 x) l]), (false, [.n .i64 (.a1 3 x)])]) else none
  | _, _ => none
theorem open_ib' {E : Env} {β : Nat → Nat} {w : World} {v : Value} {x : IT} {k : Nat} {t : BT} (hx : (AV.tup [(true, [.int x k]), (false, [.b t])]).holds E β w v) : ∃ p, v = .tuple #[p, .bool (t.den E)] ∧ IsInt w p (x.den E) := by
  obtain ⟨vs, rfl, u1, r1, rfl, k1, u2, r2, rfl, k2, hn⟩ := hx
  simp only [tupAll] at hn
  subst hn
  have k2' := one_bool.1 k2
  subst k2'
  exact ⟨u1, rfl, (one_int.1 k1).1⟩
/-- Squares of rational numbers. -/
theorem mul_self_parts (a : Rat) : (a * a).num = a.num * a.num ∧ (a * a).den = a.den * a.den := by
  have hc : (a.num * a.num).natAbs.Coprime (a.den * a.den) := by
    rw [Int.natAbs_mul]
    exact (Nat.Coprime.mul_left a.reduced a.reduced).symm.mul_left (Nat.Coprime.mul_left a.reduced a.reduced).symm |>.symm
  have hn : a.den * a.den ≠ 0 := Nat.mul_ne_zero a.den_nz a.den_nz
  have e : a * a = ⟨a.num * a.num, a.den * a.den, hn, hc⟩ := by
    rw [Rat.mk_eq_divInt]
    have h : Rat.divInt a.num a.den * Rat.divInt a.num a.den = a * a := by rw [Rat.num_divInt_den]
    rw [← h, Rat.divInt_mul_divInt, Int.natCast_mul]
  rw [e]
  exact ⟨rfl, rfl⟩
def ratAbs (a : Rat) : Rat := ⟨(a.num.natAbs : Int), a.den, a.den_nz, by rw [Int.natAbs_natCast]; exact a.reduced⟩
theorem isq_self (n : Int) : isq (n * n) = (n.natAbs : Int) ∧ sqB (n * n) = true := by
  have h0 : ¬ n * n < 0 := by
    have e : ((n.natAbs : Int)) * (n.natAbs : Int) = n * n := Int.natAbs_mul_self
    have h := Int.natCast_nonneg (n.natAbs * n.natAbs)
    rw [Int.natCast_mul, e] at h
    omega
  have e1 : isq (n * n) = (n.natAbs : Int) := by
    unfold isq
    rw [if_neg h0, Int.natAbs_mul]
    congr 1
    refine isqN_spec_eq ⟨Nat.le_refl _, ?_⟩
    exact Nat.mul_lt_mul'' (by omega) (by omega)
  refine ⟨e1, ?_⟩
  unfold sqB
  rw [e1]
  have e2 : ((n.natAbs : Int)) * (n.natAbs : Int) = n * n := Int.natAbs_mul_self
  rw [e2, cmpZ_eq rfl]
  unfold isqE
  rw [if_neg h0]
  rfl
theorem sqB_spec {z : Int} (h : sqB z = true) : isq z * isq z = z := by
  unfold sqB at h
  rw [Bool.and_eq_true, beq_iff_eq, beq_iff_eq] at h
  rcases cmpZ_cases (isq z * isq z) z with ⟨_, e⟩ | ⟨k, _⟩ | ⟨_, e⟩
  · have := h.2; omega
  · exact k
  · have := h.2; omega
theorem root_rat {a : Rat} (h : sqB a.num = true) (k : sqB (a.den : Int) = true) : ∃ s : Rat, s.num = isq a.num ∧ (s.den : Int) = isq (a.den : Int) := by
  have e1 := sqB_spec h
  have e2 := sqB_spec k
  have hd : (a.den : Int) ≠ 0 := den_ne a
  have hp : 0 ≤ isq (a.den : Int) := by unfold isq; split <;> omega
  have hne : (isq (a.den : Int)).natAbs ≠ 0 := by
    intro e
    have : isq (a.den : Int) = 0 := by omega
    rw [this] at e2
    omega
  have hc : (isq a.num).natAbs.Coprime (isq (a.den : Int)).natAbs := by
    have h1 : (isq a.num).natAbs * (isq a.num).natAbs = a.num.natAbs := by rw [← Int.natAbs_mul, e1]
    have h2 : (isq (a.den : Int)).natAbs * (isq (a.den : Int)).natAbs = a.den := by rw [← Int.natAbs_mul, e2, Int.natAbs_natCast]
    have hr := a.reduced
    rw [← h1, ← h2] at hr
    exact (Nat.Coprime.coprime_mul_left (Nat.Coprime.coprime_mul_left hr).symm).symm
  refine ⟨⟨isq a.num, (isq (a.den : Int)).natAbs, hne, hc⟩, rfl, ?_⟩
  show (((isq (a.den : Int)).natAbs : Nat) : Int) = _
  omega
def isV (i : Nat) : IT → Bool
  | .var j => i == j
  | _ => false
theorem isV_spec {i : Nat} {t : IT} (h : isV i t = true) : t = .var i := by
  cases t <;> simp only [isV, Bool.false_eq_true, beq_iff_eq] at h
  rw [h]
def kSqC (b : Bool) : Con
  | [.val true [.int x l, .int y m]], _ =>
    if (isV 0 x && isV 1 y) && (decide (l ≤ 6) && decide (m ≤ 6)) then some (if b then .tup [(true, [.int (.var 2) 6, .int (.var 3) 6]), (false, [.b (.lit true)])] else .tup [(true, [.int (.lit 0) 0, .int (.lit 0) 0]), (false, [.b (.lit false)])])
    else if (x.beq (qop 2 (qv 0) (qv 0)).1 && y.beq (qop 2 (qv 0) (qv 0)).2) && (decide (l ≤ 100000) && decide (m ≤ 100000)) then some (.tup [(true, [.int (.var 4) 6, .int (.var 5) 6]), (false, [.b (.lit true)])]) else none
  | _, _ => none
theorem kSqC_ok {a s : Rat} {b : Bool} (la : LimQ 6 a) (hb : (sqB a.num && sqB (a.den : Int)) = b) (hs : b = true → s.num = isq a.num ∧ (s.den : Int) = isq (a.den : Int)) {f : Nat}
    (hc : ∀ (w : World) (v : Value) (n d : Int), IsPair w v n d → Lim 100000 n → Lim 100000 d → Calls Tryz.prog f #[v] w (RetSqQ n d w))
    (hf : ∃ fn, Tryz.prog.funcs[f]? = some fn ∧ fn.name ≠ "runtime.NumGoroutine" ∧ fn.body.isNone = false) : ConOK Tryz.prog (qE [a, s, ratAbs a]) f (kSqC b) := by
  have ra : RepQ (qE [a, s, ratAbs a]) (qv 0) a := rep_v (i := 0)
  have rs : RepQ (qE [a, s, ratAbs a]) (qv 1) s := rep_v (i := 1)
  have rt : RepQ (qE [a, s, ratAbs a]) (qv 2) (ratAbs a) := rep_v (i := 2)
  have rm : RepQ (qE [a, s, ratAbs a]) (qop 2 (qv 0) (qv 0)) (a * a) := rep_op (f := 2) (by omega) ra ra
  refine ⟨?_, ?_, hf⟩
  · intro args As r h hG β w vs hv hlen
    unfold kSqC at h
    split at h
    · split at h
      · rename_i x l y m hm
        simp only [Bool.and_eq_true, decide_eq_true_iff] at hm
        obtain ⟨⟨hx, hy⟩, hl, hm⟩ := hm
        obtain rfl := isV_spec hx
        obtain rfl := isV_spec hy
        injection h with h
        subst h
        obtain ⟨v, rfl, h1⟩ := args1 hv hlen
        obtain ⟨p1, a1, a2⟩ := one_pair.1 h1
        have e1 : (IT.var 0).den (qE [a, s, ratAbs a]) = a.num := ra.1
        have e2 : (IT.var 1).den (qE [a, s, ratAbs a]) = (a.den : Int) := ra.2
        rw [e1, e2] at p1
        rw [e1] at a1
        rw [e2] at a2
        refine (hc w v _ _ p1 (a1.mono (by omega)) (a2.mono (by omega))).mono ?_
        rintro e w' ⟨u, rfl, hp, ex⟩
        unfold sqN at hp
        rw [hb] at hp ⊢
        cases b with
        | true =>
          obtain ⟨s1, s2⟩ := hs rfl
          rw [if_pos rfl, if_pos rfl, ← s1, ← s2] at hp
          refine ⟨_, rfl, ⟨[u, .bool true], rfl, u, _, rfl, one_pair.2 ⟨?_, ?_, ?_⟩, _, _, rfl, one_bool.2 rfl, rfl⟩, ex⟩
          · show IsPair w' u ((qv 1).1.den _) ((qv 1).2.den _)
            rw [rs.1, rs.2]; exact hp
          · show Lim 6 ((qv 1).1.den _)
            rw [rs.1, s1]; exact isq_lim la.1
          · show Lim 6 ((qv 1).2.den _)
            rw [rs.2, s2]; exact isq_lim la.2
        | false =>
          rw [if_neg (by decide), if_neg (by decide)] at hp
          exact ⟨_, rfl, ⟨[u, .bool false], rfl, u, _, rfl, one_pair.2 ⟨hp, lim_zero, lim_zero⟩, _, _, rfl, one_bool.2 rfl, rfl⟩, ex⟩
      · split at h
        · rename_i x l y m _ hm
          simp only [Bool.and_eq_true, decide_eq_true_iff] at hm
          obtain ⟨⟨hx, hy⟩, hl, hm⟩ := hm
          obtain rfl := IT.eq_of_beq hx
          obtain rfl := IT.eq_of_beq hy
          injection h with h
          subst h
          obtain ⟨v, rfl, h1⟩ := args1 hv hlen
          obtain ⟨p1, a1, a2⟩ := one_pair.1 h1
          obtain ⟨m1, m2⟩ := mul_self_parts a
          rw [rm.1, rm.2, m1, m2, Int.natCast_mul] at p1
          rw [rm.1, m1] at a1
          rw [rm.2, m2, Int.natCast_mul] at a2
          obtain ⟨i1, j1⟩ := isq_self a.num
          obtain ⟨i2, j2⟩ := isq_self (a.den : Int)
          refine (hc w v _ _ p1 (a1.mono hl) (a2.mono hm)).mono ?_
          rintro e w' ⟨u, rfl, hp, ex⟩
          unfold sqN at hp
          rw [j1, j2] at hp ⊢
          rw [Bool.and_self, if_pos rfl, if_pos rfl, i1, i2, Int.natAbs_natCast] at hp
          refine ⟨_, rfl, ⟨[u, .bool true], rfl, u, _, rfl, one_pair.2 ⟨?_, ?_, ?_⟩, _, _, rfl, one_bool.2 rfl, rfl⟩, ex⟩
          · show IsPair w' u ((qv 2).1.den _) ((qv 2).2.den _)
            rw [rt.1, rt.2]; exact hp
          · show Lim 6 ((qv 2).1.den _)
            rw [rt.1]
            exact la.1.natAbs_le (by show ((a.num.natAbs : Int)).natAbs ≤ _; rw [Int.natAbs_natCast]; exact Nat.le_refl _)
          · show Lim 6 ((qv 2).2.den _)
            rw [rt.2]
            exact la.2
        · cases h
    · cases h
  · intro args As r h x off
    unfold kSqC at h
    split at h
    · split at h
      · injection h with h; subst h; cases b <;> (intro e; cases e)
      · split at h
        · injection h with h; subst h; intro e; cases e
        · cases h
    · cases h
def sqLT : Tree :=
  .ite (.le (.lit 0) (.a2 3 (.var 4) (.lit 0))) (.ite (.and (.eq (.var 4) (.var 0)) (.eq (.var 5) (.var 1))) (leafB (.lit true)) (leafB (.and (.eq (.var 4) (.a1 0 (.var 0))) (.eq (.var 5) (.var 1))))) (leafB (.lit false))
end Go.Proofs.YtdblkeeicmncfaaGreatDoor
end

/- ---- Sma ---- -/
section
/-
  The simplest number between two numbers: what the common recursion yields.
-/
set_option maxRecDepth 100000
namespace Go.Proofs.YtdblkeeicmncfaaGreatDoor

/-- The simplest fraction between ln / ld and hn / hd, where hd can be 0. -/
def simS : Nat → Int → Int → Int → Int → Int × Int
  | 0, _, _, _, _ => (1, 1)
  | k + 1, ln, ld, hn, hd => if (ln / ld + 1) * hd < hn then (ln / ld + 1, 1) else ((ln / ld) * (simS k hd (hn - ln / ld * hd) ld (ln - ln / ld * ld)).1 + (simS k hd (hn - ln / ld * hd) ld (ln - ln / ld * ld)).2, (simS k hd (hn - ln / ld * hd) ld (ln - ln / ld * ld)).1)
structure SimOK (ln ld hn hd : Int) (r : Int × Int) : Prop where
  p1 : 0 < r.1
  p2 : 0 < r.2
  lo : ln * r.2 < r.1 * ld
  hi : r.1 * hd < hn * r.2
  least : ∀ n d : Int, 0 < d → ln * d < n * ld → n * hd < hn * d → r.1 ≤ n ∧ r.2 ≤ d
theorem pos_of_mul {a b : Int} (h : 0 < a * b) (hb : 0 < b) : 0 < a := by
  rcases Int.lt_trichotomy a 0 with h1 | h1 | h1
  · have := Int.mul_neg_of_neg_of_pos h1 hb; omega
  · rw [h1, Int.zero_mul] at h; omega
  · exact h1
theorem lt_of_mul {a b c : Int} (h : a * c < b * c) (hc : 0 < c) : a < b := by
  have : 0 < (b - a) * c := by rw [Int.sub_mul]; omega
  have := pos_of_mul this hc
  omega
theorem simS_ok : ∀ (k : Nat) (ln ld hn hd : Int), 0 ≤ ln → 0 < ld → 0 < hn → 0 ≤ hd → ln * hd < hn * ld → ld + hd < k → SimOK ln ld hn hd (simS k ln ld hn hd) := by
  intro k
  induction k with
  | zero => intro ln ld hn hd _ h2 _ h4 _ h6; exfalso; have : ((0 : Nat) : Int) = 0 := rfl; omega
  | succ k ih =>
    intro ln ld hn hd h1 h2 h3 h4 h5 h6
    obtain ⟨f, hf⟩ : ∃ f, f = ln / ld := ⟨_, rfl⟩
    have hf0 : 0 ≤ f := by rw [hf]; exact Int.ediv_nonneg h1 (by omega)
    have hr0 : 0 ≤ ln - f * ld := by
      have := Int.ediv_mul_le ln (show ld ≠ 0 by omega)
      rw [← hf] at this
      omega
    have hr1 : ln - f * ld < ld := by
      have := Int.lt_ediv_add_one_mul_self ln h2
      rw [← hf, Int.add_mul, Int.one_mul] at this
      omega
    unfold simS
    rw [← hf]
    by_cases hc : (f + 1) * hd < hn
    · rw [if_pos hc]
      refine ⟨by show 0 < f + 1; omega, by show (0 : Int) < 1; decide, ?_, ?_, ?_⟩
      · show ln * 1 < (f + 1) * ld
        rw [Int.mul_one, Int.add_mul, Int.one_mul]; omega
      · show (f + 1) * hd < hn * 1
        rw [Int.mul_one]; exact hc
      · intro n d hd0 ha hb
        refine ⟨?_, by show (1 : Int) ≤ d; omega⟩
        show f + 1 ≤ n
        have e1 : f * ld * d ≤ ln * d := Int.mul_le_mul_of_nonneg_right (by omega) (by omega)
        have e2 : f * d * ld < n * ld := by
          have : f * d * ld = f * ld * d := by grind
          omega
        have e3 := lt_of_mul e2 h2
        have e4 : f * 1 ≤ f * d := Int.mul_le_mul_of_nonneg_left (by omega) hf0
        omega
    · rw [if_neg hc]
      have hg1 : hn - f * hd ≤ hd := by
        have : (f + 1) * hd = f * hd + hd := by grind
        omega
      have hg0 : 0 < hn - f * hd := by
        have e1 : f * ld * hd ≤ ln * hd := Int.mul_le_mul_of_nonneg_right (by omega) h4
        have e2 : f * hd * ld < hn * ld := by
          have : f * hd * ld = f * ld * hd := by grind
          omega
        have := lt_of_mul e2 h2
        omega
      have i := ih hd (hn - f * hd) ld (ln - f * ld) h4 hg0 h2 hr0 (by grind) (by omega)
      obtain ⟨i1, i2, i3, i4, i5⟩ := i
      generalize simS k hd (hn - f * hd) ld (ln - f * ld) = r at *
      obtain ⟨p, q⟩ := r
      simp only at i1 i2 i3 i4 i5 ⊢
      have hfp : 0 ≤ f * p := Int.mul_nonneg hf0 (by omega)
      refine ⟨by show 0 < f * p + q; omega, i1, ?_, ?_, ?_⟩
      · show ln * p < (f * p + q) * ld
        grind
      · show (f * p + q) * hd < hn * p
        grind
      · intro n d hd0 ha hb
        have hm : 0 < n - f * d := by
          have e1 : 0 ≤ (ln - f * ld) * d := Int.mul_nonneg hr0 (by omega)
          have e2 : 0 < (n - f * d) * ld := by grind
          exact pos_of_mul e2 h2
        obtain ⟨j1, j2⟩ := i5 d (n - f * d) hm (by grind) (by grind)
        refine ⟨?_, j1⟩
        show f * p + q ≤ n
        have := Int.mul_le_mul_of_nonneg_left j1 hf0
        omega
/-- It is in lowest terms. -/
theorem SimOK.coprime {ln ld hn hd : Int} {r : Int × Int} (h : SimOK ln ld hn hd r) : Nat.gcd r.1.natAbs r.2.natAbs = 1 := by
  obtain ⟨p, q⟩ := r
  obtain ⟨h1, h2, h3, h4, h5⟩ := h
  simp only at h1 h2 h3 h4 h5 ⊢
  obtain ⟨g, hg⟩ : ∃ g, g = Nat.gcd p.natAbs q.natAbs := ⟨_, rfl⟩
  have hgp : 0 < g := by rw [hg]; exact Nat.gcd_pos_of_pos_left _ (by omega)
  obtain ⟨u, hu⟩ := Nat.gcd_dvd_left p.natAbs q.natAbs
  obtain ⟨v, hv⟩ := Nat.gcd_dvd_right p.natAbs q.natAbs
  rw [← hg] at hu hv ⊢
  have hp : p = (g : Int) * (u : Int) := by rw [← Int.natCast_mul, ← hu]; omega
  have hq : q = (g : Int) * (v : Int) := by rw [← Int.natCast_mul, ← hv]; omega
  have hv0 : 0 < v := by
    rcases Nat.eq_zero_or_pos v with h0 | h0
    · rw [h0, Nat.mul_zero] at hv; omega
    · exact h0
  have hgI : (0 : Int) < (g : Int) := by omega
  have a1 : ln * (v : Int) < (u : Int) * ld := by
    refine lt_of_mul (c := (g : Int)) ?_ hgI
    have e1 : ln * (v : Int) * (g : Int) = ln * q := by rw [hq]; grind
    have e2 : (u : Int) * ld * (g : Int) = p * ld := by rw [hp]; grind
    omega
  have a2 : (u : Int) * hd < hn * (v : Int) := by
    refine lt_of_mul (c := (g : Int)) ?_ hgI
    have e1 : (u : Int) * hd * (g : Int) = p * hd := by rw [hp]; grind
    have e2 : hn * (v : Int) * (g : Int) = hn * q := by rw [hq]; grind
    omega
  have := (h5 u v (by omega) a1 a2).2
  have h7 : q.natAbs ≤ v := by omega
  rw [hv] at h7
  have h8 : 2 ≤ g → False := fun h => by
    have := Nat.mul_le_mul_right v h
    omega
  rcases Nat.lt_or_ge g 2 with h | h
  · omega
  · exact (h8 h).elim
end Go.Proofs.YtdblkeeicmncfaaGreatDoor
end

/- ---- Smb ---- -/
section
/-
  Floor and Over of the reference; parts of b - f and of 1 / c.
-/
set_option maxRecDepth 100000
namespace Go.Proofs.YtdblkeeicmncfaaGreatDoor
open Go.RowKit

theorem rfloor_rat_calls (w : World) (v : Value) (a : Rat) (h : IsRat w v a) (l : LimQ 100000 a) : Calls Tryz.prog 16 #[v] w (Ret (fun v w' => IsInt w' v a.floor) w) := by
  refine (walkQ1 (T := .leaf [(true, [.int (.a2 4 (.var 0) (.var 1)) 100000])]) (tab := [(47, kDM)])
    (.cons (kDMg_ok (fun w v u a b h k l1 l2 => rdivMod_fn w v u a b h k l1 l2) ⟨_, Tryz.func47, by decide +kernel, by kernel_rfl⟩) .nil)
    Tryz.func16 (by kernel_rfl) (by decide +kernel) (by decide +kernel) h l).mono ?_
  rintro e w' ⟨β, u, rfl, hh, ex⟩
  refine ⟨u, rfl, ?_, ex⟩
  have k := (one_int.1 hh).1
  have e1 : (IT.a2 4 (.var 0) (.var 1)).den (qE [a]) = a.floor := by
    show dq a.num (a.den : Int) = _
    rw [dq_pos (by have := a.den_pos; omega), ← Rat.floor_def]
  rw [e1] at k
  exact k
theorem rover_calls (w : World) (v1 v2 : Value) (a b : Rat) (h1 : IsRat w v1 a) (h2 : IsRat w v2 b) (hb : b ≠ 0) (l1 : LimQ 100000 a) (l2 : LimQ 100000 b) :
    Calls Tryz.prog 70 #[v1, v2] w (Ret (fun v w' => IsRat w' v (a / b)) w) := by
  refine (walkQ2 (T := .leaf [(true, [.int (qop 4 (qv 0) (qv 1)).1 400001, .int (qop 4 (qv 0) (qv 1)).2 400001])])
    (tabQ_ok (qE_ok _)) Tryz.func70 (by kernel_rfl) (by decide +kernel) (by decide +kernel) h1 h2 l1 l2).mono ?_
  rintro e w' ⟨β, u, rfl, hh, ex⟩
  refine ⟨u, rfl, ?_, ex⟩
  have k := (one_pair.1 hh).1
  have ra : RepQ (qE [a, b]) (qv 0) a := rep_v (i := 0)
  have rb : RepQ (qE [a, b]) (qv 1) b := rep_v (i := 1)
  have rd := rep_div hb ra rb
  rw [rd.1, rd.2] at k
  exact k
theorem intCast_divInt (f : Int) : ((f : Int) : Rat) = Rat.divInt f 1 := by
  have h : Rat.divInt ((f : Rat).num) ((f : Rat).den : Int) = (f : Rat) := Rat.num_divInt_den _
  rw [Rat.num_intCast, Rat.den_intCast] at h
  exact h.symm
/-- The parts of b - f. -/
theorem sub_int_parts (b : Rat) (f : Int) : (b - (f : Rat)).num = b.num - f * (b.den : Int) ∧ (b - (f : Rat)).den = b.den := by
  have hc : (b.num - f * (b.den : Int)).natAbs.Coprime b.den := by
    have h1 : Int.gcd (b.num - f * (b.den : Int)) (b.den : Int) = Int.gcd b.num (b.den : Int) := by
      rw [show b.num - f * (b.den : Int) = b.num + (b.den : Int) * (-f) by grind]
      exact Int.gcd_add_mul_left_left ..
    have h2 : Int.gcd b.num (b.den : Int) = 1 := by
      show Nat.gcd b.num.natAbs (b.den : Int).natAbs = 1
      rw [Int.natAbs_natCast]
      exact b.reduced
    rw [h2] at h1
    have h3 : Nat.gcd (b.num - f * (b.den : Int)).natAbs (b.den : Int).natAbs = 1 := h1
    rw [Int.natAbs_natCast] at h3
    exact h3
  have e : b - (f : Rat) = ⟨b.num - f * (b.den : Int), b.den, b.den_nz, hc⟩ := by
    have k : (⟨b.num - f * (b.den : Int), b.den, b.den_nz, hc⟩ : Rat) + (f : Rat) = b := by
      rw [Rat.mk_eq_divInt, intCast_divInt, Rat.divInt_add_divInt _ _ (den_ne b) (by omega), Int.mul_one, Int.mul_one, show b.num - f * (b.den : Int) + f * (b.den : Int) = b.num by omega]
      exact Rat.num_divInt_den b
    grind
  rw [e]
  exact ⟨rfl, rfl⟩
/-- The parts of 1 / c. -/
theorem inv_parts {c : Rat} (h : 0 < c.num) : (1 / c).num = (c.den : Int) ∧ ((1 / c).den : Int) = c.num := by
  have e : (1 : Rat) / c = c⁻¹ := by rw [Rat.div_def, Rat.one_mul]
  rw [e, Rat.num_inv, Rat.den_inv, if_neg (by omega), Int.sign_eq_one_of_pos h]
  refine ⟨by omega, by omega⟩
end Go.Proofs.YtdblkeeicmncfaaGreatDoor
end

/- ---- Smc ---- -/
section
/-
  simplest of the reference: it computes what simS computes.
-/
set_option maxRecDepth 100000
namespace Go.Proofs.YtdblkeeicmncfaaGreatDoor
open Go.RowKit

def simQ (k : Nat) (a b : Rat) : Rat := Rat.divInt (simS k a.num (a.den : Int) b.num (b.den : Int)).1 (simS k a.num (a.den : Int) b.num (b.den : Int)).2
theorem SimOK.parts {ln ld hn hd : Int} {r : Int × Int} (h : SimOK ln ld hn hd r) : (Rat.divInt r.1 r.2).num = r.1 ∧ ((Rat.divInt r.1 r.2).den : Int) = r.2 := by
  have hc := h.coprime
  have h1 := h.p1
  have h2 := h.p2
  have hco : coB r.1 r.2 = true := by
    unfold coB
    rw [hc, decide_eq_true h2]; rfl
  unfold coB at hco
  simp only [Bool.and_eq_true, decide_eq_true_iff, beq_iff_eq] at hco
  have e : Rat.divInt r.1 r.2 = ⟨r.1, r.2.natAbs, by omega, hc⟩ := by
    rw [Rat.mk_eq_divInt]
    congr 1
    omega
  rw [e]
  refine ⟨rfl, ?_⟩
  show ((r.2.natAbs : Nat) : Int) = r.2
  omega
theorem lim_le {m : Nat} {x y : Int} (h : Lim m y) (h1 : 0 ≤ x) (h2 : x ≤ y) : Lim m x := h.natAbs_le (by omega)
/-- The least fraction is not longer than the sum of the bounds. -/
theorem SimOK.lim {ln ld hn hd : Int} {r : Int × Int} (h : SimOK ln ld hn hd r) (h1 : 0 ≤ ln) (h2 : 0 < ld) (h3 : 0 < hn) (h4 : 0 ≤ hd) (hlt : ln * hd < hn * ld) (a1 : Lim 6 ln) (a2 : Lim 6 ld) (a3 : Lim 6 hn) (a4 : Lim 6 hd) : Lim 7 r.1 ∧ Lim 7 r.2 := by
  obtain ⟨j1, j2⟩ := h.least (ln + hn) (ld + hd) (by omega) (by rw [Int.mul_add, Int.add_mul]; omega) (by rw [Int.mul_add, Int.add_mul]; omega)
  have p1 := h.p1
  have p2 := h.p2
  exact ⟨lim_le (a1.add2 a3) (by omega) j1, lim_le (a2.add2 a4) (by omega) j2⟩
def sbB : IT2 := qop 1 (qv 1) flQ
def sbA : IT2 := qop 1 (qv 0) flQ
def ffQ : IT2 := (.a2 4 (.var 4) (.var 5), .lit 1)
def ffP : IT2 := qop 0 ffQ (.lit 1, .lit 1)
def smeT : BT := qsame (qv 0) flQ
def nxQ : IT2 := qop 0 flQ (.lit 1, .lit 1)
def ltT : BT := .lt (qcmp nxQ (qv 1)) (.lit 0)
def beq2 (x y : IT) (p : IT2) : Bool := x.beq p.1 && y.beq p.2
theorem beq2_spec {x y : IT} {p : IT2} (h : beq2 x y p = true) : x = p.1 ∧ y = p.2 := by
  unfold beq2 at h
  rw [Bool.and_eq_true] at h
  exact ⟨IT.eq_of_beq h.1, IT.eq_of_beq h.2⟩
def resV (i : Nat) : AV := .val true [.int (.var (2 * i)) 8, .int (.var (2 * i + 1)) 8]
def kOvC : Con
  | [.val true [.int x l, .int y m], .val true [.int z k, .int t j]], G =>
    if beq2 x y (.lit 1, .lit 1) && ((decide (l ≤ 100000) && decide (m ≤ 100000)) && (decide (k ≤ 100000) && decide (j ≤ 100000))) then
      (if beq2 z t sbB then some (resV 2) else if beq2 z t ffP then some (resV 5)
       else if G.find smeT == some false && G.find ltT == some false then (if beq2 z t sbA then some (resV 3) else if beq2 z t (qv 4) then some (resV 6) else none) else none)
    else none
  | _, _ => none
def kSmC : Con
  | [.val true [.int x l, .int y m], .val true [.int z k, .int t j]], G => if beq2 x y (qv 2) && (beq2 z t (qv 3) && (G.find smeT == some false && G.find ltT == some false)) then some (resV 4) else none
  | _, _ => none
/-- What the walk of one step knows. -/
structure SmEnv (a b F T y G H : Rat) : Prop where
  hF : F = 1 / (b - (a.floor : Rat))
  hB : b - (a.floor : Rat) ≠ 0
  hG : G = 1 / ((F.floor : Rat) + 1)
  hG0 : (F.floor : Rat) + 1 ≠ 0
  lF : LimQ 8 F
  lG : LimQ 8 G
  ne : ¬ ((a.floor : Rat) + 1 < b) → a ≠ (a.floor : Rat) → T = 1 / (a - (a.floor : Rat)) ∧ LimQ 8 T ∧ H = 1 / y ∧ y ≠ 0 ∧ LimQ 8 H ∧ LimQ 8 y
theorem rep_flQ {a : Rat} {l : List Rat} : RepQ (qE (a :: l)) flQ (a.floor : Rat) := by
  constructor
  · show dq a.num (a.den : Int) = _
    rw [dq_pos (by have := a.den_pos; omega), ← Rat.floor_def, Rat.num_intCast]
  · show (1 : Int) = _
    rw [Rat.den_intCast]; rfl
theorem rep_one {E : Env} : RepQ E (.lit 1, .lit 1) (1 : Rat) := ⟨rfl, rfl⟩
theorem rep_int {E : Env} {t : IT} {f : Int} (h : t.den E = f) : RepQ E (t, .lit 1) (f : Rat) := by
  constructor
  · show t.den E = _
    rw [h, Rat.num_intCast]
  · show (1 : Int) = _
    rw [Rat.den_intCast]; rfl
theorem sme_den {E : Env} {p q : IT2} {a b : Rat} (hp : RepQ E p a) (hq : RepQ E q b) : (qsame p q).den E = true ↔ a = b := by
  show (p.1.den E == q.1.den E && p.2.den E == q.2.den E) = true ↔ _
  rw [hp.1, hp.2, hq.1, hq.2, Bool.and_eq_true, beq_iff_eq, beq_iff_eq]
  constructor
  · intro h
    have e : Rat.divInt a.num (a.den : Int) = Rat.divInt b.num (b.den : Int) := by rw [h.1, h.2]
    rwa [Rat.num_divInt_den, Rat.num_divInt_den] at e
  · rintro rfl; exact ⟨rfl, rfl⟩
theorem lt_den {a b : Rat} {l : List Rat} : ltT.den (qE (a :: b :: l)) = true ↔ (a.floor : Rat) + 1 < b := by
  have rb : RepQ (qE (a :: b :: l)) (qv 1) b := rep_v (i := 1)
  have rn : RepQ (qE (a :: b :: l)) nxQ ((a.floor : Rat) + 1) := rep_op (f := 0) (by omega) rep_flQ rep_one
  have rc := rep_cmp rn rb
  show decide ((qcmp nxQ (qv 1)).den (qE (a :: b :: l)) < 0) = true ↔ _
  rw [rc, decide_eq_true_iff]
  rcases sgQ_cases ((a.floor : Rat) + 1 - b) with ⟨k, e⟩ | ⟨k, e⟩ | ⟨k, e⟩ <;> rw [e] <;> constructor <;> intro hx <;> grind
theorem kOvC_ok {a b F T y G H : Rat} (S : SmEnv a b F T y G H) : ConOK Tryz.prog (qE [a, b, F, T, y, G, H]) 70 kOvC := by
  have ra : RepQ (qE [a, b, F, T, y, G, H]) (qv 0) a := rep_v (i := 0)
  have rb : RepQ (qE [a, b, F, T, y, G, H]) (qv 1) b := rep_v (i := 1)
  have rF : RepQ (qE [a, b, F, T, y, G, H]) (qv 2) F := rep_v (i := 2)
  have rT : RepQ (qE [a, b, F, T, y, G, H]) (qv 3) T := rep_v (i := 3)
  have ry : RepQ (qE [a, b, F, T, y, G, H]) (qv 4) y := rep_v (i := 4)
  have rG : RepQ (qE [a, b, F, T, y, G, H]) (qv 5) G := rep_v (i := 5)
  have rH : RepQ (qE [a, b, F, T, y, G, H]) (qv 6) H := rep_v (i := 6)
  have rf : RepQ (qE [a, b, F, T, y, G, H]) flQ (a.floor : Rat) := rep_flQ
  have rB : RepQ (qE [a, b, F, T, y, G, H]) sbB (b - (a.floor : Rat)) := rep_op (f := 1) (by omega) rb rf
  have rA : RepQ (qE [a, b, F, T, y, G, H]) sbA (a - (a.floor : Rat)) := rep_op (f := 1) (by omega) ra rf
  have rff : RepQ (qE [a, b, F, T, y, G, H]) ffQ (F.floor : Rat) := rep_int (by
    show dq F.num (F.den : Int) = _
    rw [dq_pos (by have := F.den_pos; omega), ← Rat.floor_def])
  have rfp : RepQ (qE [a, b, F, T, y, G, H]) ffP ((F.floor : Rat) + 1) := rep_op (f := 0) (by omega) rff rep_one
  have rs : smeT.den (qE [a, b, F, T, y, G, H]) = true ↔ a = (a.floor : Rat) := sme_den ra rf
  have go : ∀ (w : World) (β : Nat → Nat) (v u : Value) (p : IT2) (c d : Rat) (i l m k j : Nat), RepQ (qE [a, b, F, T, y, G, H]) p c → c ≠ 0 → d = 1 / c → RepQ (qE [a, b, F, T, y, G, H]) (qv i) d → LimQ 8 d →
      (AV.val true [.int (.lit 1) l, .int (.lit 1) m]).holds (qE [a, b, F, T, y, G, H]) β w v → (AV.val true [.int p.1 k, .int p.2 j]).holds (qE [a, b, F, T, y, G, H]) β w u → l ≤ 100000 → m ≤ 100000 → k ≤ 100000 → j ≤ 100000 →
      Calls Tryz.prog 70 #[v, u] w (fun e w' => ∃ v', e = .returned v' ∧ (resV i).holds (qE [a, b, F, T, y, G, H]) β w' v' ∧ Ext w w') := by
    intro w β v u p c d i l m k j hp hc hd hi hl h1 h2 b1 b2 b3 b4
    obtain ⟨p1, a1, a2⟩ := one_pair.1 h1
    obtain ⟨p2, a3, a4⟩ := one_pair.1 h2
    rw [hp.1, hp.2] at p2
    rw [hp.1] at a3
    rw [hp.2] at a4
    have p1' : IsRat w v (1 : Rat) := p1
    refine (rover_calls w v u 1 c p1' p2 hc ⟨a1.mono b1, a2.mono b2⟩ ⟨a3.mono b3, a4.mono b4⟩).mono ?_
    rintro e w' ⟨v', rfl, hI, ex⟩
    rw [← hd] at hI
    refine ⟨v', rfl, one_pair.2 ⟨?_, ?_, ?_⟩, ex⟩
    · show IsPair w' v' ((qv i).1.den _) ((qv i).2.den _)
      rw [hi.1, hi.2]; exact hI
    · show Lim 8 ((qv i).1.den _)
      rw [hi.1]; exact hl.1
    · show Lim 8 ((qv i).2.den _)
      rw [hi.2]; exact hl.2
  refine ⟨?_, ?_, ⟨_, Tryz.func70, by decide +kernel, by kernel_rfl⟩⟩
  · intro args As r h hG β w vs hv hlen
    unfold kOvC at h
    split at h
    · split at h
      · rename_i x l y' m z k t j hm
        simp only [Bool.and_eq_true, decide_eq_true_iff] at hm
        obtain ⟨h0, ⟨b1, b2⟩, b3, b4⟩ := hm
        obtain ⟨rfl, rfl⟩ := beq2_spec h0
        obtain ⟨v, u, rfl, h1, h2⟩ := args2 hv hlen
        split at h
        · rename_i hz
          obtain ⟨rfl, rfl⟩ := beq2_spec hz
          injection h with h
          subst h
          exact go w β v u sbB _ F 2 l m k j rB S.hB S.hF rF S.lF h1 h2 b1 b2 b3 b4
        · split at h
          · rename_i hz
            obtain ⟨rfl, rfl⟩ := beq2_spec hz
            injection h with h
            subst h
            exact go w β v u ffP _ G 5 l m k j rfp S.hG0 S.hG rG S.lG h1 h2 b1 b2 b3 b4
          · split at h
            · rename_i hg
              simp only [Bool.and_eq_true, beq_iff_eq] at hg
              have hs := Asm.find_spec hG hg.1
              have hs2 := Asm.find_spec hG hg.2
              have hne : a ≠ (a.floor : Rat) := fun e => by rw [rs.2 e] at hs; cases hs
              have hnl : ¬ ((a.floor : Rat) + 1 < b) := fun e => by rw [lt_den.2 e] at hs2; cases hs2
              obtain ⟨c1, c2, c3, c4, c5, c6⟩ := S.ne hnl hne
              split at h
              · rename_i hz
                obtain ⟨rfl, rfl⟩ := beq2_spec hz
                injection h with h
                subst h
                exact go w β v u sbA _ T 3 l m k j rA (by grind) c1 rT c2 h1 h2 b1 b2 b3 b4
              · split at h
                · rename_i hz
                  obtain ⟨rfl, rfl⟩ := beq2_spec hz
                  injection h with h
                  subst h
                  exact go w β v u (qv 4) _ H 6 l m k j ry c4 c3 rH c5 h1 h2 b1 b2 b3 b4
                · cases h
            · cases h
      · cases h
    · cases h
  · intro args As r h x off
    unfold kOvC at h
    split at h
    · split at h
      · split at h
        · injection h with h; subst h; intro e; cases e
        · split at h
          · injection h with h; subst h; intro e; cases e
          · split at h
            · split at h
              · injection h with h; subst h; intro e; cases e
              · split at h
                · injection h with h; subst h; intro e; cases e
                · cases h
            · cases h
      · cases h
    · cases h
theorem kSmC_ok {a b F T y G H : Rat} (S : SmEnv a b F T y G H) (ih : ¬ ((a.floor : Rat) + 1 < b) → a ≠ (a.floor : Rat) → ∀ (w : World) (v u : Value), IsRat w v F → IsRat w u T → Calls Tryz.prog 38 #[v, u] w (Ret (fun v w' => IsRat w' v y) w)) :
    ConOK Tryz.prog (qE [a, b, F, T, y, G, H]) 38 kSmC := by
  have ra : RepQ (qE [a, b, F, T, y, G, H]) (qv 0) a := rep_v (i := 0)
  have rF : RepQ (qE [a, b, F, T, y, G, H]) (qv 2) F := rep_v (i := 2)
  have rT : RepQ (qE [a, b, F, T, y, G, H]) (qv 3) T := rep_v (i := 3)
  have ry : RepQ (qE [a, b, F, T, y, G, H]) (qv 4) y := rep_v (i := 4)
  have rf : RepQ (qE [a, b, F, T, y, G, H]) flQ (a.floor : Rat) := rep_flQ
  have rs : smeT.den (qE [a, b, F, T, y, G, H]) = true ↔ a = (a.floor : Rat) := sme_den ra rf
  refine ⟨?_, ?_, ⟨_, Tryz.func38, by decide +kernel, by kernel_rfl⟩⟩
  · intro args As r h hG β w vs hv hlen
    unfold kSmC at h
    split at h
    · split at h
      · rename_i x l y' m z k t j hm
        simp only [Bool.and_eq_true, beq_iff_eq] at hm
        obtain ⟨h0, hz, hg, hg2⟩ := hm
        obtain ⟨rfl, rfl⟩ := beq2_spec h0
        obtain ⟨rfl, rfl⟩ := beq2_spec hz
        injection h with h
        subst h
        obtain ⟨v, u, rfl, h1, h2⟩ := args2 hv hlen
        have hs := Asm.find_spec hG hg
        have hs2 := Asm.find_spec hG hg2
        have hne : a ≠ (a.floor : Rat) := fun e => by rw [rs.2 e] at hs; cases hs
        have hnl : ¬ ((a.floor : Rat) + 1 < b) := fun e => by rw [lt_den.2 e] at hs2; cases hs2
        obtain ⟨_, _, _, _, _, c6⟩ := S.ne hnl hne
        obtain ⟨p1, a1, a2⟩ := one_pair.1 h1
        obtain ⟨p2, a3, a4⟩ := one_pair.1 h2
        rw [rF.1, rF.2] at p1
        rw [rT.1, rT.2] at p2
        refine (ih hnl hne w v u p1 p2).mono ?_
        rintro e w' ⟨v', rfl, hI, ex⟩
        refine ⟨v', rfl, one_pair.2 ⟨?_, ?_, ?_⟩, ex⟩
        · show IsPair w' v' ((qv 4).1.den _) ((qv 4).2.den _)
          rw [ry.1, ry.2]; exact hI
        · show Lim 8 ((qv 4).1.den _)
          rw [ry.1]; exact c6.1
        · show Lim 8 ((qv 4).2.den _)
          rw [ry.2]; exact c6.2
      · cases h
    · cases h
  · intro args As r h x off
    unfold kSmC at h
    split at h
    · split at h
      · injection h with h; subst h; intro e; cases e
      · cases h
    · cases h
end Go.Proofs.YtdblkeeicmncfaaGreatDoor
end

/- ---- Smd ---- -/
section
/-
  simplest of the reference, by induction.
-/
set_option maxRecDepth 100000
namespace Go.Proofs.YtdblkeeicmncfaaGreatDoor
open Go.RowKit

def kFlR : Con
  | [.val true [.int x l, .int y m]], _ => if canon x y && (ql l && ql m) then some (.val true [.int (.a2 4 x y) l]) else none
  | _, _ => none
theorem kFlR_ok {E : Env} (hE : QEnv E) : ConOK Tryz.prog E 16 kFlR := by
  refine ⟨?_, ?_, ⟨_, Tryz.func16, by decide +kernel, by kernel_rfl⟩⟩
  · intro args As r h hG β w vs hv hlen
    unfold kFlR at h
    split at h
    · split at h
      · rename_i hm
        simp only [ql, Bool.and_eq_true, decide_eq_true_iff] at hm
        obtain ⟨c1, b1, b2⟩ := hm
        injection h with h
        subst h
        obtain ⟨v, rfl, h1⟩ := args1 hv hlen
        obtain ⟨q, _, e1, e2, hq, m1, m2⟩ := one_ratQ hE c1 h1
        have hd : dq q.num (q.den : Int) = q.floor := by rw [dq_pos (by have := q.den_pos; omega), ← Rat.floor_def]
        refine (rfloor_rat_calls w v q hq ⟨m1.mono b1, m2.mono b2⟩).mono ?_
        rintro e w' ⟨u, rfl, hI, ex⟩
        refine ⟨_, rfl, one_int.2 ⟨?_, ?_⟩, ex⟩
        · show IsInt w' u (dq _ _)
          rw [e1, e2, hd]; exact hI
        · show Lim _ (dq _ _)
          rw [e1, e2]; exact m1.natAbs_le (dq_abs _ _)
      · cases h
    · cases h
  · intro args As r h x off
    unfold kFlR at h
    split at h
    · split at h
      · injection h with h; subst h; intro e; cases e
      · cases h
    · cases h
def tabSm3 : List (Nat × Con) := (70, kOvC) :: (38, kSmC) :: (16, kFlR) :: (14, kFI) :: tabT
def leafQ (p : IT2) (m : Nat) : Tree := .leaf [(true, [.int p.1 m, .int p.2 m])]
def smT3 : Tree := .ite ltT (leafQ nxQ 16) (.ite smeT (leafQ (qop 0 flQ (qv 5)) 26) (leafQ (qop 0 flQ (qv 6)) 26))
/-- One step, given the next one. -/
theorem step_calls {a b F T y G H : Rat} (S : SmEnv a b F T y G H) (ih : ¬ ((a.floor : Rat) + 1 < b) → a ≠ (a.floor : Rat) → ∀ (w : World) (v u : Value), IsRat w v F → IsRat w u T → Calls Tryz.prog 38 #[v, u] w (Ret (fun v w' => IsRat w' v y) w))
    (w : World) (v1 v2 : Value) (h1 : IsRat w v1 a) (h2 : IsRat w v2 b) (l1 : LimQ 6 a) (l2 : LimQ 6 b) :
    Calls Tryz.prog 38 #[v1, v2] w (Ret (fun v w' => IsRat w' v (if (a.floor : Rat) + 1 < b then (a.floor : Rat) + 1 else if a = (a.floor : Rat) then (a.floor : Rat) + G else (a.floor : Rat) + H)) w) := by
  refine (fun_sound (C := cfgOf tabSm3) (E := qE [a, b, F, T, y, G, H]) (args := [argS 0, argS 1]) (T := smT3)
    mixed (cfg_ok (.cons (kOvC_ok S) (.cons (kSmC_ok S ih) (.cons (kFlR_ok (qE_ok _)) (.cons kFI_ok (tabT_ok (qE_ok _)))))))
    no_asm Tryz.func38 (by decide +kernel) (by kernel_rfl) (by decide +kernel) rfl w [v1, v2] rfl ?_).mono ?_
  · intro i x hx
    match i, hx with
    | 0, hx => injection hx with hx; subst hx; exact ⟨fun _ => 0, v1, rfl, argS_holds h1 l1 rfl rfl⟩
    | 1, hx => injection hx with hx; subst hx; exact ⟨fun _ => 0, v2, rfl, argS_holds h2 l2 rfl rfl⟩
  · rintro e w' ⟨β, u, rfl, hh, ex⟩
    refine ⟨u, rfl, ?_, ex⟩
    have ra : RepQ (qE [a, b, F, T, y, G, H]) (qv 0) a := rep_v (i := 0)
    have rb : RepQ (qE [a, b, F, T, y, G, H]) (qv 1) b := rep_v (i := 1)
    have rG : RepQ (qE [a, b, F, T, y, G, H]) (qv 5) G := rep_v (i := 5)
    have rH : RepQ (qE [a, b, F, T, y, G, H]) (qv 6) H := rep_v (i := 6)
    have rf : RepQ (qE [a, b, F, T, y, G, H]) flQ (a.floor : Rat) := rep_flQ
    have rn : RepQ (qE [a, b, F, T, y, G, H]) nxQ ((a.floor : Rat) + 1) := rep_op (f := 0) (by omega) rf rep_one
    have r1 : RepQ (qE [a, b, F, T, y, G, H]) (qop 0 flQ (qv 5)) ((a.floor : Rat) + G) := rep_op (f := 0) (by omega) rf rG
    have r2 : RepQ (qE [a, b, F, T, y, G, H]) (qop 0 flQ (qv 6)) ((a.floor : Rat) + H) := rep_op (f := 0) (by omega) rf rH
    have rs : smeT.den (qE [a, b, F, T, y, G, H]) = true ↔ a = (a.floor : Rat) := sme_den ra rf
    have ht : ltT.den (qE [a, b, F, T, y, G, H]) = true ↔ (a.floor : Rat) + 1 < b := lt_den
    have out : ∀ (p : IT2) (m : Nat) (q : Rat), RepQ (qE [a, b, F, T, y, G, H]) p q → (toAV [(true, [.int p.1 m, .int p.2 m])]).holds (qE [a, b, F, T, y, G, H]) β w' u → IsRat w' u q := by
      intro p m q hp h
      have k := (one_pair.1 h).1
      rw [hp.1, hp.2] at k
      exact k
    unfold smT3 leafQ at hh
    simp only [Tree.pick] at hh
    by_cases hc : (a.floor : Rat) + 1 < b
    · rw [if_pos (ht.2 hc)] at hh
      rw [if_pos hc]
      exact out _ _ _ rn hh
    · rw [if_neg (fun e => hc (ht.1 e))] at hh
      rw [if_neg hc]
      by_cases hs : a = (a.floor : Rat)
      · rw [if_pos (rs.2 hs)] at hh
        rw [if_pos hs]
        exact out _ _ _ r1 hh
      · rw [if_neg (fun e => hs (rs.1 e))] at hh
        rw [if_neg hs]
        exact out _ _ _ r2 hh
theorem rat_pos_lt (a b : Rat) : a < b ↔ a.num * (b.den : Int) < b.num * (a.den : Int) := Rat.lt_iff a b
theorem simQ_step {f p q : Int} (hp : p ≠ 0) (hq : q ≠ 0) : (f : Rat) + 1 / Rat.divInt p q = Rat.divInt (f * p + q) p := by
  rw [Rat.div_def, Rat.one_mul, Rat.inv_divInt, intCast_divInt, Rat.divInt_add_divInt _ _ (by omega) hp, Int.mul_one, Int.one_mul]
theorem rsimplest_calls : ∀ (k : Nat) (w : World) (v1 v2 : Value) (a b : Rat), IsRat w v1 a → IsRat w v2 b → LimQ 6 a → LimQ 6 b → 0 ≤ a.num → a < b → (a.den : Int) + (b.den : Int) < k →
    Calls Tryz.prog 38 #[v1, v2] w (Ret (fun v w' => IsRat w' v (simQ k a b)) w) := by
  intro k
  induction k with
  | zero => intro w v1 v2 a b _ _ _ _ _ _ h; exfalso; have : ((0 : Nat) : Int) = 0 := rfl; omega
  | succ k ih =>
    intro w v1 v2 a b h1 h2 l1 l2 h0 hlt hk
    have da : 0 < (a.den : Int) := by have := a.den_pos; omega
    have db : 0 < (b.den : Int) := by have := b.den_pos; omega
    have hltI := (Rat.lt_iff a b).1 hlt
    obtain ⟨f, hf⟩ : ∃ f, f = a.floor := ⟨_, rfl⟩
    have hfd : f = a.num / (a.den : Int) := by rw [hf, Rat.floor_def]
    have hf0 : 0 ≤ f := by rw [hfd]; exact Int.ediv_nonneg h0 (by omega)
    have hr0 : 0 ≤ a.num - f * (a.den : Int) := by
      have := Int.ediv_mul_le a.num (show (a.den : Int) ≠ 0 by omega)
      rw [← hfd] at this; omega
    have hr1 : a.num - f * (a.den : Int) < (a.den : Int) := by
      have := Int.lt_ediv_add_one_mul_self a.num da
      rw [← hfd, Int.add_mul, Int.one_mul] at this; omega
    have hb0 : 0 < b.num := by
      have e1 : 0 ≤ a.num * (b.den : Int) := Int.mul_nonneg h0 (by omega)
      exact pos_of_mul (show 0 < b.num * (a.den : Int) by omega) da
    have hg0 : 0 < b.num - f * (b.den : Int) := by
      have e1 : f * (a.den : Int) * (b.den : Int) ≤ a.num * (b.den : Int) := Int.mul_le_mul_of_nonneg_right (by omega) (by omega)
      have e2 : f * (b.den : Int) * (a.den : Int) < b.num * (a.den : Int) := by
        have : f * (b.den : Int) * (a.den : Int) = f * (a.den : Int) * (b.den : Int) := by grind
        omega
      have := lt_of_mul e2 da
      omega
    obtain ⟨c1, c2⟩ := sub_int_parts b f
    obtain ⟨d1, d2⟩ := sub_int_parts a f
    obtain ⟨F, hF⟩ : ∃ F, F = 1 / (b - (f : Rat)) := ⟨_, rfl⟩
    obtain ⟨F1, F2⟩ := inv_parts (c := b - (f : Rat)) (by rw [c1]; exact hg0)
    rw [← hF] at F1 F2
    rw [c2] at F1
    rw [c1] at F2
    have hfb0 : 0 ≤ f * (b.den : Int) := Int.mul_nonneg hf0 (by omega)
    have lF : LimQ 6 F := by
      refine ⟨?_, ?_⟩
      · rw [F1]; exact l2.2
      · rw [F2]; exact lim_le l2.1 (by omega) (by omega)
    have hFf0 : 0 ≤ F.floor := by
      rw [Rat.floor_def, F1, F2]
      exact Int.ediv_nonneg (by omega) (by omega)
    have hBne : b - (f : Rat) ≠ 0 := fun e => by
      have := congrArg Rat.num e
      rw [c1] at this
      have h0' : (0 : Rat).num = 0 := rfl
      omega
    obtain ⟨gq, hgq⟩ : ∃ gq : Rat, gq = ((F.floor + 1 : Int) : Rat) := ⟨_, rfl⟩
    have hgq1 : gq = (F.floor : Rat) + 1 := by rw [hgq, Rat.intCast_add]; rfl
    have hgn : gq.num = F.floor + 1 := by rw [hgq, Rat.num_intCast]
    have hgd : (gq.den : Int) = 1 := by rw [hgq, Rat.den_intCast]; rfl
    have hgne : gq ≠ 0 := fun e => by
      have := congrArg Rat.num e
      rw [hgn] at this
      have h0' : (0 : Rat).num = 0 := rfl
      omega
    obtain ⟨G, hG⟩ : ∃ G, G = 1 / gq := ⟨_, rfl⟩
    obtain ⟨G1, G2⟩ := inv_parts (c := gq) (by rw [hgn]; omega)
    rw [← hG] at G1 G2
    rw [hgd] at G1
    rw [hgn] at G2
    have hFle : F.floor ≤ F.num := by
      rw [Rat.floor_def]
      have h1' : 0 ≤ F.num := by rw [F1]; omega
      have := Int.ediv_le_self (F.den : Int) h1'
      exact this
    have lG : LimQ 8 G := by
      refine ⟨by rw [G1]; exact (lim1 (by decide)).mono (by omega), ?_⟩
      rw [G2]
      exact ((lim_le lF.1 hFf0 hFle).add2 (lim1 (z := 1) (by decide))).mono (by omega)
    have lF8 : LimQ 8 F := ⟨lF.1.mono (by omega), lF.2.mono (by omega)⟩
    have hcI : (f : Rat) + 1 < b ↔ (f + 1) * (b.den : Int) < b.num := by
      have e : (f : Rat) + 1 = ((f + 1 : Int) : Rat) := by rw [Rat.intCast_add]; rfl
      rw [e, Rat.lt_iff, Rat.num_intCast, Rat.den_intCast]
      have e1 : ((1 : Nat) : Int) = 1 := rfl
      rw [e1, Int.mul_one]
    have hA0 : a = (f : Rat) ↔ a.num - f * (a.den : Int) = 0 := by
      rw [← d1, Rat.num_eq_zero]
      constructor <;> intro h <;> grind
    by_cases hc : (f : Rat) + 1 < b
    · have S : SmEnv a b F 1 1 G 1 := ⟨by rw [← hf]; exact hF, by rw [← hf]; exact hBne, by rw [← hgq1]; exact hG, by rw [← hgq1]; exact hgne, lF8, lG, fun h => by rw [← hf] at h; exact absurd hc h⟩
      refine (step_calls S (fun h => by rw [← hf] at h; exact absurd hc h) w v1 v2 h1 h2 l1 l2).mono ?_
      rintro e w' ⟨u, rfl, hI, ex⟩
      refine ⟨u, rfl, ?_, ex⟩
      rw [← hf, if_pos hc] at hI
      have hv : simQ (k + 1) a b = (f : Rat) + 1 := by
        unfold simQ simS
        rw [← hfd, if_pos (hcI.1 hc)]
        show Rat.divInt (f + 1) 1 = _
        rw [← intCast_divInt, Rat.intCast_add]; rfl
      rw [hv]; exact hI
    · have hcn : ¬ (f + 1) * (b.den : Int) < b.num := fun h => hc (hcI.2 h)
      have hgle : b.num - f * (b.den : Int) ≤ (b.den : Int) := by
        have : (f + 1) * (b.den : Int) = f * (b.den : Int) + (b.den : Int) := by grind
        omega
      have hval : simQ (k + 1) a b = Rat.divInt (f * (simS k (b.den : Int) (b.num - f * (b.den : Int)) (a.den : Int) (a.num - f * (a.den : Int))).1 + (simS k (b.den : Int) (b.num - f * (b.den : Int)) (a.den : Int) (a.num - f * (a.den : Int))).2) (simS k (b.den : Int) (b.num - f * (b.den : Int)) (a.den : Int) (a.num - f * (a.den : Int))).1 := by
        unfold simQ
        rw [simS, ← hfd, if_neg hcn]
      have O := simS_ok k (b.den : Int) (b.num - f * (b.den : Int)) (a.den : Int) (a.num - f * (a.den : Int)) (by omega) hg0 da hr0 (by grind) (by omega)
      have hnum := Int.ediv_mul_le a.num (show (a.den : Int) ≠ 0 by omega)
      have hfa0 : 0 ≤ f * (a.den : Int) := Int.mul_nonneg hf0 (by omega)
      have lrest : Lim 6 (a.num - f * (a.den : Int)) := lim_le l1.1 hr0 (by omega)
      have lg : Lim 6 (b.num - f * (b.den : Int)) := lim_le l2.1 (by omega) (by omega)
      obtain ⟨O1, O2⟩ := O.lim (by omega) hg0 da hr0 (by grind) l2.2 lg l1.2 lrest
      obtain ⟨P1, P2⟩ := O.parts
      have q1 := O.p1
      have q2 := O.p2
      rw [hval]
      by_cases hs : a = (f : Rat)
      · have S : SmEnv a b F 1 1 G 1 := ⟨by rw [← hf]; exact hF, by rw [← hf]; exact hBne, by rw [← hgq1]; exact hG, by rw [← hgq1]; exact hgne, lF8, lG, fun _ h => by rw [← hf] at h; exact absurd hs h⟩
        refine (step_calls S (fun _ h => by rw [← hf] at h; exact absurd hs h) w v1 v2 h1 h2 l1 l2).mono ?_
        rintro e w' ⟨u, rfl, hI, ex⟩
        refine ⟨u, rfl, ?_, ex⟩
        rw [← hf, if_neg hc, if_pos hs] at hI
        have hr : a.num - f * (a.den : Int) = 0 := hA0.1 hs
        have hk1 : ∃ k', k = k' + 1 := ⟨k - 1, by omega⟩
        obtain ⟨k', rfl⟩ := hk1
        have hsim : simS (k' + 1) (b.den : Int) (b.num - f * (b.den : Int)) (a.den : Int) (a.num - f * (a.den : Int)) = (F.floor + 1, 1) := by
          rw [hr, simS, if_pos (by rw [Int.mul_zero]; exact da), Rat.floor_def, F1, F2]
        rw [hsim]
        show IsRat w' u (Rat.divInt (f * (F.floor + 1) + 1) (F.floor + 1))
        rw [← simQ_step (p := F.floor + 1) (q := 1) (by omega) (by omega), ← intCast_divInt, ← hgq, ← hG]
        exact hI
      · obtain ⟨T, hT⟩ : ∃ T, T = 1 / (a - (f : Rat)) := ⟨_, rfl⟩
        have hrp : 0 < a.num - f * (a.den : Int) := by
          have : a.num - f * (a.den : Int) ≠ 0 := fun e => hs (hA0.2 e)
          omega
        obtain ⟨T1, T2⟩ := inv_parts (c := a - (f : Rat)) (by rw [d1]; exact hrp)
        rw [← hT] at T1 T2
        rw [d2] at T1
        rw [d1] at T2
        have lT : LimQ 6 T := ⟨by rw [T1]; exact l1.2, by rw [T2]; exact lrest⟩
        have hy : simQ k F T = Rat.divInt (simS k (b.den : Int) (b.num - f * (b.den : Int)) (a.den : Int) (a.num - f * (a.den : Int))).1 (simS k (b.den : Int) (b.num - f * (b.den : Int)) (a.den : Int) (a.num - f * (a.den : Int))).2 := by
          unfold simQ
          rw [F1, F2, T1, T2]
        generalize simS k (b.den : Int) (b.num - f * (b.den : Int)) (a.den : Int) (a.num - f * (a.den : Int)) = r at *
        obtain ⟨H, hH⟩ : ∃ H, H = 1 / simQ k F T := ⟨_, rfl⟩
        have hyn : (simQ k F T).num = r.1 := by rw [hy]; exact P1
        have hyd : ((simQ k F T).den : Int) = r.2 := by rw [hy]; exact P2
        obtain ⟨H1, H2⟩ := inv_parts (c := simQ k F T) (by rw [hyn]; exact q1)
        rw [← hH] at H1 H2
        rw [hyd] at H1
        rw [hyn] at H2
        have hyne : simQ k F T ≠ 0 := fun e => by
          have := congrArg Rat.num e
          rw [hyn] at this
          have h0' : (0 : Rat).num = 0 := rfl
          omega
        have S : SmEnv a b F T (simQ k F T) G H := ⟨by rw [← hf]; exact hF, by rw [← hf]; exact hBne, by rw [← hgq1]; exact hG, by rw [← hgq1]; exact hgne, lF8, lG, fun _ _ => by
          rw [← hf]
          exact ⟨hT, ⟨lT.1.mono (by omega), lT.2.mono (by omega)⟩, hH, hyne, ⟨by rw [H1]; exact O2.mono (by omega), by rw [H2]; exact O1.mono (by omega)⟩, ⟨by rw [hyn]; exact O1.mono (by omega), by rw [hyd]; exact O2.mono (by omega)⟩⟩⟩
        refine (step_calls S (fun _ _ w v u hv hu => ih w v u F T hv hu lF lT (by rw [F1]; omega) ((Rat.lt_iff F T).2 (by rw [F1, F2, T1, T2]; grind)) (by rw [F2, T2]; omega)) w v1 v2 h1 h2 l1 l2).mono ?_
        rintro e w' ⟨u, rfl, hI, ex⟩
        refine ⟨u, rfl, ?_, ex⟩
        rw [← hf, if_neg hc, if_neg hs] at hI
        rw [← simQ_step (p := r.1) (q := r.2) (by omega) (by omega), ← hy, ← hH]
        exact hI
end Go.Proofs.YtdblkeeicmncfaaGreatDoor
end

/- ---- Sme ---- -/
section
/-
  simplestPositive of the program: it computes what simS computes.
-/
set_option maxRecDepth 100000
namespace Go.Proofs.YtdblkeeicmncfaaGreatDoor
open Go.RowKit

def spI : LInv where
  lk := [(2, .ptr 2 0), (3, .ptr 3 0), (4, .ptr 4 0), (5, .ptr 5 0), (6, .ptr 6 0)]
  vr := [(2, [.int (.var 0) 8, .int (.var 1) 8]), (3, [.int (.var 2) 8, .int (.var 3) 8]), (4, [.int (.lit 0) 0, .int (.lit 0) 0]), (5, [.int (.var 4) 8, .int (.var 5) 8]), (6, [.int (.var 6) 8, .int (.var 7) 8])]
  vs := [0, 1, 2, 3, 4, 5, 6, 7]
  G := []
  lm := [(0, 8), (1, 8), (2, 8), (3, 8), (4, 8), (5, 8), (6, 8), (7, 8)]
def spF : IT := .a2 4 (.var 0) (.var 1)
def spNx : IT := .a2 0 spF (.lit 1)
def spN : IT := .a2 0 (.a2 2 spNx (.var 4)) (.var 6)
def spD : IT := .a2 0 (.a2 2 spNx (.var 5)) (.var 7)
def spAg : List IT := [.var 3, .a2 1 (.var 2) (.a2 2 spF (.var 3)), .var 1, .a2 5 (.var 0) (.var 1), .a2 0 (.a2 2 spF (.var 4)) (.var 6), .a2 0 (.a2 2 spF (.var 5)) (.var 7), .var 4, .var 5]
def spLeaf : List (Bool × List Chunk) := [(true, [.int spN 26, .int spD 26])]
def spTree : LTree := .ite (.lt (.a2 3 (.a2 2 spNx (.var 3)) (.var 2)) (.lit 0)) (.leaf spLeaf) (.again 0 spAg)
def spE (E : Env) (a b c d x y z t : Int) : Env := E.upd spI.vs [a, b, c, d, x, y, z, t]
theorem spE_upd {E : Env} {a b c d x y z t : Int} (l : List Int) (a' b' c' d' x' y' z' t' : Int) (hl : l = [a', b', c', d', x', y', z', t']) : (spE E a b c d x y z t).upd spI.vs l = spE E a' b' c' d' x' y' z' t' := by
  subst hl
  unfold spE Env.upd
  congr 1
  funext k
  match k with
  | 0 | 1 | 2 | 3 | 4 | 5 | 6 | 7 => rfl
  | k + 8 => simp [spI, updI]
theorem dr_ge {x y : Int} (h : 0 < y) : dr x y = x - x / y * y := by
  unfold dr
  rw [if_neg (by omega), Int.fmod_eq_emod_of_nonneg _ (by omega), Int.emod_def, Int.mul_comm]
theorem sp_run (E : Env) (P Q : Int) (lP : Lim 8 P) (lQ : Lim 8 Q) : ∀ (k : Nat) (ln ld hn hd lN lD bN bD : Int), 0 ≤ ln → 0 < ld → 0 < hn → 0 ≤ hd → ln * hd < hn * ld → ld + hd < k → 0 ≤ lN → 0 ≤ lD → 0 ≤ bN → 0 ≤ bD →
    Lim 8 ld → Lim 8 hd → lN * (simS k ln ld hn hd).1 + bN * (simS k ln ld hn hd).2 = P → lD * (simS k ln ld hn hd).1 + bD * (simS k ln ld hn hd).2 = Q →
    ∃ m E', Run (fun _ => True) (noStk.set 0 (spI, spTree)) spTree (spE E ln ld hn hd lN lD bN bD) m E' spLeaf ∧ spN.den E' = P ∧ spD.den E' = Q := by
  intro k
  induction k with
  | zero => intro ln ld hn hd lN lD bN bD _ h2 _ h4 _ h6; exfalso; have : ((0 : Nat) : Int) = 0 := rfl; omega
  | succ k ih =>
    intro ln ld hn hd lN lD bN bD h1 h2 h3 h4 h5 h6 n1 n2 n3 n4 lld lhd hP hQ
    obtain ⟨f, hf⟩ : ∃ f, f = ln / ld := ⟨_, rfl⟩
    have hf0 : 0 ≤ f := by rw [hf]; exact Int.ediv_nonneg h1 (by omega)
    have hr0 : 0 ≤ ln - f * ld := by
      have := Int.ediv_mul_le ln (show ld ≠ 0 by omega)
      rw [← hf] at this
      omega
    have hr1 : ln - f * ld < ld := by
      have := Int.lt_ediv_add_one_mul_self ln h2
      rw [← hf, Int.add_mul, Int.one_mul] at this
      omega
    have eF : spF.den (spE E ln ld hn hd lN lD bN bD) = f := by
      show dq ln ld = f
      rw [dq_pos h2, hf]
    have eT : (BT.lt (.a2 3 (.a2 2 spNx (.var 3)) (.var 2)) (.lit 0)).den (spE E ln ld hn hd lN lD bN bD) = decide (cmpZ ((f + 1) * hd) hn < 0) := by
      show decide (cmpZ ((spF.den _ + 1) * hd) hn < 0) = _
      rw [eF]
    by_cases hc : (f + 1) * hd < hn
    · refine ⟨0, _, .iteT ?_ .leaf, ?_, ?_⟩
      · rw [eT, decide_eq_true_iff, cmpZ_lt hc]; decide
      · rw [simS, ← hf, if_pos hc] at hP
        show (spF.den _ + 1) * lN + bN = P
        rw [eF, ← hP]
        show (f + 1) * lN + bN = lN * (f + 1) + bN * 1
        grind
      · rw [simS, ← hf, if_pos hc] at hQ
        show (spF.den _ + 1) * lD + bD = Q
        rw [eF, ← hQ]
        show (f + 1) * lD + bD = lD * (f + 1) + bD * 1
        grind
    · have hg1 : hn - f * hd ≤ hd := by
        have : (f + 1) * hd = f * hd + hd := by grind
        omega
      have hg0 : 0 < hn - f * hd := by
        have e1 : f * ld * hd ≤ ln * hd := Int.mul_le_mul_of_nonneg_right (by omega) h4
        have e2 : f * hd * ld < hn * ld := by
          have : f * hd * ld = f * ld * hd := by grind
          omega
        have := lt_of_mul e2 h2
        omega
      have hlt2 : hd * (ln - f * ld) < ld * (hn - f * hd) := by grind
      have O := simS_ok k hd (hn - f * hd) ld (ln - f * ld) h4 hg0 h2 hr0 hlt2 (by omega)
      rw [simS, ← hf, if_neg hc] at hP hQ
      have p1 := O.p1
      have p2 := O.p2
      have hP' : (f * lN + bN) * (simS k hd (hn - f * hd) ld (ln - f * ld)).1 + lN * (simS k hd (hn - f * hd) ld (ln - f * ld)).2 = P := by
        rw [← hP]
        show _ = lN * (f * (simS k hd (hn - f * hd) ld (ln - f * ld)).1 + (simS k hd (hn - f * hd) ld (ln - f * ld)).2) + bN * (simS k hd (hn - f * hd) ld (ln - f * ld)).1
        grind
      have hQ' : (f * lD + bD) * (simS k hd (hn - f * hd) ld (ln - f * ld)).1 + lD * (simS k hd (hn - f * hd) ld (ln - f * ld)).2 = Q := by
        rw [← hQ]
        show _ = lD * (f * (simS k hd (hn - f * hd) ld (ln - f * ld)).1 + (simS k hd (hn - f * hd) ld (ln - f * ld)).2) + bD * (simS k hd (hn - f * hd) ld (ln - f * ld)).1
        grind
      have m1 : 0 ≤ f * lN := Int.mul_nonneg hf0 n1
      have m2 : 0 ≤ f * lD := Int.mul_nonneg hf0 n2
      have lg : Lim 8 (hn - f * hd) := lim_le lhd (by omega) hg1
      have lr : Lim 8 (ln - f * ld) := lim_le lld hr0 (by omega)
      obtain ⟨m, E', hR, e1, e2⟩ := ih hd (hn - f * hd) ld (ln - f * ld) (f * lN + bN) (f * lD + bD) lN lD h4 hg0 h2 hr0 hlt2 (by omega) (by omega) (by omega) n1 n2 lg lr hP' hQ'
      have big : ∀ {x y u v S : Int}, 0 ≤ x → 0 ≤ y → 0 < u → 0 < v → x * u + y * v = S → x ≤ S ∧ y ≤ S := by
        intro x y u v S hx hy hu hv hS
        have a1 : x * 1 ≤ x * u := Int.mul_le_mul_of_nonneg_left (by omega) hx
        have a2 : y * 1 ≤ y * v := Int.mul_le_mul_of_nonneg_left (by omega) hy
        have a3 : 0 ≤ x * u := Int.mul_nonneg hx (by omega)
        have a4 : 0 ≤ y * v := Int.mul_nonneg hy (by omega)
        omega
      obtain ⟨b1, b2⟩ := big (by omega) n1 p1 p2 hP'
      obtain ⟨b3, b4⟩ := big (by omega) n2 p1 p2 hQ'
      have hval : spAg.map (IT.den (spE E ln ld hn hd lN lD bN bD)) = [hd, hn - f * hd, ld, ln - f * ld, f * lN + bN, f * lD + bD, lN, lD] := by
        show [hd, hn - spF.den _ * hd, ld, dr ln ld, spF.den _ * lN + bN, spF.den _ * lD + bD, lN, lD] = _
        rw [eF, dr_ge h2, ← hf]
      have hup := spE_upd (E := E) (a := ln) (b := ld) (c := hn) (d := hd) (x := lN) (y := lD) (z := bN) (t := bD) _ _ _ _ _ _ _ _ _ hval
      refine ⟨m + 1, E', .iteF ?_ (.again (I := spI) (T := spTree) (by simp [Stk.set]) ⟨no_asm, trivial, ?_⟩ ?_), e1, e2⟩
      · rw [eT, decide_eq_false_iff_not]
        rcases cmpZ_cases ((f + 1) * hd) hn with ⟨h, e⟩ | ⟨h, e⟩ | ⟨h, e⟩ <;> rw [e] <;> omega
      · rw [hup]
        intro p hp
        simp only [spI, List.mem_cons, List.not_mem_nil, or_false] at hp
        rcases hp with rfl | rfl | rfl | rfl | rfl | rfl | rfl | rfl
        · exact lhd
        · exact lg
        · exact lld
        · exact lr
        · exact lim_le (x := f * lN + bN) lP (by omega) b1
        · exact lim_le (x := f * lD + bD) lQ (by omega) b3
        · exact lim_le lP n1 b2
        · exact lim_le lQ n2 b4
      · rw [hup]; exact hR
def spT : LTree := .loop 0 spI [.var 0, .var 1, .var 2, .var 3, .lit 1, .lit 0, .lit 0, .lit 1] spTree
def simP (a b : Rat) : Rat := simQ ((a.den : Int) + (b.den : Int) + 1).toNat a b
/-- What simplestPositive returns. -/
theorem simPos_calls (w : World) (v1 v2 : Value) (a b : Rat) (h1 : IsRat w v1 a) (h2 : IsRat w v2 b) (l1 : LimQ 6 a) (l2 : LimQ 6 b) (h0 : 0 ≤ a.num) (hlt : a < b) :
    Calls Tryz.prog 32 #[v1, v2] w (Ret (fun v w' => IsRat w' v (simP a b)) w) := by
  have da : 0 < (a.den : Int) := by have := a.den_pos; omega
  have db : 0 < (b.den : Int) := by have := b.den_pos; omega
  have hltI := (Rat.lt_iff a b).1 hlt
  have hb0 : 0 < b.num := by
    have e1 : 0 ≤ a.num * (b.den : Int) := Int.mul_nonneg h0 (by omega)
    exact pos_of_mul (show 0 < b.num * (a.den : Int) by omega) da
  obtain ⟨k, hk⟩ : ∃ k, k = ((a.den : Int) + (b.den : Int) + 1).toNat := ⟨_, rfl⟩
  have O := simS_ok k a.num (a.den : Int) b.num (b.den : Int) h0 da hb0 (by omega) hltI (by omega)
  obtain ⟨O1, O2⟩ := O.lim h0 da hb0 (by omega) hltI l1.1 l1.2 l2.1 l2.2
  obtain ⟨P1, P2⟩ := O.parts
  obtain ⟨m, E', hR, e1, e2⟩ := sp_run (qE [a, b]) _ _ (O1.mono (by omega)) (O2.mono (by omega)) k a.num (a.den : Int) b.num (b.den : Int) 1 0 0 1 h0 da hb0 (by omega) hltI (by omega) (by omega) (by omega) (by omega) (by omega) (l1.2.mono (by omega)) (l2.2.mono (by omega))
    (by rw [Int.one_mul, Int.zero_mul, Int.add_zero]) (by rw [Int.one_mul, Int.zero_mul, Int.zero_add])
  refine (loops_sound (Good := fun _ => True) (C := cfgOf tabSP) (L := fun _ => some spI) (E := qE [a, b]) (args := [argS 0, argS 1]) (T := spT) (l := spLeaf) (E' := E') (m := m)
    mixed (fun _ _ => cfg_ok tabSP_ok) no_asm trivial Tryz.func32 (by decide +kernel) (by kernel_rfl) (by decide +kernel) rfl ?_ w [v1, v2] rfl ?_).mono ?_
  · have hval : [IT.var 0, .var 1, .var 2, .var 3, .lit 1, .lit 0, .lit 0, .lit 1].map (IT.den (qE [a, b])) = [a.num, (a.den : Int), b.num, (b.den : Int), 1, 0, 0, 1] := rfl
    refine .loop ⟨no_asm, trivial, ?_⟩ ?_
    · rw [hval]
      intro p hp
      simp only [spI, List.mem_cons, List.not_mem_nil, or_false] at hp
      rcases hp with rfl | rfl | rfl | rfl | rfl | rfl | rfl | rfl
      · exact l1.1.mono (by omega)
      · exact l1.2.mono (by omega)
      · exact l2.1.mono (by omega)
      · exact l2.2.mono (by omega)
      · exact (lim1 (z := 1) (by decide)).mono (by omega)
      · exact lim_zero
      · exact lim_zero
      · exact (lim1 (z := 1) (by decide)).mono (by omega)
    · rw [hval]; exact hR
  · intro i x hx
    match i, hx with
    | 0, hx => injection hx with hx; subst hx; exact ⟨fun _ => 0, v1, rfl, argS_holds h1 l1 rfl rfl⟩
    | 1, hx => injection hx with hx; subst hx; exact ⟨fun _ => 0, v2, rfl, argS_holds h2 l2 rfl rfl⟩
  · rintro e w' ⟨β, u, rfl, hh, ex⟩
    refine ⟨u, rfl, ?_, ex⟩
    have kk := (one_pair.1 hh).1
    rw [e1, e2] at kk
    have hs : simP a b = Rat.divInt (simS k a.num (a.den : Int) b.num (b.den : Int)).1 (simS k a.num (a.den : Int) b.num (b.den : Int)).2 := by
      unfold simP simQ
      rw [← hk]
    show IsPair w' u (simP a b).num ((simP a b).den : Int)
    rw [hs, P1, P2]
    exact kk
end Go.Proofs.YtdblkeeicmncfaaGreatDoor
end

/- ---- Smf ---- -/
section
/-
  Simplest, of the program and of the reference.
-/
set_option maxRecDepth 100000
namespace Go.Proofs.YtdblkeeicmncfaaGreatDoor
open Go.RowKit

/-- The simplest number between two numbers, of any signs. -/
def simV (a b : Rat) : Rat := if 0 ≤ a.num then simP a b else if b.num ≤ 0 then - simP (-b) (-a) else 0
def RetSim (a b : Rat) (w : World) (e : Ending) (w' : World) : Prop := ∃ v, e = .returned (.tuple #[v, .int .i64 0]) ∧ IsRat w' v (simV a b) ∧ Ext w w'
def qneg (p : IT2) : IT2 := (.a1 0 p.1, p.2)
theorem rep_neg {E : Env} {p : IT2} {a : Rat} (h : RepQ E p a) : RepQ E (qneg p) (-a) := by
  constructor
  · show - p.1.den E = _
    rw [h.1, Rat.neg_num]
  · show p.2.den E = _
    rw [h.2, Rat.neg_den]
theorem limQ_neg {m : Nat} {a : Rat} (h : LimQ m a) : LimQ m (-a) := by
  refine ⟨?_, ?_⟩
  · rw [Rat.neg_num]; exact h.1.natAbs_le (by omega)
  · rw [Rat.neg_den]; exact h.2
def kSpX (tup : Bool) (p q : IT2) : Con
  | [.val true [.int x _, .int y _], .val true [.int z _, .int t _]], _ => if beq2 x y p && beq2 z t q then some (if tup then .tup [(true, [.int (.var 4) 8, .int (.var 5) 8]), (false, [.n .i64 (.lit 0)])] else .val true [.int (.var 4) 8, .int (.var 5) 8]) else none
  | _, _ => none
theorem kSpX_ok {a b s c d : Rat} {p q : IT2} {tup : Bool} (hp : RepQ (qE [a, b, s]) p c) (hq : RepQ (qE [a, b, s]) q d) (ls : LimQ 8 s) {f : Nat}
    (hc : ∀ (w : World) (v u : Value), IsRat w v c → IsRat w u d → Calls Tryz.prog f #[v, u] w (fun e w' => ∃ x, e = .returned (if tup then .tuple #[x, .int .i64 0] else x) ∧ IsRat w' x s ∧ Ext w w'))
    (hf : ∃ fn, Tryz.prog.funcs[f]? = some fn ∧ fn.name ≠ "runtime.NumGoroutine" ∧ fn.body.isNone = false) : ConOK Tryz.prog (qE [a, b, s]) f (kSpX tup p q) := by
  have rs : RepQ (qE [a, b, s]) (qv 2) s := rep_v (i := 2)
  refine ⟨?_, ?_, hf⟩
  · intro args As r h hG β w vs hv hlen
    unfold kSpX at h
    split at h
    · split at h
      · rename_i x l y m z k t j hm
        rw [Bool.and_eq_true] at hm
        obtain ⟨rfl, rfl⟩ := beq2_spec hm.1
        obtain ⟨rfl, rfl⟩ := beq2_spec hm.2
        injection h with h
        subst h
        obtain ⟨v, u, rfl, h1, h2⟩ := args2 hv hlen
        have p1 := (one_pair.1 h1).1
        have p2 := (one_pair.1 h2).1
        rw [hp.1, hp.2] at p1
        rw [hq.1, hq.2] at p2
        refine (hc w v u p1 p2).mono ?_
        rintro e w' ⟨x, rfl, hI, ex⟩
        have one : one (qE [a, b, s]) w' (true, [.int (.var 4) 8, .int (.var 5) 8]) x := by
          refine one_pair.2 ⟨?_, ?_, ?_⟩
          · show IsPair w' x ((qv 2).1.den _) ((qv 2).2.den _)
            rw [rs.1, rs.2]; exact hI
          · show Lim 8 ((qv 2).1.den _)
            rw [rs.1]; exact ls.1
          · show Lim 8 ((qv 2).2.den _)
            rw [rs.2]; exact ls.2
        cases tup with
        | false => exact ⟨x, rfl, one, ex⟩
        | true => exact ⟨_, rfl, ⟨[x, .int .i64 0], rfl, x, _, rfl, one, _, _, rfl, one_num.2 rfl, rfl⟩, ex⟩
      · cases h
    · cases h
  · intro args As r h x off
    unfold kSpX at h
    split at h
    · split at h
      · injection h with h; subst h; cases tup <;> (intro e; cases e)
      · cases h
    · cases h
def kVlC : Con
  | [.val true [.int x l, .int y m]], _ => if canon x y && (ql l && ql m) then some (.val false [.b (.lit true)]) else none
  | _, _ => none
theorem kVlC_ok {E : Env} (hE : QEnv E) : ConOK Tryz.prog E 29 kVlC := by
  refine ⟨?_, ?_, ⟨_, Tryz.func29, by decide +kernel, by kernel_rfl⟩⟩
  · intro args As r h hG β w vs hv hlen
    unfold kVlC at h
    split at h
    · split at h
      · rename_i hm
        simp only [ql, Bool.and_eq_true, decide_eq_true_iff] at hm
        obtain ⟨c1, b1, b2⟩ := hm
        injection h with h
        subst h
        obtain ⟨v, rfl, h1⟩ := args1 hv hlen
        obtain ⟨q, _, e1, e2, hq, m1, m2⟩ := one_ratQ hE c1 h1
        refine (validP_calls w v q.num (q.den : Int) hq (m1.mono b1) (m2.mono b2)).mono ?_
        rintro e w' ⟨rfl, ex⟩
        refine ⟨_, rfl, one_bool.2 ?_, ex⟩
        have r' : Nat.gcd q.num.natAbs (q.den : Int).natAbs = 1 := q.reduced
        rw [r', decide_eq_true (by have := q.den_pos; omega)]
        rfl
      · cases h
    · cases h
  · intro args As r h x off
    unfold kVlC at h
    split at h
    · split at h
      · injection h with h; subst h; intro e; cases e
      · cases h
    · cases h
def cmpG (c : Bool) : BT × Bool := (.le (.lit 0) (qcmp (qv 0) (qv 1)), c)
def saG (c : Bool) : BT × Bool := (.le (.lit 0) (.a2 3 (.var 0) (.lit 0)), c)
def saL (c : Bool) : BT × Bool := (.lt (.a2 3 (.var 0) (.lit 0)) (.lit 0), c)
def sbL (c : Bool) : BT × Bool := (.le (.a2 3 (.var 2) (.lit 0)) (.lit 0), c)
def sbG (c : Bool) : BT × Bool := (.lt (.lit 0) (.a2 3 (.var 2) (.lit 0)), c)
theorem sg_nonneg (n : Int) : (0 ≤ cmpZ n 0) ↔ 0 ≤ n := by rcases cmpZ_cases n 0 with ⟨h, e⟩ | ⟨h, e⟩ | ⟨h, e⟩ <;> rw [e] <;> omega
theorem sg_pos (n : Int) : (0 < cmpZ n 0) ↔ 0 < n := by rcases cmpZ_cases n 0 with ⟨h, e⟩ | ⟨h, e⟩ | ⟨h, e⟩ <;> rw [e] <;> omega
theorem cmpG_ok {a b : Rat} {l : List Rat} : (cmpG false).1.den (qE (a :: b :: l)) = decide (¬ a < b) := by
  have ra : RepQ (qE (a :: b :: l)) (qv 0) a := rep_v (i := 0)
  have rb : RepQ (qE (a :: b :: l)) (qv 1) b := rep_v (i := 1)
  have rc := rep_cmp ra rb
  show decide (0 ≤ (qcmp (qv 0) (qv 1)).den (qE (a :: b :: l))) = _
  rw [rc]
  rcases sgQ_cases (a - b) with ⟨k, e⟩ | ⟨k, e⟩ | ⟨k, e⟩ <;> rw [e]
  · rw [decide_eq_false (by decide), decide_eq_false (by grind)]
  · rw [decide_eq_true (by decide), decide_eq_true (by grind)]
  · rw [decide_eq_true (by decide), decide_eq_true (by grind)]
theorem simP_lim {a b : Rat} (l1 : LimQ 6 a) (l2 : LimQ 6 b) (h0 : 0 ≤ a.num) (hlt : a < b) : LimQ 7 (simP a b) := by
  have da : 0 < (a.den : Int) := by have := a.den_pos; omega
  have db : 0 < (b.den : Int) := by have := b.den_pos; omega
  have hltI := (Rat.lt_iff a b).1 hlt
  have hb0 : 0 < b.num := by
    have e1 : 0 ≤ a.num * (b.den : Int) := Int.mul_nonneg h0 (by omega)
    exact pos_of_mul (show 0 < b.num * (a.den : Int) by omega) da
  have O := simS_ok ((a.den : Int) + (b.den : Int) + 1).toNat a.num (a.den : Int) b.num (b.den : Int) h0 da hb0 (by omega) hltI (by omega)
  obtain ⟨O1, O2⟩ := O.lim h0 da hb0 (by omega) hltI l1.1 l1.2 l2.1 l2.2
  obtain ⟨P1, P2⟩ := O.parts
  unfold simP simQ
  exact ⟨by rw [P1]; exact O1, by rw [P2]; exact O2⟩
end Go.Proofs.YtdblkeeicmncfaaGreatDoor
end

/- ---- Smg ---- -/
section
/-
  Simplest of the program and of the reference: what they return.
-/
set_option maxRecDepth 100000
namespace Go.Proofs.YtdblkeeicmncfaaGreatDoor
open Go.RowKit

theorem sg_lt (n : Int) : (cmpZ n 0 < 0) ↔ n < 0 := by rcases cmpZ_cases n 0 with ⟨h, e⟩ | ⟨h, e⟩ | ⟨h, e⟩ <;> rw [e] <;> omega
theorem sg_le (n : Int) : (cmpZ n 0 ≤ 0) ↔ n ≤ 0 := by rcases cmpZ_cases n 0 with ⟨h, e⟩ | ⟨h, e⟩ | ⟨h, e⟩ <;> rw [e] <;> omega
theorem args2S {E : Env} {w : World} {v1 v2 : Value} {a b : Rat} (h1 : IsRat w v1 a) (h2 : IsRat w v2 b) (l1 : LimQ 6 a) (l2 : LimQ 6 b) (e0 : E.i 0 = a.num) (e1 : E.i 1 = (a.den : Int)) (e2 : E.i 2 = b.num) (e3 : E.i 3 = (b.den : Int)) :
    ∀ (i : Nat) (x : AV), [argS 0, argS 1][i]? = some x → ∃ β v, [v1, v2][i]? = some v ∧ x.holds E β w v := by
  intro i x hx
  match i, hx with
  | 0, hx => injection hx with hx; subst hx; exact ⟨fun _ => 0, v1, rfl, argS_holds h1 l1 e0 e1⟩
  | 1, hx => injection hx with hx; subst hx; exact ⟨fun _ => 0, v2, rfl, argS_holds h2 l2 e2 e3⟩
theorem open_sim {E : Env} {β : Nat → Nat} {w' : World} {v : Value} {p : IT2} {l m : Nat} {z : Int} {q : Rat} (hp : RepQ E p q) (hx : (AV.tup [(true, [.int p.1 l, .int p.2 m]), (false, [.n .i64 (.lit z)])]).holds E β w' v) : ∃ x, v = .tuple #[x, .int .i64 z] ∧ IsRat w' x q := by
  obtain ⟨vs, rfl, u1, r1, rfl, k1, u2, r2, rfl, k2, hn⟩ := hx
  simp only [tupAll] at hn
  subst hn
  have k2' := one_num.1 k2
  subst k2'
  have k := (one_pair.1 k1).1
  rw [hp.1, hp.2] at k
  exact ⟨u1, rfl, k⟩
theorem prog_sim_pos (w : World) (v1 v2 : Value) (a b : Rat) (h1 : IsRat w v1 a) (h2 : IsRat w v2 b) (l1 : LimQ 6 a) (l2 : LimQ 6 b) (h0 : 0 ≤ a.num) (hlt : a < b) :
    Calls Tryz.prog 6 #[v1, v2] w (RetSim a b w) := by
  refine (fun_sound (C := cfgOf ((32, kSpX false (qv 0) (qv 1)) :: (29, kVlC) :: tabT)) (E := qE [a, b, simP a b]) (G := [cmpG false, saG true]) (args := [argS 0, argS 1]) (T := .leaf [(true, [.int (qv 2).1 8, .int (qv 2).2 8]), (false, [.n .i64 (.lit 0)])])
    mixed (cfg_ok (.cons (kSpX_ok (tup := false) (c := a) (d := b) rep_v rep_v ⟨(simP_lim l1 l2 h0 hlt).1.mono (by omega), (simP_lim l1 l2 h0 hlt).2.mono (by omega)⟩ (fun w v u hv hu => (simPos_calls w v u _ _ hv hu l1 l2 h0 hlt).mono (fun e w' ⟨x, h1, h2, h3⟩ => ⟨x, h1, h2, h3⟩)) ⟨_, Tryz.func32, by decide +kernel, by kernel_rfl⟩) (.cons (kVlC_ok (qE_ok _)) (tabT_ok (qE_ok _))))) ?_ Tryz.func6 (by decide +kernel) (by kernel_rfl) (by decide +kernel) rfl w [v1, v2] rfl (args2S h1 h2 l1 l2 rfl rfl rfl rfl)).mono ?_
  · intro p hp
    simp only [List.mem_cons, List.not_mem_nil, or_false] at hp
    rcases hp with rfl | rfl
    · exact cmpG_ok.trans (decide_eq_false (fun h => h hlt))
    · exact decide_eq_true ((sg_nonneg a.num).2 h0)
  · rintro e w' ⟨β, u, rfl, hh, ex⟩
    have rs : RepQ (qE [a, b, simP a b]) (qv 2) (simP a b) := rep_v (i := 2)
    obtain ⟨x, rfl, hI⟩ := open_sim rs hh
    refine ⟨x, rfl, ?_, ex⟩
    unfold simV
    rw [if_pos h0]
    exact hI
theorem prog_sim_neg (w : World) (v1 v2 : Value) (a b : Rat) (h1 : IsRat w v1 a) (h2 : IsRat w v2 b) (l1 : LimQ 6 a) (l2 : LimQ 6 b) (h0 : ¬ 0 ≤ a.num) (hb : b.num ≤ 0) (hlt : a < b) (hn0 : 0 ≤ (-b).num) (hnl : -b < -a) :
    Calls Tryz.prog 6 #[v1, v2] w (RetSim a b w) := by
  refine (fun_sound (C := cfgOf ((32, kSpX false (qneg (qv 1)) (qneg (qv 0))) :: (29, kVlC) :: tabT)) (E := qE [a, b, simP (-b) (-a)]) (G := [cmpG false, saG false, sbL true]) (args := [argS 0, argS 1]) (T := .leaf [(true, [.int (qneg (qv 2)).1 8, .int (qneg (qv 2)).2 8]), (false, [.n .i64 (.lit 0)])])
    mixed (cfg_ok (.cons (kSpX_ok (tup := false) (c := -b) (d := -a) (rep_neg rep_v) (rep_neg rep_v) ⟨(simP_lim (limQ_neg l2) (limQ_neg l1) hn0 hnl).1.mono (by omega), (simP_lim (limQ_neg l2) (limQ_neg l1) hn0 hnl).2.mono (by omega)⟩ (fun w v u hv hu => (simPos_calls w v u _ _ hv hu (limQ_neg l2) (limQ_neg l1) hn0 hnl).mono (fun e w' ⟨x, h1, h2, h3⟩ => ⟨x, h1, h2, h3⟩)) ⟨_, Tryz.func32, by decide +kernel, by kernel_rfl⟩) (.cons (kVlC_ok (qE_ok _)) (tabT_ok (qE_ok _))))) ?_ Tryz.func6 (by decide +kernel) (by kernel_rfl) (by decide +kernel) rfl w [v1, v2] rfl (args2S h1 h2 l1 l2 rfl rfl rfl rfl)).mono ?_
  · intro p hp
    simp only [List.mem_cons, List.not_mem_nil, or_false] at hp
    rcases hp with rfl | rfl | rfl
    · exact cmpG_ok.trans (decide_eq_false (fun h => h hlt))
    · exact decide_eq_false (fun h => h0 ((sg_nonneg a.num).1 h))
    · exact decide_eq_true ((sg_le b.num).2 hb)
  · rintro e w' ⟨β, u, rfl, hh, ex⟩
    have rs : RepQ (qE [a, b, simP (-b) (-a)]) (qv 2) (simP (-b) (-a)) := rep_v (i := 2)
    obtain ⟨x, rfl, hI⟩ := open_sim (rep_neg rs) hh
    refine ⟨x, rfl, ?_, ex⟩
    unfold simV
    rw [if_neg h0, if_pos hb]
    exact hI
theorem prog_sim_zero (w : World) (v1 v2 : Value) (a b : Rat) (h1 : IsRat w v1 a) (h2 : IsRat w v2 b) (l1 : LimQ 6 a) (l2 : LimQ 6 b) (h0 : ¬ 0 ≤ a.num) (hb : ¬ b.num ≤ 0) (hlt : a < b) :
    Calls Tryz.prog 6 #[v1, v2] w (RetSim a b w) := by
  refine (fun_sound (C := cfgOf ((29, kVlC) :: tabT)) (E := qE [a, b, 0]) (G := [cmpG false, saG false, sbL false]) (args := [argS 0, argS 1]) (T := .leaf [(true, [.int ((IT.lit 0, IT.lit 1)).1 3, .int ((IT.lit 0, IT.lit 1)).2 3]), (false, [.n .i64 (.lit 0)])])
    mixed (cfg_ok (.cons (kVlC_ok (qE_ok _)) (tabT_ok (qE_ok _)))) ?_ Tryz.func6 (by decide +kernel) (by kernel_rfl) (by decide +kernel) rfl w [v1, v2] rfl (args2S h1 h2 l1 l2 rfl rfl rfl rfl)).mono ?_
  · intro p hp
    simp only [List.mem_cons, List.not_mem_nil, or_false] at hp
    rcases hp with rfl | rfl | rfl
    · exact cmpG_ok.trans (decide_eq_false (fun h => h hlt))
    · exact decide_eq_false (fun h => h0 ((sg_nonneg a.num).1 h))
    · exact decide_eq_false (fun h => by have := (sg_le b.num).1 h; omega)
  · rintro e w' ⟨β, u, rfl, hh, ex⟩
    have rs : RepQ (qE [a, b, 0]) (qv 2) (0) := rep_v (i := 2)
    have rz : RepQ (qE [a, b, 0]) (.lit 0, .lit 1) (0 : Rat) := ⟨rfl, rfl⟩
    obtain ⟨x, rfl, hI⟩ := open_sim rz hh
    refine ⟨x, rfl, ?_, ex⟩
    unfold simV
    rw [if_neg h0, if_neg hb]
    exact hI
theorem prog_sim_bad (w : World) (v1 v2 : Value) (a b : Rat) (h1 : IsRat w v1 a) (h2 : IsRat w v2 b) (l1 : LimQ 6 a) (l2 : LimQ 6 b) (hlt : ¬ a < b) :
    Calls Tryz.prog 6 #[v1, v2] w (fun e w' => ∃ v, e = .returned (.tuple #[v, .int .i64 1]) ∧ IsPair w' v 0 0 ∧ Ext w w') := by
  refine (fun_sound (C := cfgOf ((29, kVlC) :: tabT)) (E := qE [a, b, 0]) (G := [cmpG true]) (args := [argS 0, argS 1]) (T := .leaf [(true, [.int ((IT.lit 0, IT.lit 0)).1 0, .int ((IT.lit 0, IT.lit 0)).2 0]), (false, [.n .i64 (.lit 1)])])
    mixed (cfg_ok (.cons (kVlC_ok (qE_ok _)) (tabT_ok (qE_ok _)))) ?_ Tryz.func6 (by decide +kernel) (by kernel_rfl) (by decide +kernel) rfl w [v1, v2] rfl (args2S h1 h2 l1 l2 rfl rfl rfl rfl)).mono ?_
  · intro p hp
    simp only [List.mem_cons, List.not_mem_nil, or_false] at hp
    subst hp
    exact cmpG_ok.trans (decide_eq_true hlt)
  · rintro e w' ⟨β, u, rfl, hh, ex⟩
    have rs : RepQ (qE [a, b, 0]) (qv 2) (0) := rep_v (i := 2)
    obtain ⟨x, rfl, k⟩ := open_quot hh
    exact ⟨x, rfl, k, ex⟩
theorem ref_sim_pos (w : World) (v1 v2 : Value) (a b : Rat) (h1 : IsRat w v1 a) (h2 : IsRat w v2 b) (l1 : LimQ 6 a) (l2 : LimQ 6 b) (h0 : 0 ≤ a.num) (hb : 0 < b.num) (hlt : a < b) :
    Calls Tryz.prog 9 #[v1, v2] w (RetSim a b w) := by
  refine (fun_sound (C := cfgOf ((38, kSpX false (qv 0) (qv 1)) :: tabT)) (E := qE [a, b, simP a b]) (G := [cmpG false, saL false, sbL false]) (args := [argS 0, argS 1]) (T := .leaf [(true, [.int (qv 2).1 8, .int (qv 2).2 8]), (false, [.n .i64 (.lit 0)])])
    mixed (cfg_ok (.cons (kSpX_ok (tup := false) (c := a) (d := b) rep_v rep_v ⟨(simP_lim l1 l2 h0 hlt).1.mono (by omega), (simP_lim l1 l2 h0 hlt).2.mono (by omega)⟩ (fun w v u hv hu => (rsimplest_calls _ w v u _ _ hv hu l1 l2 h0 hlt (by omega)).mono (fun e w' ⟨x, h1, h2, h3⟩ => ⟨x, h1, h2, h3⟩)) ⟨_, Tryz.func38, by decide +kernel, by kernel_rfl⟩) (tabT_ok (qE_ok _)))) ?_ Tryz.func9 (by decide +kernel) (by kernel_rfl) (by decide +kernel) rfl w [v1, v2] rfl (args2S h1 h2 l1 l2 rfl rfl rfl rfl)).mono ?_
  · intro p hp
    simp only [List.mem_cons, List.not_mem_nil, or_false] at hp
    rcases hp with rfl | rfl | rfl
    · exact cmpG_ok.trans (decide_eq_false (fun h => h hlt))
    · exact decide_eq_false (fun h => by have := (sg_lt a.num).1 h; omega)
    · exact decide_eq_false (fun h => by have := (sg_le b.num).1 h; omega)
  · rintro e w' ⟨β, u, rfl, hh, ex⟩
    have rs : RepQ (qE [a, b, simP a b]) (qv 2) (simP a b) := rep_v (i := 2)
    obtain ⟨x, rfl, hI⟩ := open_sim rs hh
    refine ⟨x, rfl, ?_, ex⟩
    unfold simV
    rw [if_pos h0]
    exact hI
theorem ref_sim_neg (w : World) (v1 v2 : Value) (a b : Rat) (h1 : IsRat w v1 a) (h2 : IsRat w v2 b) (l1 : LimQ 6 a) (l2 : LimQ 6 b) (h0 : ¬ 0 ≤ a.num) (hb : b.num ≤ 0) (hlt : a < b) (hn0 : 0 ≤ (-b).num) (hna : 0 < (-a).num) (hnl : -b < -a) :
    Calls Tryz.prog 9 #[v1, v2] w (RetSim a b w) := by
  refine (fun_sound (C := cfgOf ((9, kSpX true (qneg (qv 1)) (qneg (qv 0))) :: tabT)) (E := qE [a, b, simP (-b) (-a)]) (G := [cmpG false, saL true, sbG false, sbL true]) (args := [argS 0, argS 1]) (T := .leaf [(true, [.int (qneg (qv 2)).1 8, .int (qneg (qv 2)).2 8]), (false, [.n .i64 (.lit 0)])])
    mixed (cfg_ok (.cons (kSpX_ok (tup := true) (c := -b) (d := -a) (rep_neg rep_v) (rep_neg rep_v) ⟨(simP_lim (limQ_neg l2) (limQ_neg l1) hn0 hnl).1.mono (by omega), (simP_lim (limQ_neg l2) (limQ_neg l1) hn0 hnl).2.mono (by omega)⟩ (fun w v u hv hu => (ref_sim_pos w v u _ _ hv hu (limQ_neg l2) (limQ_neg l1) hn0 hna hnl).mono (fun e w' ⟨x, h1, h2, h3⟩ => ⟨x, h1, by unfold simV at h2; rw [if_pos hn0] at h2; exact h2, h3⟩)) ⟨_, Tryz.func9, by decide +kernel, by kernel_rfl⟩) (tabT_ok (qE_ok _)))) ?_ Tryz.func9 (by decide +kernel) (by kernel_rfl) (by decide +kernel) rfl w [v1, v2] rfl (args2S h1 h2 l1 l2 rfl rfl rfl rfl)).mono ?_
  · intro p hp
    simp only [List.mem_cons, List.not_mem_nil, or_false] at hp
    rcases hp with rfl | rfl | rfl | rfl
    · exact cmpG_ok.trans (decide_eq_false (fun h => h hlt))
    · exact decide_eq_true ((sg_lt a.num).2 (by omega))
    · exact decide_eq_false (fun h => by have := (sg_pos b.num).1 h; omega)
    · exact decide_eq_true ((sg_le b.num).2 hb)
  · rintro e w' ⟨β, u, rfl, hh, ex⟩
    have rs : RepQ (qE [a, b, simP (-b) (-a)]) (qv 2) (simP (-b) (-a)) := rep_v (i := 2)
    obtain ⟨x, rfl, hI⟩ := open_sim (rep_neg rs) hh
    refine ⟨x, rfl, ?_, ex⟩
    unfold simV
    rw [if_neg h0, if_pos hb]
    exact hI
theorem ref_sim_zero (w : World) (v1 v2 : Value) (a b : Rat) (h1 : IsRat w v1 a) (h2 : IsRat w v2 b) (l1 : LimQ 6 a) (l2 : LimQ 6 b) (h0 : ¬ 0 ≤ a.num) (hb : ¬ b.num ≤ 0) (hlt : a < b) :
    Calls Tryz.prog 9 #[v1, v2] w (RetSim a b w) := by
  refine (fun_sound (C := cfgOf (tabT)) (E := qE [a, b, 0]) (G := [cmpG false, saL true, sbG true]) (args := [argS 0, argS 1]) (T := .leaf [(true, [.int ((IT.lit 0, IT.lit 1)).1 3, .int ((IT.lit 0, IT.lit 1)).2 3]), (false, [.n .i64 (.lit 0)])])
    mixed (cfg_ok (tabT_ok (qE_ok _))) ?_ Tryz.func9 (by decide +kernel) (by kernel_rfl) (by decide +kernel) rfl w [v1, v2] rfl (args2S h1 h2 l1 l2 rfl rfl rfl rfl)).mono ?_
  · intro p hp
    simp only [List.mem_cons, List.not_mem_nil, or_false] at hp
    rcases hp with rfl | rfl | rfl
    · exact cmpG_ok.trans (decide_eq_false (fun h => h hlt))
    · exact decide_eq_true ((sg_lt a.num).2 (by omega))
    · exact decide_eq_true ((sg_pos b.num).2 (show 0 < b.num by omega))
  · rintro e w' ⟨β, u, rfl, hh, ex⟩
    have rs : RepQ (qE [a, b, 0]) (qv 2) (0) := rep_v (i := 2)
    have rz : RepQ (qE [a, b, 0]) (.lit 0, .lit 1) (0 : Rat) := ⟨rfl, rfl⟩
    obtain ⟨x, rfl, hI⟩ := open_sim rz hh
    refine ⟨x, rfl, ?_, ex⟩
    unfold simV
    rw [if_neg h0, if_neg hb]
    exact hI
end Go.Proofs.YtdblkeeicmncfaaGreatDoor
end

/- ---- Smh ---- -/
section
/-
  What is known of the simplest number between two numbers; Between and Valid of the reference.
-/
set_option maxRecDepth 100000
namespace Go.Proofs.YtdblkeeicmncfaaGreatDoor
open Go.RowKit

/-- It lies strictly between; a fraction between has no lesser denominator, nor the same one and a lesser absolute value. -/
structure Simplest (a b x : Rat) : Prop where
  lo : a < x
  hi : x < b
  den : ∀ n d : Int, 0 < d → a.num * d < n * (a.den : Int) → n * (b.den : Int) < b.num * d → (x.den : Int) ≤ d ∧ x.num.natAbs ≤ n.natAbs
theorem simP_spec {a b : Rat} (h0 : 0 ≤ a.num) (hlt : a < b) : 0 < (simP a b).num ∧ Simplest a b (simP a b) := by
  have da : 0 < (a.den : Int) := by have := a.den_pos; omega
  have db : 0 < (b.den : Int) := by have := b.den_pos; omega
  have hltI := (Rat.lt_iff a b).1 hlt
  have hb0 : 0 < b.num := by
    have e1 : 0 ≤ a.num * (b.den : Int) := Int.mul_nonneg h0 (by omega)
    exact pos_of_mul (show 0 < b.num * (a.den : Int) by omega) da
  have O := simS_ok ((a.den : Int) + (b.den : Int) + 1).toNat a.num (a.den : Int) b.num (b.den : Int) h0 da hb0 (by omega) hltI (by omega)
  obtain ⟨P1, P2⟩ := O.parts
  have e1 : (simP a b).num = (simS ((a.den : Int) + (b.den : Int) + 1).toNat a.num (a.den : Int) b.num (b.den : Int)).1 := P1
  have e2 : ((simP a b).den : Int) = (simS ((a.den : Int) + (b.den : Int) + 1).toNat a.num (a.den : Int) b.num (b.den : Int)).2 := P2
  refine ⟨by rw [e1]; exact O.p1, ?_, ?_, ?_⟩
  · rw [Rat.lt_iff, e1, e2]; exact O.lo
  · rw [Rat.lt_iff, e1, e2]; exact O.hi
  · intro n d hd h1 h2
    obtain ⟨k1, k2⟩ := O.least n d hd h1 h2
    have p1 := O.p1
    rw [e1, e2]
    exact ⟨k2, by omega⟩
theorem Simplest.neg {a b x : Rat} (h : Simplest (-b) (-a) x) : Simplest a b (-x) := by
  obtain ⟨h1, h2, h3⟩ := h
  refine ⟨by grind, by grind, ?_⟩
  intro n d hd k1 k2
  have := h3 (-n) d hd (by rw [Rat.neg_num, Rat.neg_den]; grind) (by rw [Rat.neg_num, Rat.neg_den]; grind)
  rw [Rat.neg_num, Rat.neg_den]
  omega
theorem simV_spec {a b : Rat} (hlt : a < b) : Simplest a b (simV a b) := by
  have da : 0 < (a.den : Int) := by have := a.den_pos; omega
  have db : 0 < (b.den : Int) := by have := b.den_pos; omega
  unfold simV
  by_cases h0 : 0 ≤ a.num
  · rw [if_pos h0]; exact (simP_spec h0 hlt).2
  · rw [if_neg h0]
    by_cases hb : b.num ≤ 0
    · rw [if_pos hb]
      exact (simP_spec (a := -b) (b := -a) (by rw [Rat.neg_num]; omega) (by grind)).2.neg
    · rw [if_neg hb]
      refine ⟨?_, ?_, ?_⟩
      · rw [Rat.lt_iff]
        show a.num * 1 < 0 * _
        rw [Int.zero_mul]; omega
      · rw [Rat.lt_iff]
        show 0 * _ < b.num * 1
        rw [Int.zero_mul]; omega
      · intro n d hd _ _
        exact ⟨by show (1 : Int) ≤ d; omega, Nat.zero_le _⟩
theorem rbetween_calls (w : World) (v1 v2 v3 : Value) (a x b : Rat) (h1 : IsRat w v1 a) (h2 : IsRat w v2 x) (h3 : IsRat w v3 b) (l1 : LimQ 100000 a) (l2 : LimQ 100000 x) (l3 : LimQ 100000 b) :
    Calls Tryz.prog 11 #[v1, v2, v3] w fun e w' => e = .returned (.bool (decide (a < x) && decide (x < b))) ∧ Ext w w' := by
  refine (fun_sound (C := cfgOf tabT) (E := qE [a, x, b]) (args := [argQ 0, argQ 1, argQ 2])
    (T := .ite (.lt (qcmp (qv 0) (qv 1)) (.lit 0)) (leafB (.lt (qcmp (qv 1) (qv 2)) (.lit 0))) (leafB (.lit false)))
    mixed (cfg_ok (tabT_ok (qE_ok _))) no_asm Tryz.func11 (by decide +kernel) (by kernel_rfl) (by decide +kernel) rfl w [v1, v2, v3] rfl ?_).mono ?_
  · intro i y hy
    match i, hy with
    | 0, hy => injection hy with hy; subst hy; exact ⟨fun _ => 0, v1, rfl, argP_holds h1 l1.1 l1.2 rfl rfl⟩
    | 1, hy => injection hy with hy; subst hy; exact ⟨fun _ => 0, v2, rfl, argP_holds h2 l2.1 l2.2 rfl rfl⟩
    | 2, hy => injection hy with hy; subst hy; exact ⟨fun _ => 0, v3, rfl, argP_holds h3 l3.1 l3.2 rfl rfl⟩
  · rintro e w' ⟨β, u, rfl, hh, ex⟩
    have r1 : RepQ (qE [a, x, b]) (qv 0) a := rep_v (i := 0)
    have r2 : RepQ (qE [a, x, b]) (qv 1) x := rep_v (i := 1)
    have r3 : RepQ (qE [a, x, b]) (qv 2) b := rep_v (i := 2)
    have key : ∀ (p q : IT2) (c d : Rat), RepQ (qE [a, x, b]) p c → RepQ (qE [a, x, b]) q d → (BT.lt (qcmp p q) (.lit 0)).den (qE [a, x, b]) = decide (c < d) := by
      intro p q c d hp hq
      show decide ((qcmp p q).den (qE [a, x, b]) < 0) = _
      rw [rep_cmp hp hq]
      rcases sgQ_cases (c - d) with ⟨k, e⟩ | ⟨k, e⟩ | ⟨k, e⟩ <;> rw [e]
      · rw [decide_eq_true (by decide), decide_eq_true (by grind)]
      · rw [decide_eq_false (by decide), decide_eq_false (by grind)]
      · rw [decide_eq_false (by decide), decide_eq_false (by grind)]
    unfold leafB at hh
    simp only [Tree.pick] at hh
    rw [key _ _ a x r1 r2] at hh
    by_cases hc : a < x
    · rw [if_pos (decide_eq_true hc)] at hh
      have := one_bool.1 hh
      subst this
      rw [key _ _ x b r2 r3, decide_eq_true hc, Bool.true_and]
      exact ⟨rfl, ex⟩
    · rw [if_neg (by rw [decide_eq_false hc]; decide)] at hh
      have := one_bool.1 hh
      subst this
      rw [decide_eq_false hc, Bool.false_and]
      exact ⟨rfl, ex⟩
end Go.Proofs.YtdblkeeicmncfaaGreatDoor
end

/- ---- Smi ---- -/
section
/-
  RationalSimplest.
-/
set_option maxRecDepth 100000
namespace Go.Proofs.YtdblkeeicmncfaaGreatDoor
open Go.RowKit

theorem lt_divInt {a : Rat} {n d : Int} (hd : 0 < d) : a < Rat.divInt n d ↔ a.num * d < n * (a.den : Int) := by
  have hy : (0 : Int) < ((Rat.divInt n d).den : Int) := by have := (Rat.divInt n d).den_pos; omega
  have hx : (Rat.divInt n d).num * d = n * ((Rat.divInt n d).den : Int) := by
    have h := (Rat.divInt_eq_divInt_iff (by omega : ((Rat.divInt n d).den : Int) ≠ 0) (by omega : d ≠ 0)).1 (Rat.num_divInt_den (Rat.divInt n d))
    exact h
  rw [Rat.lt_iff]
  generalize (Rat.divInt n d).num = p at *
  generalize ((Rat.divInt n d).den : Int) = q at *
  constructor
  · intro h
    have h1 : a.num * q * d < p * (a.den : Int) * d := Int.mul_lt_mul_of_pos_right h hd
    have e1 : a.num * q * d = a.num * d * q := by grind
    have e2 : p * (a.den : Int) * d = n * (a.den : Int) * q := by grind
    exact lt_of_mul (by omega) hy
  · intro h
    have h1 : a.num * d * q < n * (a.den : Int) * q := Int.mul_lt_mul_of_pos_right h hy
    have e1 : a.num * q * d = a.num * d * q := by grind
    have e2 : p * (a.den : Int) * d = n * (a.den : Int) * q := by grind
    exact lt_of_mul (by omega) hd
theorem divInt_lt {b : Rat} {n d : Int} (hd : 0 < d) : Rat.divInt n d < b ↔ n * (b.den : Int) < b.num * d := by
  have hy : (0 : Int) < ((Rat.divInt n d).den : Int) := by have := (Rat.divInt n d).den_pos; omega
  have hx : (Rat.divInt n d).num * d = n * ((Rat.divInt n d).den : Int) := by
    have h := (Rat.divInt_eq_divInt_iff (by omega : ((Rat.divInt n d).den : Int) ≠ 0) (by omega : d ≠ 0)).1 (Rat.num_divInt_den (Rat.divInt n d))
    exact h
  rw [Rat.lt_iff]
  generalize (Rat.divInt n d).num = p at *
  generalize ((Rat.divInt n d).den : Int) = q at *
  constructor
  · intro h
    have h1 : p * (b.den : Int) * d < b.num * q * d := Int.mul_lt_mul_of_pos_right h hd
    have e1 : p * (b.den : Int) * d = n * (b.den : Int) * q := by grind
    have e2 : b.num * q * d = b.num * d * q := by grind
    exact lt_of_mul (by omega) hy
  · intro h
    have h1 : n * (b.den : Int) * q < b.num * d * q := Int.mul_lt_mul_of_pos_right h hy
    have e1 : p * (b.den : Int) * d = n * (b.den : Int) * q := by grind
    have e2 : b.num * q * d = b.num * d * q := by grind
    exact lt_of_mul (by omega) hd
theorem Simplest.none {a b x : Rat} (S : Simplest a b x) {n d : Int} (hd : 0 < d) (h : ¬ ((x.den : Int) ≤ d ∧ x.num.natAbs ≤ n.natAbs)) : ¬ (a < Rat.divInt n d ∧ Rat.divInt n d < b) :=
  fun k => h (S.den n d hd ((lt_divInt hd).1 k.1) ((divInt_lt hd).1 k.2))

theorem kSpG_ok {E : Env} {s c d : Rat} {p q : IT2} {tup : Bool} (hp : RepQ E p c) (hq : RepQ E q d) (rs : RepQ E (qv 2) s) (ls : LimQ 8 s) {f : Nat}
    (hc : ∀ (w : World) (v u : Value), IsRat w v c → IsRat w u d → Calls Tryz.prog f #[v, u] w (fun e w' => ∃ x, e = .returned (if tup then .tuple #[x, .int .i64 0] else x) ∧ IsRat w' x s ∧ Ext w w'))
    (hf : ∃ fn, Tryz.prog.funcs[f]? = some fn ∧ fn.name ≠ "runtime.NumGoroutine" ∧ fn.body.isNone = false) : ConOK Tryz.prog E f (kSpX tup p q) := by
  refine ⟨?_, ?_, hf⟩
  · intro args As r h hG β w vs hv hlen
    unfold kSpX at h
    split at h
    · split at h
      · rename_i x l y m z k t j hm
        rw [Bool.and_eq_true] at hm
        obtain ⟨rfl, rfl⟩ := beq2_spec hm.1
        obtain ⟨rfl, rfl⟩ := beq2_spec hm.2
        injection h with h
        subst h
        obtain ⟨v, u, rfl, h1, h2⟩ := args2 hv hlen
        have p1 := (one_pair.1 h1).1
        have p2 := (one_pair.1 h2).1
        rw [hp.1, hp.2] at p1
        rw [hq.1, hq.2] at p2
        refine (hc w v u p1 p2).mono ?_
        rintro e w' ⟨x, rfl, hI, ex⟩
        have one : one E w' (true, [.int (.var 4) 8, .int (.var 5) 8]) x := by
          refine one_pair.2 ⟨?_, ?_, ?_⟩
          · show IsPair w' x ((qv 2).1.den _) ((qv 2).2.den _)
            rw [rs.1, rs.2]; exact hI
          · show Lim 8 ((qv 2).1.den _)
            rw [rs.1]; exact ls.1
          · show Lim 8 ((qv 2).2.den _)
            rw [rs.2]; exact ls.2
        cases tup with
        | false => exact ⟨x, rfl, one, ex⟩
        | true => exact ⟨_, rfl, ⟨[x, .int .i64 0], rfl, x, _, rfl, one, _, _, rfl, one_num.2 rfl, rfl⟩, ex⟩
      · cases h
    · cases h
  · intro args As r h x off
    unfold kSpX at h
    split at h
    · split at h
      · injection h with h; subst h; cases tup <;> (intro e; cases e)
      · cases h
    · cases h
theorem kVlR_ok {E : Env} (hE : QEnv E) : ConOK Tryz.prog E 10 kVlC := by
  refine ⟨?_, ?_, ⟨_, Tryz.func10, by decide +kernel, by kernel_rfl⟩⟩
  · intro args As r h hG β w vs hv hlen
    unfold kVlC at h
    split at h
    · split at h
      · rename_i hm
        simp only [ql, Bool.and_eq_true, decide_eq_true_iff] at hm
        obtain ⟨c1, b1, b2⟩ := hm
        injection h with h
        subst h
        obtain ⟨v, rfl, h1⟩ := args1 hv hlen
        obtain ⟨q, _, e1, e2, hq, m1, m2⟩ := one_ratQ hE c1 h1
        obtain ⟨x0, x1, x2, x3, rfl, i1, i2⟩ := hq
        obtain ⟨k1, k2⟩ := int_raw i1
        obtain ⟨k3, k4⟩ := int_raw i2
        refine (rvalid_rat_calls w _ _ _ _ _ ⟨_, _, _, _, rfl, k1, k3⟩ (Nat.le_trans m1 b1) (Nat.le_trans m2 b2)).mono ?_
        rintro e w' ⟨rfl, ex⟩
        refine ⟨_, rfl, one_bool.2 ?_, ex⟩
        have e3 : sgn (decide (q.num < 0)) (val (limbs q.num.natAbs)) = q.num := by rw [val_limbs]; exact sgn_self q.num
        have e4 : sgn (decide ((q.den : Int) < 0)) (val (limbs (q.den : Int).natAbs)) = (q.den : Int) := by rw [val_limbs]; exact sgn_self (q.den : Int)
        unfold okQ
        rw [k2, k4, e3, e4, decide_eq_true (show 0 < (q.den : Int) by have := q.den_pos; omega)]
        rw [decide_eq_true (show Nat.gcd q.num.natAbs (q.den : Int).natAbs = 1 from q.reduced)]
        rfl
      · cases h
    · cases h
  · intro args As r h x off
    unfold kVlC at h
    split at h
    · split at h
      · injection h with h; subst h; intro e; cases e
      · cases h
    · cases h
def sgX : IT := .a2 3 (.var 4) (.lit 0)
def nX : IT := .a2 1 (.var 4) sgX
def yX : IT2 := (.a2 7 nX (.var 5), .a2 8 nX (.var 5))
def kBt : Con
  | [.val true [.int x _, .int y _], .val true [.int z _, .int t _], .val true [.int u _, .int v _]], G =>
    if beq2 x y (qv 0) && beq2 u v (qv 1) then (if beq2 z t (qv 2) then some (.val false [.b (.lit true)]) else if beq2 z t yX && G.find (.eq sgX (.lit 0)) == some false then some (.val false [.b (.lit false)]) else none) else none
  | _, _ => none
theorem kBt_ok {E : Env} {a b X : Rat} (ra : RepQ E (qv 0) a) (rb : RepQ E (qv 1) b) (rx : RepQ E (qv 2) X) (S : Simplest a b X) (la : LimQ 100000 a) (lb : LimQ 100000 b) (lx : LimQ 99990 X) : ConOK Tryz.prog E 11 kBt := by
  refine ⟨?_, ?_, ⟨_, Tryz.func11, by decide +kernel, by kernel_rfl⟩⟩
  · intro args As r h hG β w vs hv hlen
    unfold kBt at h
    split at h
    · rename_i x l1 y l2 z l3 t l4 u l5 v l6
      split at h
      · rename_i hm
        rw [Bool.and_eq_true] at hm
        obtain ⟨rfl, rfl⟩ := beq2_spec hm.1
        obtain ⟨rfl, rfl⟩ := beq2_spec hm.2
        obtain ⟨v1, h1, g1⟩ := hv 0 _ rfl
        obtain ⟨v2, h2, g2⟩ := hv 1 _ rfl
        obtain ⟨v3, h3, g3⟩ := hv 2 _ rfl
        obtain rfl : vs = [v1, v2, v3] := by
          match vs, hlen, h1, h2, h3 with
          | [p, q, r], _, h1, h2, h3 =>
            injection h1 with h1; injection h2 with h2; injection h3 with h3
            subst h1 h2 h3; rfl
        have p1 := (one_pair.1 g1).1
        have p3 := (one_pair.1 g3).1
        rw [ra.1, ra.2] at p1
        rw [rb.1, rb.2] at p3
        split at h
        · rename_i hx
          obtain ⟨rfl, rfl⟩ := beq2_spec hx
          injection h with h
          subst h
          have p2 := (one_pair.1 g2).1
          rw [rx.1, rx.2] at p2
          refine (rbetween_calls w v1 v2 v3 a X b p1 p2 p3 la ⟨lx.1.mono (by omega), lx.2.mono (by omega)⟩ lb).mono ?_
          rintro e w' ⟨rfl, ex⟩
          refine ⟨_, rfl, one_bool.2 ?_, ex⟩
          rw [decide_eq_true S.lo, decide_eq_true S.hi]; rfl
        · split at h
          · rename_i hx
            rw [Bool.and_eq_true, beq_iff_eq] at hx
            obtain ⟨rfl, rfl⟩ := beq2_spec hx.1
            injection h with h
            subst h
            have hs := Asm.find_spec hG hx.2
            have dX : (0 : Int) < (X.den : Int) := by have := X.den_pos; omega
            have es : sgX.den E = cmpZ X.num 0 := by
              show cmpZ ((qv 2).1.den E) 0 = _
              rw [rx.1]
            have en : nX.den E = X.num - cmpZ X.num 0 := by
              show (qv 2).1.den E - sgX.den E = _
              rw [rx.1, es]
            have hne : cmpZ X.num 0 ≠ 0 := by
              have : (sgX.den E == 0) = false := hs
              rw [es, beq_eq_false_iff_ne] at this
              exact this
            have ry : RepQ E yX (Rat.divInt (X.num - cmpZ X.num 0) (X.den : Int)) := by
              constructor
              · show (Rat.divInt (nX.den E) ((qv 2).2.den E)).num = _
                rw [en, rx.2]
              · show ((Rat.divInt (nX.den E) ((qv 2).2.den E)).den : Int) = _
                rw [en, rx.2]
            have p2 := (one_pair.1 g2).1
            rw [ry.1, ry.2] at p2
            have hc := cmpZ_cases X.num 0
            have hno := S.none (n := X.num - cmpZ X.num 0) dX (by omega)
            have ln : Lim 99990 (X.num - cmpZ X.num 0) := lx.1.natAbs_le (by omega)
            have ly := divInt_lim ln lx.2 (by omega)
            refine (rbetween_calls w v1 v2 v3 a _ b p1 p2 p3 la ⟨ly.1.mono (by omega), ly.2.mono (by omega)⟩ lb).mono ?_
            rintro e w' ⟨rfl, ex⟩
            refine ⟨_, rfl, one_bool.2 ?_, ex⟩
            refine congrArg Value.bool (show _ = false from ?_)
            rw [Bool.and_eq_false_iff, decide_eq_false_iff_not, decide_eq_false_iff_not]
            by_cases hk : a < Rat.divInt (X.num - cmpZ X.num 0) (X.den : Int)
            · exact .inr (fun h => hno ⟨hk, h⟩)
            · exact .inl hk
          · cases h
      · cases h
    · cases h
  · intro args As r h x off
    unfold kBt at h
    split at h
    · split at h
      · split at h
        · injection h with h; subst h; intro e; cases e
        · split at h
          · injection h with h; subst h; intro e; cases e
          · cases h
      · cases h
    · cases h
theorem TabOK.app {P : Program} {E : Env} {l m : List (Nat × Con)} (h : TabOK P E l) (k : TabOK P E m) : TabOK P E (l ++ m) := ⟨fun p hp => by
  rcases List.mem_append.1 hp with hp | hp
  · exact h.all p hp
  · exact k.all p hp⟩
def rgT (t : IT) : Asm := [(.le (.lit (-9223372036854775808)) t, true), (.le t (.lit 9223372036854775807), true)]
def lwI : LInv where
  lk := [(2, .ptr 2 0), (3, .ptr 3 0), (5, .ptr 5 0), (7, .ptr 7 0), (4, .val false [.b (.lit false)]), (9, .val false [.n .i64 (.var 6)])]
  vr := [(2, [.int (.var 0) 6, .int (.var 1) 6]), (3, [.int (.var 2) 6, .int (.var 3) 6]), (5, [.int (.var 4) 8, .int (.var 5) 8]), (7, [.int (.var 4) 8, .int (.var 5) 8])]
  vs := [6]
  G := [(.le (.lit 0) (.var 6), true)] ++ rgT (.var 6) ++ rgT sgX ++ [(.eq (.var 6) (.lit 0), false)]
  lm := []
def tabLw : List (Nat × Con) := (6, kSpX true (qv 0) (qv 1)) :: (9, kSpX true (qv 0) (qv 1)) :: (10, kVlC) :: (11, kBt) :: (16, kFlR) :: (14, kFI) :: (tabR3 true ++ tabR1 ++ tabT)
def adX : IT2 := qop 2 (qv 0) (.var 6, .lit 1)
def nW : IT := .a2 0 (.a2 4 adX.1 adX.2) (.lit 1)
def yW : IT2 := (.a2 7 nW (.var 6), .a2 8 nW (.var 6))
def lwEnd : LTree := .ite (.eq sgX (.lit 0)) (.leaf [(false, [.b (.lit true)])]) (.leaf [(false, [.b (.lit true)])])
def lwTree : LTree :=
  .ite (.lt (.var 6) (.lit 300)) (.ite (.lt (qcmp (.var 6, .lit 1) (.var 5, .lit 1)) (.lit 0)) (.ite (.lt (qcmp yW (qv 1)) (.lit 0)) (.leaf [(false, [.b (.lit false)])]) (.again 0 [.a2 0 (.var 6) (.lit 1)])) lwEnd) lwEnd
def lE (a b X : Rat) (d : Int) : Env := qE [a, b, X, (d : Rat)]
def GoodL (a b X : Rat) (E : Env) : Prop := ∃ d : Int, E = lE a b X d
theorem lE_6 (a b X : Rat) (d : Int) : (lE a b X d).i 6 = d := by
  show ((d : Rat)).num = d
  exact Rat.num_intCast d
theorem lE_upd (a b X : Rat) (d e : Int) : (lE a b X d).upd [6] [e] = lE a b X e := by
  have h6 := lE_6 a b X e
  unfold Env.upd lE qE at *
  congr 1
  funext k
  by_cases hk : k = 6
  · subst hk
    simp only [updI, if_true, Option.getD_some]
    exact h6.symm
  · simp only [updI, if_neg hk, Option.getD_none]
    match k with
    | 0 | 1 | 2 | 3 | 4 | 5 => rfl
    | 7 =>
      show (((d : Rat)).den : Int) = (((e : Rat)).den : Int)
      rw [Rat.den_intCast, Rat.den_intCast]
    | k + 8 =>
      have e1 : (k + 8) / 2 = k / 2 + 4 := by omega
      simp [e1]
theorem lE_rep (a b X : Rat) (d : Int) : RepQ (lE a b X d) (qv 0) a ∧ RepQ (lE a b X d) (qv 1) b ∧ RepQ (lE a b X d) (qv 2) X := ⟨rep_v (i := 0), rep_v (i := 1), rep_v (i := 2)⟩
theorem lw_end {Good : Env → Prop} {K : Stk} {E : Env} : Run Good K lwEnd E 0 E [(false, [.b (.lit true)])] := by
  cases h : (BT.eq sgX (.lit 0)).den E with
  | true => exact .iteT h .leaf
  | false => exact .iteF h .leaf
theorem lw_enter {a b X : Rat} {d : Int} (h1 : 1 ≤ d) (h2 : d ≤ 300) : lwI.G.holds (lE a b X d) := by
  have h6 := lE_6 a b X d
  have hx : sgX.den (lE a b X d) = cmpZ X.num 0 := rfl
  have hc := cmpZ_cases X.num 0
  intro p hp
  simp only [lwI, rgT, List.mem_append, List.mem_cons, List.not_mem_nil, or_false] at hp
  rcases hp with ((rfl | rfl | rfl) | rfl | rfl) | rfl
  · show decide (0 ≤ (lE a b X d).i 6) = true
    rw [h6, decide_eq_true_iff]; omega
  · show decide (-9223372036854775808 ≤ (lE a b X d).i 6) = true
    rw [h6, decide_eq_true_iff]; omega
  · show decide ((lE a b X d).i 6 ≤ 9223372036854775807) = true
    rw [h6, decide_eq_true_iff]; omega
  · show decide (-9223372036854775808 ≤ sgX.den (lE a b X d)) = true
    rw [hx, decide_eq_true_iff]; omega
  · show decide (sgX.den (lE a b X d) ≤ 9223372036854775807) = true
    rw [hx, decide_eq_true_iff]; omega
  · show ((lE a b X d).i 6 == 0) = false
    rw [h6, beq_eq_false_iff_ne]; omega
theorem lw_run {a b X : Rat} (S : Simplest a b X) : ∀ (k : Nat) (d : Int), 1 ≤ d → d ≤ 300 → 300 - d ≤ (k : Int) →
    ∃ m E', Run (GoodL a b X) (noStk.set 0 (lwI, lwTree)) lwTree (lE a b X d) m E' [(false, [.b (.lit true)])] := by
  intro k
  induction k with
  | zero =>
    intro d h1 h2 h3
    have hd : d = 300 := by have : ((0 : Nat) : Int) = 0 := rfl; omega
    refine ⟨0, _, .iteF ?_ lw_end⟩
    show decide ((lE a b X d).i 6 < 300) = false
    rw [lE_6, decide_eq_false_iff_not]; omega
  | succ k ih =>
    intro d h1 h2 h3
    by_cases hd : d < 300
    · obtain ⟨ra, rb, rx⟩ := lE_rep a b X d
      have rd : RepQ (lE a b X d) (.var 6, .lit 1) (d : Rat) := rep_int (lE_6 a b X d)
      have rX : RepQ (lE a b X d) (.var 5, .lit 1) ((X.den : Int) : Rat) := rep_int rx.2
      have t1 : (BT.lt (.var 6) (.lit 300)).den (lE a b X d) = true := by
        show decide ((lE a b X d).i 6 < 300) = true
        rw [lE_6, decide_eq_true_iff]; exact hd
      have key : ∀ (p q : IT2) (c e : Rat), RepQ (lE a b X d) p c → RepQ (lE a b X d) q e → (BT.lt (qcmp p q) (.lit 0)).den (lE a b X d) = decide (c < e) := by
        intro p q c e hp hq
        show decide ((qcmp p q).den (lE a b X d) < 0) = _
        rw [rep_cmp hp hq]
        rcases sgQ_cases (c - e) with ⟨k, e⟩ | ⟨k, e⟩ | ⟨k, e⟩ <;> rw [e]
        · rw [decide_eq_true (by decide), decide_eq_true (by grind)]
        · rw [decide_eq_false (by decide), decide_eq_false (by grind)]
        · rw [decide_eq_false (by decide), decide_eq_false (by grind)]
      have t2 := key _ _ _ _ rd rX
      by_cases hx : d < (X.den : Int)
      · rw [decide_eq_true (Rat.intCast_lt_intCast.2 hx)] at t2
        have rad : RepQ (lE a b X d) adX (a * (d : Rat)) := rep_op (f := 2) (by omega) ra rd
        have hden : (0 : Int) < ((a * (d : Rat)).den : Int) := by have := (a * (d : Rat)).den_pos; omega
        have en : nW.den (lE a b X d) = (a * (d : Rat)).floor + 1 := by
          show dq (adX.1.den _) (adX.2.den _) + 1 = _
          rw [rad.1, rad.2, dq_pos hden, ← Rat.floor_def]
        have ry : RepQ (lE a b X d) yW (Rat.divInt ((a * (d : Rat)).floor + 1) d) := by
          constructor
          · show (Rat.divInt (nW.den _) ((lE a b X d).i 6)).num = _
            rw [en, lE_6]
          · show ((Rat.divInt (nW.den _) ((lE a b X d).i 6)).den : Int) = _
            rw [en, lE_6]
        have t3 := key _ _ _ _ ry rb
        have hlo : a < Rat.divInt ((a * (d : Rat)).floor + 1) d := by
          rw [lt_divInt (by omega)]
          have h := Rat.lt_floor_add_one (a * (d : Rat))
          have e1 : a * (d : Rat) = Rat.divInt (a.num * d) (a.den : Int) := by
            have : Rat.divInt a.num (a.den : Int) * Rat.divInt d 1 = a * (d : Rat) := by rw [Rat.num_divInt_den, ← intCast_divInt]
            rw [← this, Rat.divInt_mul_divInt, Int.mul_one]
          generalize (a * (d : Rat)).floor + 1 = n at *
          rw [e1, divInt_lt (by have := a.den_pos; omega), Rat.den_intCast, Rat.num_intCast] at h
          have e2 : ((1 : Nat) : Int) = 1 := rfl
          rw [e2, Int.mul_one] at h
          exact h
        have hno : ¬ Rat.divInt ((a * (d : Rat)).floor + 1) d < b := fun h => S.none (n := (a * (d : Rat)).floor + 1) (d := d) (by omega) (by omega) ⟨hlo, h⟩
        rw [decide_eq_false hno] at t3
        obtain ⟨m, E', hR⟩ := ih (d + 1) (by omega) (by omega) (by omega)
        have hval : [IT.a2 0 (.var 6) (.lit 1)].map (IT.den (lE a b X d)) = [d + 1] := by
          show [(lE a b X d).i 6 + 1] = _
          rw [lE_6]
        have hup : (lE a b X d).upd lwI.vs ([IT.a2 0 (.var 6) (.lit 1)].map (IT.den (lE a b X d))) = lE a b X (d + 1) := by rw [hval]; exact lE_upd a b X d (d + 1)
        refine ⟨m + 1, E', .iteT t1 (.iteT t2 (.iteF t3 (.again (I := lwI) (T := lwTree) (by simp [Stk.set]) ⟨?_, ?_, ?_⟩ ?_)))⟩
        · rw [hup]; exact lw_enter (by omega) (by omega)
        · rw [hup]; exact ⟨d + 1, rfl⟩
        · intro p hp; simp [lwI] at hp
        · rw [hup]; exact hR
      · rw [decide_eq_false (fun h => hx (Rat.intCast_lt_intCast.1 h))] at t2
        exact ⟨0, _, .iteT t1 (.iteF t2 lw_end)⟩
    · refine ⟨0, _, .iteF ?_ lw_end⟩
      show decide ((lE a b X d).i 6 < 300) = false
      rw [lE_6, decide_eq_false_iff_not]; exact hd
theorem rep_at {E : Env} {i : Nat} {q : Rat} (h1 : E.i (2 * i) = q.num) (h2 : E.i (2 * i + 1) = (q.den : Int)) : RepQ E (qv i) q := ⟨h1, h2⟩
theorem simV_lim {a b : Rat} (l1 : LimQ 6 a) (l2 : LimQ 6 b) (hlt : a < b) : LimQ 8 (simV a b) := by
  unfold simV
  by_cases h0 : 0 ≤ a.num
  · rw [if_pos h0]
    have := simP_lim l1 l2 h0 hlt
    exact ⟨this.1.mono (by omega), this.2.mono (by omega)⟩
  · rw [if_neg h0]
    by_cases hb : b.num ≤ 0
    · rw [if_pos hb]
      have := limQ_neg (simP_lim (limQ_neg l2) (limQ_neg l1) (by rw [Rat.neg_num]; omega) (by grind))
      exact ⟨this.1.mono (by omega), this.2.mono (by omega)⟩
    · rw [if_neg hb]
      exact ⟨lim_zero, (lim1 (z := 1) (by decide)).mono (by omega)⟩
theorem tabLw_ok {a b : Rat} (hlt : a < b) (l1 : LimQ 6 a) (l2 : LimQ 6 b) {E : Env} (hE : GoodL a b (simV a b) E) : TabOK Tryz.prog E tabLw := by
  obtain ⟨d, rfl⟩ := hE
  have hq : QEnv (lE a b (simV a b) d) := qE_ok _
  obtain ⟨ra, rb, rx⟩ := lE_rep a b (simV a b) d
  have l8 := simV_lim l1 l2 hlt
  refine .cons (kSpG_ok (tup := true) ra rb rx l8 ?_ ⟨_, Tryz.func6, by decide +kernel, by kernel_rfl⟩) (.cons (kSpG_ok (tup := true) ra rb rx l8 ?_ ⟨_, Tryz.func9, by decide +kernel, by kernel_rfl⟩)
    (.cons (kVlR_ok hq) (.cons (kBt_ok ra rb rx (simV_spec hlt) ⟨l1.1.mono (by omega), l1.2.mono (by omega)⟩ ⟨l2.1.mono (by omega), l2.2.mono (by omega)⟩ ⟨l8.1.mono (by omega), l8.2.mono (by omega)⟩) (.cons (kFlR_ok hq) (.cons kFI_ok
      (TabOK.app (TabOK.app (tabR3_ok (fun _ => hq)) tabR1_ok) (tabT_ok hq)))))))
  · intro w v u hv hu
    by_cases h0 : 0 ≤ a.num
    · exact (prog_sim_pos w v u a b hv hu l1 l2 h0 hlt).mono (fun e w' ⟨x, e1, e2, e3⟩ => ⟨x, e1, e2, e3⟩)
    · by_cases hb : b.num ≤ 0
      · exact (prog_sim_neg w v u a b hv hu l1 l2 h0 hb hlt (by rw [Rat.neg_num]; omega) (by grind)).mono (fun e w' ⟨x, e1, e2, e3⟩ => ⟨x, e1, e2, e3⟩)
      · exact (prog_sim_zero w v u a b hv hu l1 l2 h0 hb hlt).mono (fun e w' ⟨x, e1, e2, e3⟩ => ⟨x, e1, e2, e3⟩)
  · intro w v u hv hu
    by_cases h0 : 0 ≤ a.num
    · have hb0 : 0 < b.num := by
        have hltI := (Rat.lt_iff a b).1 hlt
        have e1 : 0 ≤ a.num * (b.den : Int) := Int.mul_nonneg h0 (by omega)
        exact pos_of_mul (show 0 < b.num * (a.den : Int) by omega) (by have := a.den_pos; omega)
      exact (ref_sim_pos w v u a b hv hu l1 l2 h0 hb0 hlt).mono (fun e w' ⟨x, e1, e2, e3⟩ => ⟨x, e1, e2, e3⟩)
    · by_cases hb : b.num ≤ 0
      · exact (ref_sim_neg w v u a b hv hu l1 l2 h0 hb hlt (by rw [Rat.neg_num]; omega) (by rw [Rat.neg_num]; omega) (by grind)).mono (fun e w' ⟨x, e1, e2, e3⟩ => ⟨x, e1, e2, e3⟩)
      · exact (ref_sim_zero w v u a b hv hu l1 l2 h0 hb hlt).mono (fun e w' ⟨x, e1, e2, e3⟩ => ⟨x, e1, e2, e3⟩)
def kSpBad : Con
  | [.val true [.int x _, .int y _], .val true [.int z _, .int t _]], _ => if beq2 x y (qv 0) && beq2 z t (qv 1) then some (.tup [(true, [.int (.lit 0) 0, .int (.lit 0) 0]), (false, [.n .i64 (.lit 1)])]) else none
  | _, _ => none
theorem kSpBad_ok {a b : Rat} (hlt : ¬ a < b) (l1 : LimQ 6 a) (l2 : LimQ 6 b) : ConOK Tryz.prog (qE [a, b]) 6 kSpBad := by
  have ra : RepQ (qE [a, b]) (qv 0) a := rep_v (i := 0)
  have rb : RepQ (qE [a, b]) (qv 1) b := rep_v (i := 1)
  refine ⟨?_, ?_, ⟨_, Tryz.func6, by decide +kernel, by kernel_rfl⟩⟩
  · intro args As r h hG β w vs hv hlen
    unfold kSpBad at h
    split at h
    · split at h
      · rename_i x l y m z k t j hm
        rw [Bool.and_eq_true] at hm
        obtain ⟨rfl, rfl⟩ := beq2_spec hm.1
        obtain ⟨rfl, rfl⟩ := beq2_spec hm.2
        injection h with h
        subst h
        obtain ⟨v, u, rfl, h1, h2⟩ := args2 hv hlen
        have p1 := (one_pair.1 h1).1
        have p2 := (one_pair.1 h2).1
        rw [ra.1, ra.2] at p1
        rw [rb.1, rb.2] at p2
        refine (prog_sim_bad w v u a b p1 p2 l1 l2 hlt).mono ?_
        rintro e w' ⟨x, rfl, hp, ex⟩
        exact ⟨_, rfl, ⟨[x, .int .i64 1], rfl, x, _, rfl, one_pair.2 ⟨hp, lim_zero, lim_zero⟩, _, _, rfl, one_num.2 rfl, rfl⟩, ex⟩
      · cases h
    · cases h
  · intro args As r h x off
    unfold kSpBad at h
    split at h
    · split at h
      · injection h with h; subst h; intro e; cases e
      · cases h
    · cases h
theorem smT_at2 {E : Env} {a b : Rat} (e0 : E.i 0 = a.num) (e1 : E.i 1 = (a.den : Int)) (e2 : E.i 2 = b.num) (e3 : E.i 3 = (b.den : Int)) (ha : smOf a) (hb : smOf b) : SmOK E (smT 2) := by
  intro cs off c h w bl hv
  have h' := h
  unfold smT at h'
  split at h'
  · rename_i hbb
    simp only [Bool.and_eq_true, beq_iff_eq] at hbb
    obtain ⟨k1, k2, rfl⟩ := hbb
    have hcs := isVars_spec k1
    rw [k2] at hcs
    have hcs' : cs = [.int (.var 0) 6, .int (.var 1) 6, .int (.var 2) 6, .int (.var 3) 6] := hcs
    subst hcs'
    refine smT_ok2 ha hb _ _ c h w bl ?_
    obtain ⟨vs, hc, hcell⟩ := hv
    refine ⟨vs, ?_, hcell⟩
    have conv : ∀ (k l : Nat) (us : List Value), E.i k = (qE [a, b]).i k → (Chunk.int (.var k) l).holds E w us → (Chunk.int (.var k) l).holds (qE [a, b]) w us := by
      rintro k l us he ⟨x, y, hu, hI, hl⟩
      have he' : (IT.var k).den E = (IT.var k).den (qE [a, b]) := he
      exact ⟨x, y, hu, by rw [← he']; exact hI, by rw [← he']; exact hl⟩
    obtain ⟨u0, r0, rfl, c0, u1, r1, rfl, c1, u2, r2, rfl, c2, u3, r3, rfl, c3, hn⟩ := hc
    exact ⟨u0, _, rfl, conv 0 _ _ e0 c0, u1, _, rfl, conv 1 _ _ e1 c1, u2, _, rfl, conv 2 _ _ e2 c2, u3, r3, rfl, conv 3 _ _ e3 c3, hn⟩
  · cases h'
theorem simLaw_valid {W : World → Prop} (haw : Awake W) (w : World) (hW : ∀ w', Ext w w' → W w') (v1 v2 : Value) (a b : Rat) (h1 : IsRat w v1 a) (h2 : IsRat w v2 b) (l1 : LimQ 6 a) (l2 : LimQ 6 b) :
    Calls Tryz.prog 3 #[v1, v2] w (IsTrue w) := by
  have ma := smQ_of l1 h1
  have mb := smQ_of l2 h2
  by_cases hlt : a < b
  · have S := simV_spec hlt
    obtain ⟨m, E', hR⟩ := lw_run S 300 1 (by omega) (by omega) (by omega)
    have hval : [IT.lit 1].map (IT.den (lE a b (simV a b) 1)) = [1] := rfl
    have hup : (lE a b (simV a b) 1).upd lwI.vs ([IT.lit 1].map (IT.den (lE a b (simV a b) 1))) = lE a b (simV a b) 1 := by rw [hval]; exact lE_upd a b (simV a b) 1 1
    have hG : Asm.holds (lE a b (simV a b) 1) (cmpG false :: rgT sgX) := by
      intro p hp
      rcases List.mem_cons.1 hp with rfl | hp
      · exact cmpG_ok.trans (decide_eq_false (fun h => h hlt))
      · exact lw_enter (a := a) (b := b) (X := simV a b) (d := 1) (by omega) (by omega) p (by
          simp only [lwI, List.mem_append]
          exact .inl (.inr hp))
    refine (loops_sound (Good := GoodL a b (simV a b)) (C := cfgL W tabLw (smT 2)) (L := fun _ => some lwI) (E := lE a b (simV a b) 1) (G := cmpG false :: rgT sgX) (args := [argS 0, argS 1]) (T := .loop 0 lwI [.lit 1] lwTree) (l := [(false, [.b (.lit true)])]) (E' := E') (m := m)
      mixed (fun E hE => by
        obtain ⟨d, rfl⟩ := hE
        exact cfgL_ok (tabLw_ok hlt l1 l2 ⟨d, rfl⟩) haw (smT_at2 rfl rfl rfl rfl ma mb)) hG ⟨1, rfl⟩ Tryz.func3 (by decide +kernel) (by kernel_rfl) (by decide +kernel) rfl ?_ w [v1, v2] rfl (args2S h1 h2 l1 l2 rfl rfl rfl rfl) hW).mono ?_
    · refine .loop ⟨?_, ?_, ?_⟩ ?_
      · rw [hup]; exact lw_enter (by omega) (by omega)
      · rw [hup]; exact ⟨1, rfl⟩
      · intro p hp; simp [lwI] at hp
      · rw [hup]; exact hR
    · rintro e w' ⟨β, u, rfl, hh, ex⟩
      have := one_bool.1 hh
      subst this
      exact ⟨rfl, ex⟩
  · refine (fun_sound (C := cfgL W ((6, kSpBad) :: tabT) (smT 2)) (E := qE [a, b]) (G := [cmpG true]) (args := [argS 0, argS 1]) (T := .leaf [(false, [.b (.and (.eq (.lit 0) (.lit 0)) (.eq (.lit 0) (.lit 0)))])])
      mixed (cfgL_ok (.cons (kSpBad_ok hlt l1 l2) (tabT_ok (qE_ok _))) haw (smT_ok2 ma mb)) ?_ Tryz.func3 (by decide +kernel) (by kernel_rfl) (by decide +kernel) rfl w [v1, v2] rfl (args2S h1 h2 l1 l2 rfl rfl rfl rfl) hW).mono ?_
    · intro p hp
      simp only [List.mem_cons, List.not_mem_nil, or_false] at hp
      subst hp
      exact cmpG_ok.trans (decide_eq_true hlt)
    · rintro e w' ⟨β, u, rfl, hh, ex⟩
      have := one_bool.1 hh
      subst this
      exact ⟨rfl, ex⟩
theorem simLaw_calls {W : World → Prop} (haw : Awake W) (w : World) (hW : ∀ w', Ext w w' → W w') (v1 v2 : Value) (s1 s2 t1 t2 : Bool) (xs1 xs2 ys1 ys2 : List Nat) (h1 : RawQ w v1 s1 xs1 s2 xs2) (h2 : RawQ w v2 t1 ys1 t2 ys2) :
    Calls Tryz.prog 3 #[v1, v2] w (IsTrue w) :=
  law2_any Tryz.func3 (by decide +kernel) (by kernel_rfl) (by decide +kernel) haw w hW v1 v2 s1 s2 t1 t2 xs1 xs2 ys1 ys2 h1 h2 (fun a b i1 i2 m1 m2 => simLaw_valid haw w hW v1 v2 a b i1 i2 m1 m2)
end Go.Proofs.YtdblkeeicmncfaaGreatDoor
end

/- ---- SimplestCard ---- -/
section
/-
  The tied card RationalSimplestCardSaid: for every input the call returns true, and each argument reads behind the call as it read before.
-/
namespace Go.Proofs.YtdblkeeicmncfaaGreatDoor.lawSimplest
open Go.ChangeShapes Go.WideShapes Go.ChangeAt Go.RowKit
open Go.ChangeMaps (open_string shut_string)

set_option maxRecDepth 100000 in
theorem lifted (os : Os) (started : os.Started) (H : Type) (enc : TypeId × Value → H) :
    ReturnsInHanded {} Tryz.checked os 3 .any (fun w args => (Rows.rationalSimplestSpec.pre enc Tryz.prog Tryz.f3 [] false w args ∧ laidMetH Tryz.prog laidL w) ∧ sizedMet enc Tryz.prog Tryz.f3 (OpenSpec.ofChange Rows.rationalSimplestSpec) false w args)
      (Rows.rationalSimplestSpec.post enc Tryz.prog Tryz.f3 false true false false) := by
  refine handed_laid (C := Tryz.checked) own started (by kernel_rfl) Tryz.func3
    (ChangeSpec.witness_shaped (enc := enc) (C := Tryz.checked) (os := os) (X := fun w _ => laidMetH Tryz.prog laidL w) false (World.doorLaid Tryz.prog 24 os) #[.agg #[.bool false, .slice none 0 0, .bool false, .slice none 0 0], .agg #[.bool false, .slice none 0 0, .bool false, .slice none 0 0]] 8 rfl (World.shaped_of_RefB (by kernel_rfl) (by kernel_rfl)) (by kernel_rfl) (by kernel_rfl) (by kernel_rfl) (door_met os _)) ?_
  intro W base args ds gs before hval0 hW _ hL hsh
  have hWQ : WQ W := WQ.laid hL hsh
  have hval : ∀ (j : Nat) t v, Tryz.f3.params[j]? = some t → args[j]? = some v → Value.okWide Tryz.prog W .any base t v := hval0
  have hW' := hW
  obtain ⟨p, q, hA0, hV, rfl, hfz, hnd⟩ := hW
  have hA : DataW.TrodAll enc Tryz.prog W 0 (fun _ => true) true Tryz.f3.params.toList args.toList ds p := hA0
  rw [Tryz.params3] at hA hval
  obtain ⟨v0, vs0, d0, ds0, p0, q0, hargs, rfl, rfl, h0, r0⟩ := trodAll_cons hA
  obtain ⟨v1, vs1, d1, ds1, p1, q1, rfl, rfl, rfl, h1, r1⟩ := trodAll_cons r0
  obtain ⟨rfl, rfl, rfl⟩ := trodAll_nil r1
  obtain rfl : args = #[v0, v1] := by cases args; simp_all
  obtain ⟨rfl, rfl⟩ := trodVars_none hV
  have k0 := h0
  have lt0 : ∀ x ∈ p0, x.block < W.heap.size := by obtain ⟨m, hm⟩ := k0; exact DataW.trod_lt m _ _ _ hm
  obtain ⟨s0, x0, t0, y0, w0⟩ := open_q (hval 0 26 v0 rfl rfl) h0
  have k1 := h1
  have lt1 : ∀ x ∈ p1, x.block < W.heap.size := by obtain ⟨m, hm⟩ := k1; exact DataW.trod_lt m _ _ _ hm
  obtain ⟨s1, x1, t1, y1, w1⟩ := open_q (hval 1 26 v1 rfl rfl) h1
  clear hA0 hval0
  refine (simLaw_calls awake_ok W (fun w' e => hWQ.ext e) v0 v1 s0 t0 s1 t1 x0 y0 x1 y1 w0 w1).mono fun e W' ⟨he, bel⟩ => ?_
  subst he
  exact ⟨_, rfl, _, _, _, [], _, [], hW', trodAll_mk1 (shut_bool Tryz.underlying4 _), (trodAll_cons_mk (Below.trod laidOut (by kernel_rfl) (of_decide_eq_true (by kernel_rfl)) k0 bel lt0) (trodAll_cons_mk (Below.trod laidOut (by kernel_rfl) (of_decide_eq_true (by kernel_rfl)) k1 bel lt1) trodAll_mk0)), rfl, bel.frame _, fun h => by cases h⟩

theorem over : Rows.RationalSimplestSaid :=
  OpenClaim.holds_of_wide 3 Tryz.f3 rfl rfl rfl rfl rfl rfl rfl ⟨rfl, rfl, rfl, rfl, rfl⟩ rfl rfl rfl rfl rfl (by kernel_rfl) Tryz.func3 (by kernel_rfl)
    (of_decide_eq_true (by kernel_rfl)) (by unfold Func.isWrapper; first | (rw [if_pos (by decide +kernel)]; kernel_rfl) | (rw [if_neg (by decide +kernel)]; exact ⟨rfl, rfl⟩))
    (fun os started H enc _ => lifted os started H enc)

theorem proved : Rows.RationalSimplestCardSaid :=
  Claim7.holds_tied_plain_at .later [] [.data, .data, .data] true (true, "fef47e4fde9a6c075d7fb38409a68468f15865168cd1e4855e7821a930184add") false
    over (fun _ h => by cases h) (by kernel_rfl) (fun _ h => by cases h) rationalSimplest_row_tie rfl ⟨rfl, rfl⟩ (by kernel_rfl) rfl
    (fun f fn hf hfn => by
      obtain rfl : f = 3 := Option.some.inj ((show Tryz.prog.funcNamed "swarf/swarflaw02.RationalSimplest" = some 3 by kernel_rfl).symm.trans hf) |>.symm
      obtain rfl : fn = Tryz.f3 := (Option.some.inj (Tryz.func3.symm.trans hfn)).symm
      exact ⟨by kernel_rfl, fun j t ht => by
        rw [Tryz.params3] at ht
        have hm : t ∈ [26, 26] := by simpa using Array.mem_of_getElem? ht
        have hall : ([26, 26].all fun u => !Tryz.prog.wantsStandIn u) = true := by kernel_rfl
        exact (show Tryz.prog.wantsStandIn t = false by simpa using List.all_eq_true.1 hall t hm)⟩)
    (by kernel_rfl)
end Go.Proofs.YtdblkeeicmncfaaGreatDoor.lawSimplest
end
