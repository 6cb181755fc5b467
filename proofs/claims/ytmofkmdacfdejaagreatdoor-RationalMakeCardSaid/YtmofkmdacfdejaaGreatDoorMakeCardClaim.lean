/-
  Texts of this seat, joined.
-/
import Derived.Test.YtmofkmdacfdejaaGreatDoorJ7
import Derived.Test.YtmofkmdacfdejaaGreatDoorTie
import Derived.Test.YtmofkmdacfdejaaGreatDoorCards
import Derived.SevenTiedAt
/- ---- Rfa ---- -/
section
/-
  Sign and Cmp of the reference; small on rows of one and of three; what the laws of one and of three numbers share.
-/
set_option maxRecDepth 100000
namespace Go.Proofs.YtmofkmdacfdejaaGreatDoor
open Go.RowKit

theorem rsign_rat_calls (w : World) (v1 : Value) (n d : Int) (h1 : IsPair w v1 n d) (l1 : Lim 100000 n) (l1' : Lim 100000 d) : Calls Tryz.prog 35 #[v1] w fun e w' => e = .returned (.int .i64 (cmpZ n 0)) ∧ Ext w w' := by
  refine (fun_sound (E := zE [n, d]) (args := [argQ 0]) (T := .leaf [(false, [.n .i64 (.a2 3 (.var 0) (.lit 0))])])
    mixed (cfg_ok (.cons (kIn_ok (f := 63) (g := fun x => .a2 3 x (.lit 0)) (fun x => cmpZ x 0) (fun _ => rfl) (fun w v z h => rsign_calls w v z h) ⟨_, Tryz.func63, by decide +kernel, by kernel_rfl⟩) .nil))
    no_asm Tryz.func35 (by decide +kernel) (by kernel_rfl) (by decide +kernel) rfl w [v1] rfl ?_).mono ?_
  · intro i x hx
    match i, hx with
    | 0, hx => injection hx with hx; subst hx; exact ⟨fun _ => 0, v1, rfl, argP_holds h1 l1 l1' rfl rfl⟩
  · rintro e w' ⟨β, v, rfl, hh, ex⟩
    have := one_num.1 hh
    subst this
    exact ⟨rfl, ex⟩
theorem kSgF_ok {E : Env} {f : Nat} (hc : ∀ (w : World) (v1 : Value) (n d : Int), IsPair w v1 n d → Lim 100000 n → Lim 100000 d → Calls Tryz.prog f #[v1] w fun e w' => e = .returned (.int .i64 (cmpZ n 0)) ∧ Ext w w')
    (hb : ∃ fn, Tryz.prog.funcs[f]? = some fn ∧ fn.name ≠ "runtime.NumGoroutine" ∧ fn.body.isNone = false) : ConOK Tryz.prog E f kSg := by
  refine ⟨?_, ?_, hb⟩
  · intro args As r h hG β w vs hv hlen
    unfold kSg at h
    split at h
    · split at h
      · rename_i hlo
        injection h with h
        subst h
        simp only [Bool.and_eq_true, decide_eq_true_iff] at hlo
        obtain ⟨v, rfl, h1⟩ := args1 hv hlen
        obtain ⟨p1, a1, a2⟩ := one_pair.1 h1
        refine (hc w v _ _ p1 (a1.mono hlo.1) (a2.mono hlo.2)).mono ?_
        rintro e w' ⟨rfl, ex⟩
        exact ⟨_, rfl, one_num.2 rfl, ex⟩
      · cases h
    · cases h
  · intro args As r h x off
    unfold kSg at h
    split at h
    · split at h
      · injection h with h; subst h; intro e; cases e
      · cases h
    · cases h
theorem rcmp_rat_calls (w : World) (v1 v2 : Value) (a b : Rat) (h1 : IsRat w v1 a) (h2 : IsRat w v2 b) (l1 : LimQ 100000 a) (l2 : LimQ 100000 b) :
    Calls Tryz.prog 37 #[v1, v2] w fun e w' => e = .returned (.int .i64 (cmpZ (a.num * (b.den : Int)) (b.num * (a.den : Int)))) ∧ Ext w w' := by
  refine (walkQ2 (T := .leaf [(false, [.n .i64 (.a2 3 (.a2 2 (.var 0) (.var 3)) (.a2 2 (.var 2) (.var 1)))])])
    (tab := (79, kIIn (.a2 3)) :: tabR3 true)
    (.cons (kIIn_ok cmpZ (fun _ _ => rfl) (fun w v1 v2 z1 z2 h1 h2 => rcmp_calls w v1 v2 z1 z2 h1 h2) ⟨_, Tryz.func79, by decide +kernel, by kernel_rfl⟩) (tabR3_ok (q := true) (fun _ => qE_ok _)))
    Tryz.func37 (by kernel_rfl) (by decide +kernel) (by decide +kernel) h1 h2 l1 l2).mono ?_
  rintro e w' ⟨β, v, rfl, hh, ex⟩
  have := one_num.1 hh
  subst this
  exact ⟨rfl, ex⟩
def tabT : List (Nat × Con) := (35, kSg) :: (38, kSg) :: (37, kCmpQ) :: (36, kCmpQ) :: tabQ
theorem tabT_ok {E : Env} (hE : QEnv E) : TabOK Tryz.prog E tabT :=
  .cons (kSgF_ok (fun w v1 n d h l m => rsign_rat_calls w v1 n d h l m) ⟨_, Tryz.func35, by decide +kernel, by kernel_rfl⟩)
    (.cons kSg_ok (.cons (kCmpQ_ok hE (fun w v1 v2 a b h1 h2 l1 l2 => rcmp_rat_calls w v1 v2 a b h1 h2 l1 l2) ⟨_, Tryz.func37, by decide +kernel, by kernel_rfl⟩)
      (.cons (kCmpQ_ok hE (fun w v1 v2 a b h1 h2 l1 l2 => cmp_rat_calls w v1 v2 a b h1 h2 l1 l2) ⟨_, Tryz.func36, by decide +kernel, by kernel_rfl⟩) (tabQ_ok hE))))

def smOf (a : Rat) : Prop := smQ (decide (a.num < 0)) (limbs a.num.natAbs) (decide ((a.den : Int) < 0)) (limbs (a.den : Int).natAbs) = true
theorem smT_ok1 {a : Rat} (ha : smOf a) : SmOK (qE [a]) (smT 1) := by
  intro cs off c h w bl hv
  unfold smT at h
  split at h
  · rename_i hbb
    injection h with h
    subst h
    simp only [Bool.and_eq_true, beq_iff_eq] at hbb
    obtain ⟨h1, h2, rfl⟩ := hbb
    have hcs := isVars_spec h1
    rw [h2] at hcs
    have hcs' : cs = [.int (.var 0) 6, .int (.var 1) 6] := hcs
    subst hcs'
    have hv' : VarAt (bE smQ (rawOf a)) w bl (rowC 1) := by
      obtain ⟨vs, hc, hcell⟩ := hv
      refine ⟨vs, ?_, hcell⟩
      obtain ⟨l1, r1, rfl, c1, l2, r2, rfl, c2, hn⟩ := hc
      exact ⟨l1, _, rfl, int_chunk c1 rfl, l2, r2, rfl, int_chunk c2 rfl, hn⟩
    refine (small_row1 (bE_sm _) w bl hv').mono ?_
    rintro e w' ⟨c, rfl, hc, ex⟩
    have : c = true := hc.2 (fun i hi => by
      match i, hi with
      | 0, _ => exact ha)
    subst this
    exact ⟨rfl, ex⟩
  · cases h
theorem smT_ok3 {a b d : Rat} (ha : smOf a) (hb : smOf b) (hd : smOf d) : SmOK (qE [a, b, d]) (smT 3) := by
  intro cs off c h w bl hv
  unfold smT at h
  split at h
  · rename_i hbb
    injection h with h
    subst h
    simp only [Bool.and_eq_true, beq_iff_eq] at hbb
    obtain ⟨h1, h2, rfl⟩ := hbb
    have hcs := isVars_spec h1
    rw [h2] at hcs
    have hcs' : cs = [.int (.var 0) 6, .int (.var 1) 6, .int (.var 2) 6, .int (.var 3) 6, .int (.var 4) 6, .int (.var 5) 6] := hcs
    subst hcs'
    have hv' : VarAt (bE smQ (rawOf a ++ rawOf b ++ rawOf d)) w bl (rowC 3) := by
      obtain ⟨vs, hc, hcell⟩ := hv
      refine ⟨vs, ?_, hcell⟩
      obtain ⟨l1, r1, rfl, c1, l2, r2, rfl, c2, l3, r3, rfl, c3, l4, r4, rfl, c4, l5, r5, rfl, c5, l6, r6, rfl, c6, hn⟩ := hc
      exact ⟨l1, _, rfl, int_chunk c1 rfl, l2, _, rfl, int_chunk c2 rfl, l3, _, rfl, int_chunk c3 rfl, l4, _, rfl, int_chunk c4 rfl, l5, _, rfl, int_chunk c5 rfl, l6, r6, rfl, int_chunk c6 rfl, hn⟩
    refine (small_row3 (bE_sm _) w bl hv').mono ?_
    rintro e w' ⟨c, rfl, hc, ex⟩
    have : c = true := hc.2 (fun i hi => by
      match i, hi with
      | 0, _ => exact ha
      | 1, _ => exact hb
      | 2, _ => exact hd)
    subst this
    exact ⟨rfl, ex⟩
  · cases h
theorem smF_ok1 {l : List (Bool × List Nat)} (hn : ¬ ∀ i, i < 1 → (bE smQ l).b i = true) : SmOK (bE smQ l) (smF 1) := by
  intro cs off c h w b hv
  unfold smF at h
  split at h
  · rename_i hb
    injection h with h
    subst h
    simp only [Bool.and_eq_true, beq_iff_eq] at hb
    obtain ⟨h1, h2, rfl⟩ := hb
    have hcs := isRaw_spec h1
    rw [h2] at hcs
    have hcs' : cs = rowC 1 := hcs
    subst hcs'
    refine (small_row1 (bE_sm l) w b hv).mono ?_
    rintro e w' ⟨c, rfl, hc, ex⟩
    have : c = false := by
      cases c with
      | false => rfl
      | true => exact absurd (hc.1 rfl) hn
    subst this
    exact ⟨rfl, ex⟩
  · cases h
theorem smF_ok3 {l : List (Bool × List Nat)} (hn : ¬ ∀ i, i < 3 → (bE smQ l).b i = true) : SmOK (bE smQ l) (smF 3) := by
  intro cs off c h w b hv
  unfold smF at h
  split at h
  · rename_i hb
    injection h with h
    subst h
    simp only [Bool.and_eq_true, beq_iff_eq] at hb
    obtain ⟨h1, h2, rfl⟩ := hb
    have hcs := isRaw_spec h1
    rw [h2] at hcs
    have hcs' : cs = rowC 3 := hcs
    subst hcs'
    refine (small_row3 (bE_sm l) w b hv).mono ?_
    rintro e w' ⟨c, rfl, hc, ex⟩
    have : c = false := by
      cases c with
      | false => rfl
      | true => exact absurd (hc.1 rfl) hn
    subst this
    exact ⟨rfl, ex⟩
  · cases h
/-- A law of one number, of two, of three numbers: small numbers, or others. -/
def IsTrue (w : World) (e : Ending) (w' : World) : Prop := e = .returned (.bool true) ∧ Ext w w'
theorem law1_any {f : Nat} {fn : Func} {W : World → Prop} (hf : Tryz.prog.funcs[f]? = some fn) (h4 : fn.results.toList.length ≤ 4) (hR : funE (cfgL W [] (smF 1)) fn [] [argRaw 0 1] = some (.leaf [(false, [.b (.lit true)])])) (hn : 1 ≤ fn.ntmps)
    (haw : Awake W) (w : World) (hW : ∀ w', Ext w w' → W w') (v1 : Value) (s1 s2 : Bool) (xs1 xs2 : List Nat) (h1 : RawQ w v1 s1 xs1 s2 xs2) (hv : ∀ a : Rat, IsRat w v1 a → LimQ 6 a → Calls Tryz.prog f #[v1] w (IsTrue w)) :
    Calls Tryz.prog f #[v1] w (IsTrue w) := by
  by_cases hc : smQ s1 xs1 s2 xs2 = true
  · obtain ⟨a, i1, l1⟩ := smQ_rat h1 hc
    exact hv a i1 l1
  · refine (fun_sound (C := cfgL W [] (smF 1)) (E := bE smQ [(s1, xs1), (s2, xs2)]) (args := [argRaw 0 1]) (T := .leaf [(false, [.b (.lit true)])])
      mixed (cfgL_ok .nil haw (smF_ok1 (fun hall => hc (hall 0 (by omega))))) no_asm hf h4 hR hn rfl w [v1] rfl ?_ hW).mono ?_
    · intro i x hx
      match i, hx with
      | 0, hx => injection hx with hx; subst hx; exact ⟨fun _ => 0, v1, rfl, argRaw_holds h1 rfl rfl⟩
    · rintro e w' ⟨β, u, rfl, hh, ex⟩
      have := one_bool.1 hh
      subst this
      exact ⟨rfl, ex⟩
theorem law2_any {f : Nat} {fn : Func} {W : World → Prop} (hf : Tryz.prog.funcs[f]? = some fn) (h4 : fn.results.toList.length ≤ 4) (hR : funE (cfgL W [] (smF 2)) fn [] [argRaw 0 1, argRaw 2 3] = some (.leaf [(false, [.b (.lit true)])])) (hn : 2 ≤ fn.ntmps)
    (haw : Awake W) (w : World) (hW : ∀ w', Ext w w' → W w') (v1 v2 : Value) (s1 s2 t1 t2 : Bool) (xs1 xs2 ys1 ys2 : List Nat) (h1 : RawQ w v1 s1 xs1 s2 xs2) (h2 : RawQ w v2 t1 ys1 t2 ys2)
    (hv : ∀ a b : Rat, IsRat w v1 a → IsRat w v2 b → LimQ 6 a → LimQ 6 b → Calls Tryz.prog f #[v1, v2] w (IsTrue w)) :
    Calls Tryz.prog f #[v1, v2] w (IsTrue w) := by
  by_cases hc : smQ s1 xs1 s2 xs2 = true ∧ smQ t1 ys1 t2 ys2 = true
  · obtain ⟨a, i1, l1⟩ := smQ_rat h1 hc.1
    obtain ⟨b, i2, l2⟩ := smQ_rat h2 hc.2
    exact hv a b i1 i2 l1 l2
  · refine (fun_sound (C := cfgL W [] (smF 2)) (E := bE smQ [(s1, xs1), (s2, xs2), (t1, ys1), (t2, ys2)]) (args := [argRaw 0 1, argRaw 2 3]) (T := .leaf [(false, [.b (.lit true)])])
      mixed (cfgL_ok .nil haw (smF_ok2 (fun hall => hc ⟨hall 0 (by omega), hall 1 (by omega)⟩))) no_asm hf h4 hR hn rfl w [v1, v2] rfl ?_ hW).mono ?_
    · intro i x hx
      match i, hx with
      | 0, hx => injection hx with hx; subst hx; exact ⟨fun _ => 0, v1, rfl, argRaw_holds h1 rfl rfl⟩
      | 1, hx => injection hx with hx; subst hx; exact ⟨fun _ => 0, v2, rfl, argRaw_holds h2 rfl rfl⟩
    · rintro e w' ⟨β, u, rfl, hh, ex⟩
      have := one_bool.1 hh
      subst this
      exact ⟨rfl, ex⟩
theorem law3_any {f : Nat} {fn : Func} {W : World → Prop} (hf : Tryz.prog.funcs[f]? = some fn) (h4 : fn.results.toList.length ≤ 4) (hR : funE (cfgL W [] (smF 3)) fn [] [argRaw 0 1, argRaw 2 3, argRaw 4 5] = some (.leaf [(false, [.b (.lit true)])])) (hn : 3 ≤ fn.ntmps)
    (haw : Awake W) (w : World) (hW : ∀ w', Ext w w' → W w') (v1 v2 v3 : Value) (s1 s2 t1 t2 u1 u2 : Bool) (xs1 xs2 ys1 ys2 zs1 zs2 : List Nat) (h1 : RawQ w v1 s1 xs1 s2 xs2) (h2 : RawQ w v2 t1 ys1 t2 ys2) (h3 : RawQ w v3 u1 zs1 u2 zs2)
    (hv : ∀ a b c : Rat, IsRat w v1 a → IsRat w v2 b → IsRat w v3 c → LimQ 6 a → LimQ 6 b → LimQ 6 c → Calls Tryz.prog f #[v1, v2, v3] w (IsTrue w)) :
    Calls Tryz.prog f #[v1, v2, v3] w (IsTrue w) := by
  by_cases hc : smQ s1 xs1 s2 xs2 = true ∧ smQ t1 ys1 t2 ys2 = true ∧ smQ u1 zs1 u2 zs2 = true
  · obtain ⟨a, i1, l1⟩ := smQ_rat h1 hc.1
    obtain ⟨b, i2, l2⟩ := smQ_rat h2 hc.2.1
    obtain ⟨c, i3, l3⟩ := smQ_rat h3 hc.2.2
    exact hv a b c i1 i2 i3 l1 l2 l3
  · refine (fun_sound (C := cfgL W [] (smF 3)) (E := bE smQ [(s1, xs1), (s2, xs2), (t1, ys1), (t2, ys2), (u1, zs1), (u2, zs2)]) (args := [argRaw 0 1, argRaw 2 3, argRaw 4 5]) (T := .leaf [(false, [.b (.lit true)])])
      mixed (cfgL_ok .nil haw (smF_ok3 (fun hall => hc ⟨hall 0 (by omega), hall 1 (by omega), hall 2 (by omega)⟩))) no_asm hf h4 hR hn rfl w [v1, v2, v3] rfl ?_ hW).mono ?_
    · intro i x hx
      match i, hx with
      | 0, hx => injection hx with hx; subst hx; exact ⟨fun _ => 0, v1, rfl, argRaw_holds h1 rfl rfl⟩
      | 1, hx => injection hx with hx; subst hx; exact ⟨fun _ => 0, v2, rfl, argRaw_holds h2 rfl rfl⟩
      | 2, hx => injection hx with hx; subst hx; exact ⟨fun _ => 0, v3, rfl, argRaw_holds h3 rfl rfl⟩
    · rintro e w' ⟨β, u, rfl, hh, ex⟩
      have := one_bool.1 hh
      subst this
      exact ⟨rfl, ex⟩
/-- Terms for the parts of rational numbers, and what they mean. -/
abbrev IT2 := IT × IT
def qv (i : Nat) : IT2 := (.var (2 * i), .var (2 * i + 1))
def qop (f : Nat) (p q : IT2) : IT2 := (.a4 (2 * f) p.1 p.2 q.1 q.2, .a4 (2 * f + 1) p.1 p.2 q.1 q.2)
def qsame (p q : IT2) : BT := .and (.eq p.1 q.1) (.eq p.2 q.2)
def RepQ (E : Env) (p : IT2) (q : Rat) : Prop := p.1.den E = q.num ∧ p.2.den E = (q.den : Int)
theorem rep_op {E : Env} {f : Nat} {p q : IT2} {a b : Rat} (hf : f ≠ 4) (hp : RepQ E p a) (hq : RepQ E q b) : RepQ E (qop f p q) (ratF f a b) := by
  constructor
  · show fn4 (2 * f) (p.1.den E) (p.2.den E) (q.1.den E) (q.2.den E) = _
    rw [hp.1, hp.2, hq.1, hq.2, fn4_num (by omega), show 2 * f / 2 = f by omega]
  · show fn4 (2 * f + 1) (p.1.den E) (p.2.den E) (q.1.den E) (q.2.den E) = _
    rw [hp.1, hp.2, hq.1, hq.2, fn4_den (by omega) (by omega), show (2 * f + 1) / 2 = f by omega]
theorem rep_div {E : Env} {p q : IT2} {a b : Rat} (hb : b ≠ 0) (hp : RepQ E p a) (hq : RepQ E q b) : RepQ E (qop 4 p q) (a / b) := by
  constructor
  · show fn4 8 (p.1.den E) (p.2.den E) (q.1.den E) (q.2.den E) = _
    rw [hp.1, hp.2, hq.1, hq.2, fn4_num rfl]; rfl
  · show fn4 9 (p.1.den E) (p.2.den E) (q.1.den E) (q.2.den E) = _
    rw [hp.1, hp.2, hq.1, hq.2]
    unfold fn4
    rw [if_neg (by decide), divInt_parts, divInt_parts, if_neg (fun e => hb e.2)]
    rfl
theorem rep_same {E : Env} {p q : IT2} {a b : Rat} (hp : RepQ E p a) (hq : RepQ E q b) (h : a = b) : (qsame p q).den E = true := by
  subst h
  show (p.1.den E == q.1.den E && p.2.den E == q.2.den E) = true
  rw [hp.1, hp.2, hq.1, hq.2]
  simp
theorem rep_v {l : List Rat} {i : Nat} : RepQ (qE l) (qv i) (l.getD i 0) := by
  constructor
  · show (if 2 * i % 2 = 0 then _ else _) = _
    rw [if_pos (by omega), show 2 * i / 2 = i by omega]
  · show (if (2 * i + 1) % 2 = 0 then _ else _) = _
    rw [if_neg (by omega), show (2 * i + 1) / 2 = i by omega]
end Go.Proofs.YtmofkmdacfdejaaGreatDoor
end

/- ---- Rfb ---- -/
section
/-
  RationalField: sums and products are associative, commutative and distributive; differences and quotients undo them.
-/
set_option maxRecDepth 100000
namespace Go.Proofs.YtmofkmdacfdejaaGreatDoor
open Go.RowKit

def fieldOut : BT := qsame (qop 4 (qop 2 (qv 0) (qv 2)) (qv 2)) (qv 0)
def leafB (b : BT) : Tree := .leaf [(false, [.b b])]
def fieldT : Tree :=
  .ite (qsame (qop 0 (qop 0 (qv 0) (qv 1)) (qv 2)) (qop 0 (qv 1) (qop 0 (qv 2) (qv 0))))
    (.ite (qsame (qop 2 (qop 2 (qv 0) (qv 1)) (qv 2)) (qop 2 (qv 1) (qop 2 (qv 2) (qv 0))))
      (.ite (qsame (qop 2 (qv 0) (qop 0 (qv 1) (qv 2))) (qop 0 (qop 2 (qv 0) (qv 1)) (qop 2 (qv 0) (qv 2))))
        (.ite (qsame (qop 1 (qop 0 (qv 0) (qv 1)) (qv 1)) (qv 0))
          (.ite (.eq (.a2 3 (.var 4) (.lit 0)) (.lit 0))
            (.ite (.eq (.a1 1 (.var 4)) (.lit 6)) (.ite (.eq (.a1 1 (.var 4)) (.lit 0)) (leafB fieldOut) (leafB (.lit true))) (leafB (.lit false)))
            (.ite (.eq (.a1 1 (.var 4)) (.lit 6)) (leafB (.lit false)) (.ite (.eq (.a1 1 (.var 4)) (.lit 0)) (leafB fieldOut) (leafB (.lit true)))))
          (leafB (.lit false))) (leafB (.lit false))) (leafB (.lit false))) (leafB (.lit false))
theorem field_valid {W : World → Prop} (haw : Awake W) (w : World) (hW : ∀ w', Ext w w' → W w') (v1 v2 v3 : Value) (a b c : Rat) (h1 : IsRat w v1 a) (h2 : IsRat w v2 b) (h3 : IsRat w v3 c) (l1 : LimQ 6 a) (l2 : LimQ 6 b) (l3 : LimQ 6 c) :
    Calls Tryz.prog 6 #[v1, v2, v3] w (IsTrue w) := by
  refine (fun_sound (C := cfgL W tabT (smT 3)) (E := qE [a, b, c]) (args := [argS 0, argS 1, argS 2]) (T := fieldT)
    mixed (cfgL_ok (tabT_ok (qE_ok _)) haw (smT_ok3 (smQ_of l1 h1) (smQ_of l2 h2) (smQ_of l3 h3))) no_asm Tryz.func6 (by decide +kernel) (by kernel_rfl) (by decide +kernel) rfl w [v1, v2, v3] rfl ?_ hW).mono ?_
  · intro i x hx
    match i, hx with
    | 0, hx => injection hx with hx; subst hx; exact ⟨fun _ => 0, v1, rfl, argS_holds h1 l1 rfl rfl⟩
    | 1, hx => injection hx with hx; subst hx; exact ⟨fun _ => 0, v2, rfl, argS_holds h2 l2 rfl rfl⟩
    | 2, hx => injection hx with hx; subst hx; exact ⟨fun _ => 0, v3, rfl, argS_holds h3 l3 rfl rfl⟩
  · rintro e w' ⟨β, u, rfl, hh, ex⟩
    have ra : RepQ (qE [a, b, c]) (qv 0) a := rep_v (i := 0)
    have rb : RepQ (qE [a, b, c]) (qv 1) b := rep_v (i := 1)
    have rc : RepQ (qE [a, b, c]) (qv 2) c := rep_v (i := 2)
    have add : ∀ {p q x y}, RepQ (qE [a, b, c]) p x → RepQ (qE [a, b, c]) q y → RepQ (qE [a, b, c]) (qop 0 p q) (x + y) := fun h k => rep_op (f := 0) (by omega) h k
    have sub : ∀ {p q x y}, RepQ (qE [a, b, c]) p x → RepQ (qE [a, b, c]) q y → RepQ (qE [a, b, c]) (qop 1 p q) (x - y) := fun h k => rep_op (f := 1) (by omega) h k
    have mul : ∀ {p q x y}, RepQ (qE [a, b, c]) p x → RepQ (qE [a, b, c]) q y → RepQ (qE [a, b, c]) (qop 2 p q) (x * y) := fun h k => rep_op (f := 2) (by omega) h k
    have t1 := rep_same (add (add ra rb) rc) (add rb (add rc ra)) (by grind)
    have t2 := rep_same (mul (mul ra rb) rc) (mul rb (mul rc ra)) (by grind)
    have t3 := rep_same (mul ra (add rb rc)) (add (mul ra rb) (mul ra rc)) (by grind)
    have t4 := rep_same (sub (add ra rb) rb) ra (by grind)
    have es : (BT.eq (.a2 3 (.var 4) (.lit 0)) (.lit 0)).den (qE [a, b, c]) = (cmpZ c.num 0 == 0) := rfl
    have e6 : (BT.eq (.a1 1 (.var 4)) (.lit 6)).den (qE [a, b, c]) = (de c.num == 6) := rfl
    have e0 : (BT.eq (.a1 1 (.var 4)) (.lit 0)).den (qE [a, b, c]) = (de c.num == 0) := rfl
    have out : ((fieldT.pick (qE [a, b, c])) = [(false, [.b (.lit true)])]) ∨ ((fieldT.pick (qE [a, b, c])) = [(false, [.b fieldOut])] ∧ c ≠ 0) := by
      unfold fieldT
      simp only [Tree.pick, leafB]
      rw [if_pos t1, if_pos t2, if_pos t3, if_pos t4, es, e6, e0]
      by_cases hc : c = 0
      · have hz : c.num = 0 := by rw [hc]; rfl
        have d6 : de c.num = 6 := by rw [hz]; rfl
        rw [if_pos (by rw [hz]; rfl), if_pos (by rw [d6]; rfl), if_neg (by rw [d6]; decide)]
        exact .inl rfl
      · have hz : c.num ≠ 0 := fun e => hc (Rat.num_eq_zero.1 e)
        have d0 : de c.num = 0 := by unfold de; rw [if_neg hz]
        rw [if_neg (fun e => hz ((cmp_eq0 c.num).1 (eq_of_beq e))), if_neg (by rw [d0]; decide), if_pos (by rw [d0]; rfl)]
        exact .inr ⟨rfl, hc⟩
    rcases out with ho | ⟨ho, hc⟩
    · rw [ho] at hh
      have := one_bool.1 hh
      subst this
      exact ⟨rfl, ex⟩
    · rw [ho] at hh
      have := one_bool.1 hh
      subst this
      have t5 : fieldOut.den (qE [a, b, c]) = true := rep_same (rep_div hc (mul ra rc) rc) ra (by rw [Rat.div_def, Rat.mul_assoc, Rat.mul_inv_cancel c hc, Rat.mul_one])
      rw [t5]
      exact ⟨rfl, ex⟩
theorem field_calls {W : World → Prop} (haw : Awake W) (w : World) (hW : ∀ w', Ext w w' → W w') (v1 v2 v3 : Value) (s1 s2 t1 t2 u1 u2 : Bool) (xs1 xs2 ys1 ys2 zs1 zs2 : List Nat) (h1 : RawQ w v1 s1 xs1 s2 xs2) (h2 : RawQ w v2 t1 ys1 t2 ys2) (h3 : RawQ w v3 u1 zs1 u2 zs2) :
    Calls Tryz.prog 6 #[v1, v2, v3] w (IsTrue w) :=
  law3_any Tryz.func6 (by decide +kernel) (by kernel_rfl) (by decide +kernel) haw w hW v1 v2 v3 s1 s2 t1 t2 u1 u2 xs1 xs2 ys1 ys2 zs1 zs2 h1 h2 h3
    (fun a b c i1 i2 i3 l1 l2 l3 => field_valid haw w hW v1 v2 v3 a b c i1 i2 i3 l1 l2 l3)
end Go.Proofs.YtmofkmdacfdejaaGreatDoor
end

/- ---- Rfc ---- -/
section
/-
  RationalOrder and RationalFloor.
-/
set_option maxRecDepth 100000
namespace Go.Proofs.YtmofkmdacfdejaaGreatDoor
open Go.RowKit

def sgQ (q : Rat) : Int := cmpZ q.num 0
theorem num_pos_iff (q : Rat) : 0 < q.num ↔ 0 < q := by
  have h1 : 0 ≤ q.num ↔ 0 ≤ q := Rat.num_nonneg
  have h2 : q.num = 0 ↔ q = 0 := Rat.num_eq_zero
  constructor
  · intro h
    have a := h1.1 (by omega)
    have b : q ≠ 0 := fun e => by have := h2.2 e; omega
    grind
  · intro h
    have a := h1.2 (by grind)
    have b : q.num ≠ 0 := fun e => by have := h2.1 e; grind
    omega
theorem sgQ_cases (q : Rat) : (q < 0 ∧ sgQ q = -1) ∨ (q = 0 ∧ sgQ q = 0) ∨ (0 < q ∧ sgQ q = 1) := by
  have h1 := num_pos_iff q
  have h2 : q.num = 0 ↔ q = 0 := Rat.num_eq_zero
  unfold sgQ
  rcases cmpZ_cases q.num 0 with ⟨h, e⟩ | ⟨h, e⟩ | ⟨h, e⟩
  · refine .inl ⟨?_, e⟩
    have a : ¬ 0 < q := fun k => by have := h1.2 k; omega
    have b : q ≠ 0 := fun k => by have := h2.2 k; omega
    grind
  · exact .inr (.inl ⟨h2.1 h, e⟩)
  · exact .inr (.inr ⟨h1.1 h, e⟩)
theorem sgQ_pos {q : Rat} (h : 0 < q) : sgQ q = 1 := by rcases sgQ_cases q with ⟨k, e⟩ | ⟨k, e⟩ | ⟨k, e⟩ <;> grind
theorem sgQ_neg' {q : Rat} (h : q < 0) : sgQ q = -1 := by rcases sgQ_cases q with ⟨k, e⟩ | ⟨k, e⟩ | ⟨k, e⟩ <;> grind
theorem sgQ_zero : sgQ 0 = 0 := rfl
theorem sgQ_opp (q : Rat) : sgQ (-q) = - sgQ q := by
  rcases sgQ_cases q with ⟨k, e⟩ | ⟨k, e⟩ | ⟨k, e⟩
  · rw [e, sgQ_pos (by grind)]; rfl
  · rw [e, k]; rfl
  · rw [e, sgQ_neg' (by grind)]
theorem sgQ_mul (a b : Rat) : sgQ (a * b) = sgQ a * sgQ b := by
  rcases sgQ_cases a with ⟨k, e⟩ | ⟨k, e⟩ | ⟨k, e⟩ <;> rcases sgQ_cases b with ⟨j, f⟩ | ⟨j, f⟩ | ⟨j, f⟩ <;> rw [e, f]
  · have := Rat.mul_pos (a := -a) (b := -b) (by grind) (by grind)
    rw [sgQ_pos (by grind)]; rfl
  · rw [j, Rat.mul_zero]; rfl
  · have := Rat.mul_pos (a := -a) (b := b) (by grind) (by grind)
    rw [sgQ_neg' (by grind)]; rfl
  · rw [k, Rat.zero_mul]; rfl
  · rw [k, Rat.zero_mul]; rfl
  · rw [k, Rat.zero_mul]; rfl
  · have := Rat.mul_pos (a := a) (b := -b) (by grind) (by grind)
    rw [sgQ_neg' (by grind)]; rfl
  · rw [j, Rat.mul_zero]; rfl
  · rw [sgQ_pos (Rat.mul_pos k j)]; rfl
theorem cmpQ_sub (a b : Rat) : cmpZ (a.num * (b.den : Int)) (b.num * (a.den : Int)) = sgQ (a - b) := by
  have h1 := Rat.lt_iff a b
  have h2 := Rat.lt_iff b a
  rcases cmpZ_cases (a.num * (b.den : Int)) (b.num * (a.den : Int)) with ⟨h, e⟩ | ⟨h, e⟩ | ⟨h, e⟩
  · have := h1.2 h
    rw [e, sgQ_neg' (by grind)]
  · have k1 : ¬ a < b := fun k => by have := h1.1 k; omega
    have k2 : ¬ b < a := fun k => by have := h2.1 k; omega
    have : a - b = 0 := by grind
    rw [e, this]; rfl
  · have := h2.2 h
    rw [e, sgQ_pos (by grind)]
def qcmp (p q : IT2) : IT := .a2 3 (.a2 2 p.1 q.2) (.a2 2 q.1 p.2)
theorem rep_cmp {E : Env} {p q : IT2} {a b : Rat} (hp : RepQ E p a) (hq : RepQ E q b) : (qcmp p q).den E = sgQ (a - b) := by
  show cmpZ (p.1.den E * q.2.den E) (q.1.den E * p.2.den E) = _
  rw [hp.1, hp.2, hq.1, hq.2, cmpQ_sub]
def ordT : Tree :=
  .ite (.eq (qcmp (qv 1) (qv 0)) (.a1 0 (qcmp (qv 0) (qv 1))))
    (.ite (.eq (qcmp (qop 0 (qv 0) (qv 2)) (qop 0 (qv 1) (qv 2))) (qcmp (qv 0) (qv 1)))
      (leafB (.eq (qcmp (qop 2 (qv 0) (qv 2)) (qop 2 (qv 1) (qv 2))) (.a2 2 (qcmp (qv 0) (qv 1)) (.a2 3 (.var 4) (.lit 0)))))
      (leafB (.lit false))) (leafB (.lit false))
theorem eq_den {E : Env} {s t : IT} {x y : Int} (h : s.den E = x) (k : t.den E = y) (e : x = y) : (BT.eq s t).den E = true := by
  show (s.den E == t.den E) = true
  rw [h, k, e]; simp
theorem order_valid {W : World → Prop} (haw : Awake W) (w : World) (hW : ∀ w', Ext w w' → W w') (v1 v2 v3 : Value) (a b c : Rat) (h1 : IsRat w v1 a) (h2 : IsRat w v2 b) (h3 : IsRat w v3 c) (l1 : LimQ 6 a) (l2 : LimQ 6 b) (l3 : LimQ 6 c) :
    Calls Tryz.prog 7 #[v1, v2, v3] w (IsTrue w) := by
  refine (fun_sound (C := cfgL W tabT (smT 3)) (E := qE [a, b, c]) (args := [argS 0, argS 1, argS 2]) (T := ordT)
    mixed (cfgL_ok (tabT_ok (qE_ok _)) haw (smT_ok3 (smQ_of l1 h1) (smQ_of l2 h2) (smQ_of l3 h3))) no_asm Tryz.func7 (by decide +kernel) (by kernel_rfl) (by decide +kernel) rfl w [v1, v2, v3] rfl ?_ hW).mono ?_
  · intro i x hx
    match i, hx with
    | 0, hx => injection hx with hx; subst hx; exact ⟨fun _ => 0, v1, rfl, argS_holds h1 l1 rfl rfl⟩
    | 1, hx => injection hx with hx; subst hx; exact ⟨fun _ => 0, v2, rfl, argS_holds h2 l2 rfl rfl⟩
    | 2, hx => injection hx with hx; subst hx; exact ⟨fun _ => 0, v3, rfl, argS_holds h3 l3 rfl rfl⟩
  · rintro e w' ⟨β, u, rfl, hh, ex⟩
    have ra : RepQ (qE [a, b, c]) (qv 0) a := rep_v (i := 0)
    have rb : RepQ (qE [a, b, c]) (qv 1) b := rep_v (i := 1)
    have rc : RepQ (qE [a, b, c]) (qv 2) c := rep_v (i := 2)
    have add : ∀ {p q x y}, RepQ (qE [a, b, c]) p x → RepQ (qE [a, b, c]) q y → RepQ (qE [a, b, c]) (qop 0 p q) (x + y) := fun h k => rep_op (f := 0) (by omega) h k
    have mul : ∀ {p q x y}, RepQ (qE [a, b, c]) p x → RepQ (qE [a, b, c]) q y → RepQ (qE [a, b, c]) (qop 2 p q) (x * y) := fun h k => rep_op (f := 2) (by omega) h k
    have k0 := rep_cmp ra rb
    have k1 := rep_cmp rb ra
    have k2 := rep_cmp (add ra rc) (add rb rc)
    have k3 := rep_cmp (mul ra rc) (mul rb rc)
    have n1 : (IT.a1 0 (qcmp (qv 0) (qv 1))).den (qE [a, b, c]) = - sgQ (a - b) := by show - _ = _; rw [k0]
    have n2 : (IT.a2 2 (qcmp (qv 0) (qv 1)) (.a2 3 (.var 4) (.lit 0))).den (qE [a, b, c]) = sgQ (a - b) * sgQ c := by show _ * sgQ c = _; rw [k0]
    have t1 := eq_den k1 n1 (by rw [← sgQ_opp]; congr 1; grind)
    have t2 := eq_den k2 k0 (by congr 1; grind)
    have t3 := eq_den k3 n2 (by rw [← sgQ_mul]; congr 1; grind)
    unfold ordT leafB at hh
    simp only [Tree.pick] at hh
    rw [if_pos t1, if_pos t2] at hh
    have := one_bool.1 hh
    subst this
    rw [t3]
    exact ⟨rfl, ex⟩
theorem order_calls {W : World → Prop} (haw : Awake W) (w : World) (hW : ∀ w', Ext w w' → W w') (v1 v2 v3 : Value) (s1 s2 t1 t2 u1 u2 : Bool) (xs1 xs2 ys1 ys2 zs1 zs2 : List Nat) (h1 : RawQ w v1 s1 xs1 s2 xs2) (h2 : RawQ w v2 t1 ys1 t2 ys2) (h3 : RawQ w v3 u1 zs1 u2 zs2) :
    Calls Tryz.prog 7 #[v1, v2, v3] w (IsTrue w) :=
  law3_any Tryz.func7 (by decide +kernel) (by kernel_rfl) (by decide +kernel) haw w hW v1 v2 v3 s1 s2 t1 t2 u1 u2 xs1 xs2 ys1 ys2 zs1 zs2 h1 h2 h3
    (fun a b c i1 i2 i3 l1 l2 l3 => order_valid haw w hW v1 v2 v3 a b c i1 i2 i3 l1 l2 l3)

/-- Floor. -/
theorem rvalidI_calls (w : World) (v : Value) (z : Int) (h : IsInt w v z) : Calls Tryz.prog 40 #[v] w fun e w' => e = .returned (.bool true) ∧ Ext w w' := by
  obtain ⟨k1, k2⟩ := int_raw h
  have := rvalid_calls w v _ _ k1
  rw [k2] at this
  exact this
theorem rfromInt_calls (w : World) (v : Value) (z : Int) (h : IsInt w v z) (l : Lim 400000 z) : Calls Tryz.prog 41 #[v] w (Ret (fun v w' => IsPair w' v z 1) w) := by
  refine (walkZ1 (T := .leaf [(true, [.int (.var 0) 400000, .int (.lit 1) 3])]) (tabR3_ok (q := false) (fun h => by cases h)) Tryz.func41 (by kernel_rfl) (by decide +kernel) (by decide +kernel) h l).mono ?_
  rintro e w' ⟨β, v, rfl, hh, ex⟩
  exact ⟨v, rfl, (one_pair.1 hh).1, ex⟩
def kFI : Con
  | [.val true [.int x l]], _ => if lo l then some (.val true [.int x l, .int (.lit 1) 3]) else none
  | _, _ => none
theorem kFI_ok {E : Env} : ConOK Tryz.prog E 41 kFI := by
  refine ⟨?_, ?_, ⟨_, Tryz.func41, by decide +kernel, by kernel_rfl⟩⟩
  · intro args As r h hG β w vs hv hlen
    unfold kFI at h
    split at h
    · split at h
      · rename_i hlo
        injection h with h
        subst h
        simp only [lo, decide_eq_true_iff] at hlo
        obtain ⟨v, rfl, h1⟩ := args1 hv hlen
        obtain ⟨i1, l1⟩ := one_int.1 h1
        refine (rfromInt_calls w v _ i1 (l1.mono hlo)).mono ?_
        rintro e w' ⟨u, rfl, hp, ex⟩
        exact ⟨u, rfl, one_pair.2 ⟨hp, l1, lim3 (z := 1) (by decide) (by decide)⟩, ex⟩
      · cases h
    · cases h
  · intro args As r h x off
    unfold kFI at h
    split at h
    · split at h
      · injection h with h; subst h; intro e; cases e
      · cases h
    · cases h
def tabFl : List (Nat × Con) := (39, kFlQ) :: (41, kFI) :: (40, kIb fun _ => .lit true) :: tabT
theorem tabFl_ok {E : Env} (hE : QEnv E) : TabOK Tryz.prog E tabFl :=
  .cons (kFlQ_ok hE) (.cons kFI_ok (.cons (kIb_ok (fun _ => true) (fun _ => rfl) (fun w v z h => rvalidI_calls w v z h) ⟨_, Tryz.func40, by decide +kernel, by kernel_rfl⟩) (tabT_ok hE)))
def flQ : IT2 := (.a2 4 (.var 0) (.var 1), .lit 1)
def flT : Tree :=
  .ite (.le (.lit 0) (.a2 3 (qop 1 (qv 0) flQ).1 (.lit 0))) (leafB (.lt (qcmp (qop 1 (qv 0) flQ) (.lit 1, .lit 1)) (.lit 0))) (leafB (.lit false))
theorem floor_valid {W : World → Prop} (haw : Awake W) (w : World) (hW : ∀ w', Ext w w' → W w') (v1 : Value) (a : Rat) (h1 : IsRat w v1 a) (l1 : LimQ 6 a) :
    Calls Tryz.prog 8 #[v1] w (IsTrue w) := by
  refine (fun_sound (C := cfgL W tabFl (smT 1)) (E := qE [a]) (args := [argS 0]) (T := flT)
    mixed (cfgL_ok (tabFl_ok (qE_ok _)) haw (smT_ok1 (smQ_of l1 h1))) no_asm Tryz.func8 (by decide +kernel) (by kernel_rfl) (by decide +kernel) rfl w [v1] rfl ?_ hW).mono ?_
  · intro i x hx
    match i, hx with
    | 0, hx => injection hx with hx; subst hx; exact ⟨fun _ => 0, v1, rfl, argS_holds h1 l1 rfl rfl⟩
  · rintro e w' ⟨β, u, rfl, hh, ex⟩
    have ra : RepQ (qE [a]) (qv 0) a := rep_v (i := 0)
    have hden : 0 < (a.den : Int) := by have := a.den_pos; omega
    have rf : RepQ (qE [a]) flQ (a.floor : Rat) := by
      constructor
      · show dq a.num (a.den : Int) = _
        rw [dq_pos hden, ← Rat.floor_def, Rat.num_intCast]
      · show (1 : Int) = _
        rw [Rat.den_intCast]; rfl
    have rr : RepQ (qE [a]) (qop 1 (qv 0) flQ) (a - (a.floor : Rat)) := rep_op (f := 1) (by omega) ra rf
    have r1 : RepQ (qE [a]) (.lit 1, .lit 1) (1 : Rat) := ⟨rfl, rfl⟩
    have b1 : (a.floor : Rat) ≤ a := Rat.floor_le a
    have b2 : a < ((a.floor + 1 : Int) : Rat) := Rat.lt_floor_add_one a
    have b3 : ((a.floor + 1 : Int) : Rat) = (a.floor : Rat) + 1 := by rw [Rat.intCast_add]; rfl
    rw [b3] at b2
    have c1 := rep_cmp rr r1
    rw [sgQ_neg' (by grind)] at c1
    have t1 : (BT.le (.lit 0) (.a2 3 (qop 1 (qv 0) flQ).1 (.lit 0))).den (qE [a]) = true := by
      show decide (0 ≤ cmpZ ((qop 1 (qv 0) flQ).1.den (qE [a])) 0) = true
      rw [rr.1, decide_eq_true_iff]
      show 0 ≤ sgQ _
      rcases sgQ_cases (a - (a.floor : Rat)) with ⟨k, e⟩ | ⟨k, e⟩ | ⟨k, e⟩
      · exfalso; grind
      · rw [e]; decide
      · rw [e]; decide
    have t2 : (BT.lt (qcmp (qop 1 (qv 0) flQ) (.lit 1, .lit 1)) (.lit 0)).den (qE [a]) = true := by
      show decide ((qcmp (qop 1 (qv 0) flQ) (.lit 1, .lit 1)).den (qE [a]) < 0) = true
      rw [c1]; rfl
    unfold flT leafB at hh
    simp only [Tree.pick] at hh
    rw [if_pos t1] at hh
    have := one_bool.1 hh
    subst this
    rw [t2]
    exact ⟨rfl, ex⟩
theorem floor_calls {W : World → Prop} (haw : Awake W) (w : World) (hW : ∀ w', Ext w w' → W w') (v1 : Value) (s1 s2 : Bool) (xs1 xs2 : List Nat) (h1 : RawQ w v1 s1 xs1 s2 xs2) :
    Calls Tryz.prog 8 #[v1] w (IsTrue w) :=
  law1_any Tryz.func8 (by decide +kernel) (by kernel_rfl) (by decide +kernel) haw w hW v1 s1 s2 xs1 xs2 h1 (fun a i1 l1 => floor_valid haw w hW v1 a i1 l1)
end Go.Proofs.YtmofkmdacfdejaaGreatDoor
end

/- ---- Rfe ---- -/
section
/-
  RationalValid and RationalMake.
-/
set_option maxRecDepth 100000
namespace Go.Proofs.YtmofkmdacfdejaaGreatDoor
open Go.RowKit

def kRV6 : Con
  | [.val true [.raw i, .raw j]], G => if i % 2 == 0 && (j == i + 1 && (G.find (.lt (.lit 6) (.rlen i)) == some false && G.find (.lt (.lit 6) (.rlen j)) == some false)) then some (.val false [.b (.var (i / 2))]) else none
  | _, _ => none
theorem kRV6_ok {E : Env} (hE : VEnv E) {f : Nat} (hc : ∀ (w : World) (v : Value) (s1 s2 : Bool) (xs1 xs2 : List Nat), RawQ w v s1 xs1 s2 xs2 → xs1.length ≤ 100000 → xs2.length ≤ 100000 → Calls Tryz.prog f #[v] w fun e w' => e = .returned (.bool (okQ s1 xs1 s2 xs2)) ∧ Ext w w')
    (hb : ∃ fn, Tryz.prog.funcs[f]? = some fn ∧ fn.name ≠ "runtime.NumGoroutine" ∧ fn.body.isNone = false) : ConOK Tryz.prog E f kRV6 := by
  refine ⟨?_, ?_, hb⟩
  · intro args As r h hG β w vs hv hlen
    unfold kRV6 at h
    split at h
    · rename_i i j
      split at h
      · rename_i hlo
        injection h with h
        subst h
        simp only [Bool.and_eq_true, beq_iff_eq] at hlo
        obtain ⟨hi, rfl, b1, b2⟩ := hlo
        have c1 := of_decide_eq_false (Asm.find_spec hG b1)
        have c2 := of_decide_eq_false (Asm.find_spec hG b2)
        simp only [IT.den] at c1 c2
        obtain ⟨v, rfl, h1⟩ := args1 hv hlen
        refine (hc w v _ _ _ _ (one_raw2 h1) (by omega) (by omega)).mono ?_
        rintro e w' ⟨rfl, ex⟩
        exact ⟨_, rfl, one_bool.2 (by rw [← hE i hi]; rfl), ex⟩
      · cases h
    · cases h
  · intro args As r h x off
    unfold kRV6 at h
    split at h
    · split at h
      · injection h with h; subst h; intro e; cases e
      · cases h
    · cases h
def tabV6 : List (Nat × Con) := [(22, kRV6), (23, kRV6)]
theorem tabV6_ok {E : Env} (hE : VEnv E) : TabOK Tryz.prog E tabV6 :=
  .cons (kRV6_ok hE (fun w v s1 s2 xs1 xs2 h l1 l2 => valid_rat_calls w v s1 s2 xs1 xs2 h l1 l2) ⟨_, Tryz.func22, by decide +kernel, by kernel_rfl⟩)
    (.cons (kRV6_ok hE (fun w v s1 s2 xs1 xs2 h l1 l2 => rvalid_rat_calls w v s1 s2 xs1 xs2 h l1 l2) ⟨_, Tryz.func23, by decide +kernel, by kernel_rfl⟩) .nil)
theorem noSm {E : Env} : SmOK E (fun _ _ => none) := fun _ _ _ h => by cases h
def valT : Tree := .ite (.lt (.lit 6) (.rlen 0)) (leafB (.lit true)) (.ite (.lt (.lit 6) (.rlen 1)) (leafB (.lit true)) (.ite (.var 0) (leafB (.lit true)) (leafB (.lit true))))
theorem valT_pick (E : Env) : valT.pick E = [(false, [.b (.lit true)])] := by
  unfold valT leafB
  simp only [Tree.pick]
  split
  · rfl
  · split
    · rfl
    · split <;> rfl
theorem lawValidQ_calls {W : World → Prop} (haw : Awake W) (w : World) (hW : ∀ w', Ext w w' → W w') (v1 : Value) (s1 s2 : Bool) (xs1 xs2 : List Nat) (h1 : RawQ w v1 s1 xs1 s2 xs2) :
    Calls Tryz.prog 4 #[v1] w (IsTrue w) := by
  refine (fun_sound (C := cfgL W tabV6 (fun _ _ => none)) (E := bE okQ [(s1, xs1), (s2, xs2)]) (args := [argRaw 0 1]) (T := valT)
    mixed (cfgL_ok (tabV6_ok (bE_ok _)) haw noSm) no_asm Tryz.func4 (by decide +kernel) (by kernel_rfl) (by decide +kernel) rfl w [v1] rfl ?_ hW).mono ?_
  · intro i x hx
    match i, hx with
    | 0, hx => injection hx with hx; subst hx; exact ⟨fun _ => 0, v1, rfl, argRaw_holds h1 rfl rfl⟩
  · rintro e w' ⟨β, u, rfl, hh, ex⟩
    rw [valT_pick] at hh
    have := one_bool.1 hh
    subst this
    exact ⟨rfl, ex⟩

/-- RationalMake. -/
def smI (s : Bool) (xs : List Nat) : Bool := decide (xs.length ≤ 6) && okB s xs
theorem rsmall6_calls (w : World) (v : Value) (s : Bool) (xs : List Nat) (h : Raw w v s xs) : Calls Tryz.prog 13 #[v, .int .i64 6] w fun e w' => e = .returned (.bool (smI s xs)) ∧ Ext w w' := rsmall_calls w v s xs 6 h
def kSm6 : Con
  | [.val true [.int _ l], .val false [.n .i64 (.lit z)]], _ => if decide (l ≤ 6) && z == 6 then some (.val false [.b (.lit true)]) else none
  | _, _ => none
theorem kSm6_ok {E : Env} : ConOK Tryz.prog E 13 kSm6 := by
  refine ⟨?_, ?_, ⟨_, Tryz.func13, by decide +kernel, by kernel_rfl⟩⟩
  · intro args As r h hG β w vs hv hlen
    unfold kSm6 at h
    split at h
    · split at h
      · rename_i hlo
        injection h with h
        subst h
        simp only [Bool.and_eq_true, decide_eq_true_iff, beq_iff_eq] at hlo
        obtain ⟨hl, rfl⟩ := hlo
        obtain ⟨v, u, rfl, h1, h2⟩ := args2 hv hlen
        have h2' := one_num.1 h2
        subst h2'
        obtain ⟨i1, l1⟩ := one_int.1 h1
        obtain ⟨k1, k2⟩ := int_raw i1
        refine (rsmall6_calls w v _ _ k1).mono ?_
        rintro e w' ⟨rfl, ex⟩
        refine ⟨_, rfl, one_bool.2 ?_, ex⟩
        unfold smI
        rw [k2, decide_eq_true (Nat.le_trans l1 hl)]
        rfl
      · cases h
    · cases h
  · intro args As r h x off
    unfold kSm6 at h
    split at h
    · split at h
      · injection h with h; subst h; intro e; cases e
      · cases h
    · cases h
def kSmR (s : Nat → Option Bool) : Con
  | [.val true [.raw i], .val false [.n .i64 (.lit z)]], _ => if z == 6 then (s i).map fun b => .val false [.b (.lit b)] else none
  | _, _ => none
theorem one_raw1 {E : Env} {w : World} {i : Nat} {v : Value} (h : one E w (true, [.raw i]) v) : Raw w v (E.r i).1 (E.r i).2 := by
  obtain ⟨us, rfl, l1, r1, rfl, ⟨x, y, rfl, h1⟩, hn⟩ := h
  simp only [chunks] at hn
  subst hn
  exact h1
theorem kSmR_ok {E : Env} {s : Nat → Option Bool} (hs : ∀ i b, s i = some b → smI (E.r i).1 (E.r i).2 = b) : ConOK Tryz.prog E 13 (kSmR s) := by
  refine ⟨?_, ?_, ⟨_, Tryz.func13, by decide +kernel, by kernel_rfl⟩⟩
  · intro args As r h hG β w vs hv hlen
    unfold kSmR at h
    split at h
    · split at h
      · rename_i i z hlo
        obtain ⟨b, hb, rfl⟩ := Option.map_eq_some_iff.1 h
        simp only [beq_iff_eq] at hlo
        subst hlo
        obtain ⟨v, u, rfl, h1, h2⟩ := args2 hv hlen
        have h2' := one_num.1 h2
        subst h2'
        refine (rsmall6_calls w v _ _ (one_raw1 h1)).mono ?_
        rintro e w' ⟨rfl, ex⟩
        exact ⟨_, rfl, one_bool.2 (by rw [hs i b hb]; rfl), ex⟩
      · cases h
    · cases h
  · intro args As r h x off
    unfold kSmR at h
    split at h
    · split at h
      · obtain ⟨b, hb, rfl⟩ := Option.map_eq_some_iff.1 h
        intro e; cases e
      · cases h
    · cases h
def arg23 : AV := .val true [.n .i64 (.var 2), .n .i64 (.var 3)]
theorem arg23_holds {E : Env} {β : Nat → Nat} {w : World} {x y : Int} (h2 : E.i 2 = x) (h3 : E.i 3 = y) : arg23.holds E β w (.agg #[.int .i64 x, .int .i64 y]) := by
  subst h2 h3
  exact ⟨[.int .i64 (E.i 2), .int .i64 (E.i 3)], rfl, [.int .i64 (E.i 2)], [.int .i64 (E.i 3)], rfl, rfl, [.int .i64 (E.i 3)], [], rfl, rfl, rfl⟩
def makE (l : List (Bool × List Nat)) (x y : Int) : Env := ⟨fun i => if i = 2 then x else if i = 3 then y else 0, fun _ => false, fun i => l.getD i (false, []), fun _ => []⟩
def tabMk : List (Nat × Con) := [(13, kSm6), (16, kSame), (17, kZero), (14, kMake), (15, kMake),
  (18, kFromQ), (19, kFromQ), (20, kFrac), (21, kFrac)]
theorem tabMk_ok {E : Env} : TabOK Tryz.prog E tabMk := by
  refine .cons kSm6_ok (.cons kSame_ok (.cons kZero_ok ?_))
  refine .cons (kMake_ok (fun w v u a b h k l1 l2 => make_calls w v u a b h k l1 l2) ⟨_, Tryz.func14, by decide +kernel, by kernel_rfl⟩) ?_
  refine .cons (kMake_ok (fun w v u a b h k l1 l2 => rmake_calls w v u a b h k l1 l2) ⟨_, Tryz.func15, by decide +kernel, by kernel_rfl⟩) ?_
  refine .cons (kFromQ_ok (fun w n h => from_rat_calls w n h) ⟨_, Tryz.func18, by decide +kernel, by kernel_rfl⟩) ?_
  refine .cons (kFromQ_ok (fun w n h => rfrom_rat_calls w n h) ⟨_, Tryz.func19, by decide +kernel, by kernel_rfl⟩) ?_
  refine .cons (kFrac_ok (fun w n d h k => frac_rat_calls w n d h k) ⟨_, Tryz.func20, by decide +kernel, by kernel_rfl⟩) ?_
  exact .cons (kFrac_ok (fun w n d h k => rfrac_rat_calls w n d h k) ⟨_, Tryz.func21, by decide +kernel, by kernel_rfl⟩) .nil
def makT : Tree := .ite (.eq (.a1 1 (.var 1)) (.lit 0)) (leafB (.lit true)) (.ite (.and (.eq (.a2 7 (.var 0) (.var 1)) (.lit 0)) (.eq (.a2 11 (.var 0) (.var 1)) (.lit 0))) (leafB (.lit true)) (leafB (.lit false)))
theorem make_valid {W : World → Prop} (haw : Awake W) (w : World) (hW : ∀ w', Ext w w' → W w') (v1 v2 : Value) (a b x y : Int) (h1 : IsInt w v1 a) (h2 : IsInt w v2 b) (l1 : Lim 6 a) (l2 : Lim 6 b) (hx : I64 x) (hy : I64 y) :
    Calls Tryz.prog 3 #[v1, v2, .agg #[.int .i64 x, .int .i64 y]] w (IsTrue w) := by
  refine (fun_sound (C := cfgL W tabMk (fun _ _ => none)) (E := zE [a, b, x, y]) (G := bnd 2 ++ bnd 3) (args := [.val true [.int (.var 0) 6], .val true [.int (.var 1) 6], arg23]) (T := makT)
    mixed (cfgL_ok tabMk_ok haw noSm) ?_ Tryz.func3 (by decide +kernel) (by kernel_rfl) (by decide +kernel) rfl w [v1, v2, .agg #[.int .i64 x, .int .i64 y]] rfl ?_ hW).mono ?_
  · intro p hp
    rcases List.mem_append.1 hp with h | h
    · exact bnd_holds (E := zE [a, b, x, y]) (i := 2) hx p h
    · exact bnd_holds (E := zE [a, b, x, y]) (i := 3) hy p h
  · intro i z hz
    match i, hz with
    | 0, hz => injection hz with hz; subst hz; exact ⟨fun _ => 0, v1, rfl, one_int.2 ⟨h1, l1⟩⟩
    | 1, hz => injection hz with hz; subst hz; exact ⟨fun _ => 0, v2, rfl, one_int.2 ⟨h2, l2⟩⟩
    | 2, hz => injection hz with hz; subst hz; exact ⟨fun _ => 0, _, rfl, arg23_holds rfl rfl⟩
  · rintro e w' ⟨β, u, rfl, hh, ex⟩
    have out : makT.pick (zE [a, b, x, y]) = [(false, [.b (.lit true)])] := by
      unfold makT leafB
      simp only [Tree.pick]
      by_cases hb : b = 0
      · have n1 : (BT.eq (.a1 1 (.var 1)) (.lit 0)).den (zE [a, b, x, y]) = false := by
          show (de b == 0) = false
          rw [hb]; rfl
        have n2 : (BT.and (.eq (.a2 7 (.var 0) (.var 1)) (.lit 0)) (.eq (.a2 11 (.var 0) (.var 1)) (.lit 0))).den (zE [a, b, x, y]) = true := by
          show ((Rat.divInt a b).num == 0 && (if b = 0 then 0 else ((Rat.divInt a b).den : Int)) == 0) = true
          rw [if_pos hb, hb, divInt_0]; rfl
        rw [if_neg (by rw [n1]; decide), if_pos n2]
      · have n1 : (BT.eq (.a1 1 (.var 1)) (.lit 0)).den (zE [a, b, x, y]) = true := by
          show (de b == 0) = true
          unfold de; rw [if_neg hb]; rfl
        rw [if_pos n1]
    rw [out] at hh
    have := one_bool.1 hh
    subst this
    exact ⟨rfl, ex⟩
theorem make_other {W : World → Prop} (haw : Awake W) (w : World) (hW : ∀ w', Ext w w' → W w') (v1 v2 : Value) (s1 s2 : Bool) (xs1 xs2 : List Nat) (x y : Int) (h1 : Raw w v1 s1 xs1) (h2 : Raw w v2 s2 xs2) (s : Nat → Option Bool)
    (hR : ∀ W, funE (cfgL W [(13, kSmR s)] (fun _ _ => none)) Tryz.f3 [] [.val true [.raw 0], .val true [.raw 1], arg23] = some (leafB (.lit true)))
    (hs : ∀ i b, s i = some b → smI ((makE [(s1, xs1), (s2, xs2)] x y).r i).1 ((makE [(s1, xs1), (s2, xs2)] x y).r i).2 = b) :
    Calls Tryz.prog 3 #[v1, v2, .agg #[.int .i64 x, .int .i64 y]] w (IsTrue w) := by
  refine (fun_sound (C := cfgL W [(13, kSmR s)] (fun _ _ => none)) (E := makE [(s1, xs1), (s2, xs2)] x y) (args := [.val true [.raw 0], .val true [.raw 1], arg23]) (T := leafB (.lit true))
    mixed (cfgL_ok (.cons (kSmR_ok hs) .nil) haw noSm) no_asm Tryz.func3 (by decide +kernel) (hR W) (by decide +kernel) rfl w [v1, v2, .agg #[.int .i64 x, .int .i64 y]] rfl ?_ hW).mono ?_
  · intro i z hz
    match i, hz with
    | 0, hz =>
      injection hz with hz; subst hz
      obtain ⟨ao, cap, rfl, k1, k2, k3⟩ := h1
      exact ⟨fun _ => 0, _, rfl, _, rfl, _, [], rfl, ⟨_, _, rfl, ⟨ao, cap, rfl, k1, k2, k3⟩⟩, rfl⟩
    | 1, hz =>
      injection hz with hz; subst hz
      obtain ⟨ao, cap, rfl, k1, k2, k3⟩ := h2
      exact ⟨fun _ => 0, _, rfl, _, rfl, _, [], rfl, ⟨_, _, rfl, ⟨ao, cap, rfl, k1, k2, k3⟩⟩, rfl⟩
    | 2, hz => injection hz with hz; subst hz; exact ⟨fun _ => 0, _, rfl, arg23_holds rfl rfl⟩
  · rintro e w' ⟨β, u, rfl, hh, ex⟩
    have := one_bool.1 hh
    subst this
    exact ⟨rfl, ex⟩
theorem lawMakeQ_calls {W : World → Prop} (haw : Awake W) (w : World) (hW : ∀ w', Ext w w' → W w') (v1 v2 : Value) (s1 s2 : Bool) (xs1 xs2 : List Nat) (x y : Int) (h1 : Raw w v1 s1 xs1) (h2 : Raw w v2 s2 xs2) (hx : I64 x) (hy : I64 y) :
    Calls Tryz.prog 3 #[v1, v2, .agg #[.int .i64 x, .int .i64 y]] w (IsTrue w) := by
  cases b1 : smI s1 xs1 with
  | false =>
    refine make_other haw w hW v1 v2 s1 s2 xs1 xs2 x y h1 h2 (fun i => if i = 0 then some false else none) (fun _ => by kernel_rfl) ?_
    intro i b hb
    match i, hb with
    | 0, hb => injection hb with hb; subst hb; exact b1
  | true =>
    cases b2 : smI s2 xs2 with
    | false =>
      refine make_other haw w hW v1 v2 s1 s2 xs1 xs2 x y h1 h2 (fun i => if i = 0 then some true else if i = 1 then some false else none) (fun _ => by kernel_rfl) ?_
      intro i b hb
      match i, hb with
      | 0, hb => injection hb with hb; subst hb; exact b1
      | 1, hb => injection hb with hb; subst hb; exact b2
    | true =>
      unfold smI at b1 b2
      rw [Bool.and_eq_true, decide_eq_true_iff] at b1 b2
      exact make_valid haw w hW v1 v2 _ _ x y (okB_int h1 b1.2).1 (okB_int h2 b2.2).1 (ok_lim h1 b1.2 b1.1) (ok_lim h2 b2.2 b2.1) hx hy
theorem open_two64 {H : Type} {enc : TypeId × Value → H} {W : World} {b0 base : Nat} {spare : Nat → Bool} {held : Bool} {r : Reach} {v : Value} {d : DataW H} {p : List MemPlace}
    (hv : Value.okWide Tryz.prog W r b0 25 v) (h : DataW.Trod enc Tryz.prog W base spare held 25 v d p) : ∃ x y, v = .agg #[.int .i64 x, .int .i64 y] ∧ I64 x ∧ I64 y := by
  have hu := Tryz.underlying25
  simp only [Value.okWide, hu] at hv
  obtain ⟨cs, rfl, hsz, _⟩ := hv
  have c1 : Tryz.prog.cellsOf 2 = 1 := by kernel_rfl
  have c2 : Tryz.prog.cellsOf 25 = 2 := by kernel_rfl
  obtain ⟨a, b, rfl⟩ := Joins.array2 (hsz.trans c2)
  obtain ⟨fuel, hf⟩ := h
  obtain ⟨xs, m, rfl, hx, hl, hlen, he⟩ := DataW.trod_array hu hf
  have h0 := he 0 (by omega)
  have h1 := he 1 (by omega)
  rw [c1] at h0 h1
  match xs, hlen with
  | [y0, y1], _ =>
    obtain ⟨x, e1, _, w1⟩ := DataW.trod_int Tryz.underlying2 h0
    obtain ⟨y, e2, _, w2⟩ := DataW.trod_int Tryz.underlying2 h1
    have k1 : a = .int .i64 x := by simpa [Value.cells] using e1
    have k2 : b = .int .i64 y := by simpa [Value.cells] using e2
    subst k1 k2
    refine ⟨x, y, rfl, ?_, ?_⟩
    · simpa [I64, Lit.wf, IntKind.min, IntKind.max, IntKind.signed, IntKind.bits] using w1
    · simpa [I64, Lit.wf, IntKind.min, IntKind.max, IntKind.signed, IntKind.bits] using w2
end Go.Proofs.YtmofkmdacfdejaaGreatDoor
end

/- ---- MakeCard ---- -/
section
/-
  The tied card RationalMakeCardSaid: for every input the call returns true, and each argument reads behind the call as it read before.
-/
namespace Go.Proofs.YtmofkmdacfdejaaGreatDoor.lawMake
open Go.ChangeShapes Go.WideShapes Go.ChangeAt Go.RowKit
open Go.ChangeMaps (open_string shut_string)

set_option maxRecDepth 100000 in
theorem lifted (os : Os) (started : os.Started) (H : Type) (enc : TypeId × Value → H) :
    ReturnsInHanded {} Tryz.checked os 3 .any (fun w args => (Rows.rationalMakeSpec.pre enc Tryz.prog Tryz.f3 [] false w args ∧ laidMetH Tryz.prog laidL w) ∧ sizedMet enc Tryz.prog Tryz.f3 (OpenSpec.ofChange Rows.rationalMakeSpec) false w args)
      (Rows.rationalMakeSpec.post enc Tryz.prog Tryz.f3 false true false false) := by
  refine handed_laid (C := Tryz.checked) own started (by kernel_rfl) Tryz.func3
    (ChangeSpec.witness_shaped (enc := enc) (C := Tryz.checked) (os := os) (X := fun w _ => laidMetH Tryz.prog laidL w) false (World.doorLaid Tryz.prog 24 os) #[.agg #[.bool false, .slice none 0 0], .agg #[.bool false, .slice none 0 0], .agg #[.int .i64 0, .int .i64 0]] 8 rfl (World.shaped_of_RefB (by kernel_rfl) (by kernel_rfl)) (by kernel_rfl) (by kernel_rfl) (by kernel_rfl) (door_met os _)) ?_
  intro W base args ds gs before hval0 hW _ hL hsh
  have hWQ : WQ W := WQ.laid hL hsh
  have hval : ∀ (j : Nat) t v, Tryz.f3.params[j]? = some t → args[j]? = some v → Value.okWide Tryz.prog W .any base t v := hval0
  have hW' := hW
  obtain ⟨p, q, hA0, hV, rfl, hfz, hnd⟩ := hW
  have hA : DataW.TrodAll enc Tryz.prog W 0 (fun _ => true) true Tryz.f3.params.toList args.toList ds p := hA0
  rw [Tryz.params3] at hA hval
  obtain ⟨v0, vs0, d0, ds0, p0, q0, hargs, rfl, rfl, h0, r0⟩ := trodAll_cons hA
  obtain ⟨v1, vs1, d1, ds1, p1, q1, rfl, rfl, rfl, h1, r1⟩ := trodAll_cons r0
  obtain ⟨v2, vs2, d2, ds2, p2, q2, rfl, rfl, rfl, h2, r2⟩ := trodAll_cons r1
  obtain ⟨rfl, rfl, rfl⟩ := trodAll_nil r2
  obtain rfl : args = #[v0, v1, v2] := by cases args; simp_all
  obtain ⟨rfl, rfl⟩ := trodVars_none hV
  have k0 := h0
  have lt0 : ∀ x ∈ p0, x.block < W.heap.size := by obtain ⟨m, hm⟩ := k0; exact DataW.trod_lt m _ _ _ hm
  obtain ⟨n0, x0, w0⟩ := open_arg (hval 0 24 v0 rfl rfl) h0
  have k1 := h1
  have lt1 : ∀ x ∈ p1, x.block < W.heap.size := by obtain ⟨m, hm⟩ := k1; exact DataW.trod_lt m _ _ _ hm
  obtain ⟨n1, x1, w1⟩ := open_arg (hval 1 24 v1 rfl rfl) h1
  have k2 := h2
  have lt2 : ∀ x ∈ p2, x.block < W.heap.size := by obtain ⟨m, hm⟩ := k2; exact DataW.trod_lt m _ _ _ hm
  obtain ⟨a2, b2, rfl, w2, z2⟩ := open_two64 (hval 2 25 v2 rfl rfl) h2
  clear hA0 hval0
  refine (lawMakeQ_calls awake_ok W (fun w' e => hWQ.ext e) v0 v1 n0 n1 x0 x1 a2 b2 w0 w1 w2 z2).mono fun e W' ⟨he, bel⟩ => ?_
  subst he
  exact ⟨_, rfl, _, _, _, [], _, [], hW', trodAll_mk1 (shut_bool Tryz.underlying4 _), (trodAll_cons_mk (Below.trod laidOut (by kernel_rfl) (of_decide_eq_true (by kernel_rfl)) k0 bel lt0) (trodAll_cons_mk (Below.trod laidOut (by kernel_rfl) (of_decide_eq_true (by kernel_rfl)) k1 bel lt1) (trodAll_cons_mk (Below.trod laidOut (by kernel_rfl) (of_decide_eq_true (by kernel_rfl)) k2 bel lt2) trodAll_mk0))), rfl, bel.frame _, fun h => by cases h⟩

theorem over : Rows.RationalMakeSaid :=
  OpenClaim.holds_of_wide 3 Tryz.f3 rfl rfl rfl rfl rfl rfl rfl ⟨rfl, rfl, rfl, rfl, rfl⟩ rfl rfl rfl rfl rfl (by kernel_rfl) Tryz.func3 (by kernel_rfl)
    (of_decide_eq_true (by kernel_rfl)) (by unfold Func.isWrapper; first | (rw [if_pos (by decide +kernel)]; kernel_rfl) | (rw [if_neg (by decide +kernel)]; exact ⟨rfl, rfl⟩))
    (fun os started H enc _ => lifted os started H enc)

theorem proved : Rows.RationalMakeCardSaid :=
  Claim7.holds_tied_plain_at .later [] [.data, .data, .data] true (true, "aeb570a7155a974368a6e853c8f51ef925c14d306eb31d39a16145bee058b322") false
    over (fun _ h => by cases h) (by kernel_rfl) (fun _ h => by cases h) rationalMake_row_tie rfl ⟨rfl, rfl⟩ (by kernel_rfl) rfl
    (fun f fn hf hfn => by
      obtain rfl : f = 3 := Option.some.inj ((show Tryz.prog.funcNamed "swarf/swarflaw02.RationalMake" = some 3 by kernel_rfl).symm.trans hf) |>.symm
      obtain rfl : fn = Tryz.f3 := (Option.some.inj (Tryz.func3.symm.trans hfn)).symm
      exact ⟨by kernel_rfl, fun j t ht => by
        rw [Tryz.params3] at ht
        have hm : t ∈ [24, 24, 25] := by simpa using Array.mem_of_getElem? ht
        have hall : ([24, 24, 25].all fun u => !Tryz.prog.wantsStandIn u) = true := by kernel_rfl
        exact (show Tryz.prog.wantsStandIn t = false by simpa using List.all_eq_true.1 hall t hm)⟩)
    (by kernel_rfl)
end Go.Proofs.YtmofkmdacfdejaaGreatDoor.lawMake
end
