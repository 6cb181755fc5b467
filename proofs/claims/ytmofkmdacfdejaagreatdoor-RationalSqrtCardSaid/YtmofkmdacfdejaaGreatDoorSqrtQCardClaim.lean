/-
  Texts of this seat, joined.
-/
import Derived.Test.YtmofkmdacfdejaaGreatDoorJ7
import Derived.Test.YtmofkmdacfdejaaGreatDoorTie
import Derived.Test.YtmofkmdacfdejaaGreatDoorCards
import Derived.SevenTiedAt
/- ---- Rfa ---- -/
section
/-
  Sign and Cmp of the reference; small on rows of one and of three; what the laws of one and of three numbers share.
-/
set_option maxRecDepth 100000
namespace Go.Proofs.YtmofkmdacfdejaaGreatDoor
open Go.RowKit

theorem rsign_rat_calls (w : World) (v1 : Value) (n d : Int) (h1 : IsPair w v1 n d) (l1 : Lim 100000 n) (l1' : Lim 100000 d) : Calls Tryz.prog 35 #[v1] w fun e w' => e = .returned (.int .i64 (cmpZ n 0)) ∧ Ext w w' := by
  refine (fun_sound (E := zE [n, d]) (args := [argQ 0]) (T := .leaf [(false, [.n .i64 (.a2 3 (.var 0) (.lit 0))])])
    mixed (cfg_ok (.cons (kIn_ok (f := 63) (g := fun x => .a2 3 x (.lit 0)) (fun x => cmpZ x 0) (fun _ => rfl) (fun w v z h => rsign_calls w v z h) ⟨_, Tryz.func63, by decide +kernel, by kernel_rfl⟩) .nil))
    no_asm Tryz.func35 (by decide +kernel) (by kernel_rfl) (by decide +kernel) rfl w [v1] rfl ?_).mono ?_
  · intro i x hx
    match i, hx with
    | 0, hx => injection hx with hx; subst hx; exact ⟨fun _ => 0, v1, rfl, argP_holds h1 l1 l1' rfl rfl⟩
  · rintro e w' ⟨β, v, rfl, hh, ex⟩
    have := one_num.1 hh
    subst this
    exact ⟨rfl, ex⟩
theorem kSgF_ok {E : Env} {f : Nat} (hc : ∀ (w : World) (v1 : Value) (n d : Int), IsPair w v1 n d → Lim 100000 n → Lim 100000 d → Calls Tryz.prog f #[v1] w fun e w' => e = .returned (.int .i64 (cmpZ n 0)) ∧ Ext w w')
    (hb : ∃ fn, Tryz.prog.funcs[f]? = some fn ∧ fn.name ≠ "runtime.NumGoroutine" ∧ fn.body.isNone = false) : ConOK Tryz.prog E f kSg := by
  refine ⟨?_, ?_, hb⟩
  · intro args As r h hG β w vs hv hlen
    unfold kSg at h
    split at h
    · split at h
      · rename_i hlo
        injection h with h
        subst h
        simp only [Bool.and_eq_true, decide_eq_true_iff] at hlo
        obtain ⟨v, rfl, h1⟩ := args1 hv hlen
        obtain ⟨p1, a1, a2⟩ := one_pair.1 h1
        refine (hc w v _ _ p1 (a1.mono hlo.1) (a2.mono hlo.2)).mono ?_
        rintro e w' ⟨rfl, ex⟩
        exact ⟨_, rfl, one_num.2 rfl, ex⟩
      · cases h
    · cases h
  · intro args As r h x off
    unfold kSg at h
    split at h
    · split at h
      · injection h with h; subst h; intro e; cases e
      · cases h
    · cases h
theorem rcmp_rat_calls (w : World) (v1 v2 : Value) (a b : Rat) (h1 : IsRat w v1 a) (h2 : IsRat w v2 b) (l1 : LimQ 100000 a) (l2 : LimQ 100000 b) :
    Calls Tryz.prog 37 #[v1, v2] w fun e w' => e = .returned (.int .i64 (cmpZ (a.num * (b.den : Int)) (b.num * (a.den : Int)))) ∧ Ext w w' := by
  refine (walkQ2 (T := .leaf [(false, [.n .i64 (.a2 3 (.a2 2 (.var 0) (.var 3)) (.a2 2 (.var 2) (.var 1)))])])
    (tab := (79, kIIn (.a2 3)) :: tabR3 true)
    (.cons (kIIn_ok cmpZ (fun _ _ => rfl) (fun w v1 v2 z1 z2 h1 h2 => rcmp_calls w v1 v2 z1 z2 h1 h2) ⟨_, Tryz.func79, by decide +kernel, by kernel_rfl⟩) (tabR3_ok (q := true) (fun _ => qE_ok _)))
    Tryz.func37 (by kernel_rfl) (by decide +kernel) (by decide +kernel) h1 h2 l1 l2).mono ?_
  rintro e w' ⟨β, v, rfl, hh, ex⟩
  have := one_num.1 hh
  subst this
  exact ⟨rfl, ex⟩
def tabT : List (Nat × Con) := (35, kSg) :: (38, kSg) :: (37, kCmpQ) :: (36, kCmpQ) :: tabQ
theorem tabT_ok {E : Env} (hE : QEnv E) : TabOK Tryz.prog E tabT :=
  .cons (kSgF_ok (fun w v1 n d h l m => rsign_rat_calls w v1 n d h l m) ⟨_, Tryz.func35, by decide +kernel, by kernel_rfl⟩)
    (.cons kSg_ok (.cons (kCmpQ_ok hE (fun w v1 v2 a b h1 h2 l1 l2 => rcmp_rat_calls w v1 v2 a b h1 h2 l1 l2) ⟨_, Tryz.func37, by decide +kernel, by kernel_rfl⟩)
      (.cons (kCmpQ_ok hE (fun w v1 v2 a b h1 h2 l1 l2 => cmp_rat_calls w v1 v2 a b h1 h2 l1 l2) ⟨_, Tryz.func36, by decide +kernel, by kernel_rfl⟩) (tabQ_ok hE))))

def smOf (a : Rat) : Prop := smQ (decide (a.num < 0)) (limbs a.num.natAbs) (decide ((a.den : Int) < 0)) (limbs (a.den : Int).natAbs) = true
theorem smT_ok1 {a : Rat} (ha : smOf a) : SmOK (qE [a]) (smT 1) := by
  intro cs off c h w bl hv
  unfold smT at h
  split at h
  · rename_i hbb
    injection h with h
    subst h
    simp only [Bool.and_eq_true, beq_iff_eq] at hbb
    obtain ⟨h1, h2, rfl⟩ := hbb
    have hcs := isVars_spec h1
    rw [h2] at hcs
    have hcs' : cs = [.int (.var 0) 6, .int (.var 1) 6] := hcs
    subst hcs'
    have hv' : VarAt (bE smQ (rawOf a)) w bl (rowC 1) := by
      obtain ⟨vs, hc, hcell⟩ := hv
      refine ⟨vs, ?_, hcell⟩
      obtain ⟨l1, r1, rfl, c1, l2, r2, rfl, c2, hn⟩ := hc
      exact ⟨l1, _, rfl, int_chunk c1 rfl, l2, r2, rfl, int_chunk c2 rfl, hn⟩
    refine (small_row1 (bE_sm _) w bl hv').mono ?_
    rintro e w' ⟨c, rfl, hc, ex⟩
    have : c = true := hc.2 (fun i hi => by
      match i, hi with
      | 0, _ => exact ha)
    subst this
    exact ⟨rfl, ex⟩
  · cases h
theorem smT_ok3 {a b d : Rat} (ha : smOf a) (hb : smOf b) (hd : smOf d) : SmOK (qE [a, b, d]) (smT 3) := by
  intro cs off c h w bl hv
  unfold smT at h
  split at h
  · rename_i hbb
    injection h with h
    subst h
    simp only [Bool.and_eq_true, beq_iff_eq] at hbb
    obtain ⟨h1, h2, rfl⟩ := hbb
    have hcs := isVars_spec h1
    rw [h2] at hcs
    have hcs' : cs = [.int (.var 0) 6, .int (.var 1) 6, .int (.var 2) 6, .int (.var 3) 6, .int (.var 4) 6, .int (.var 5) 6] := hcs
    subst hcs'
    have hv' : VarAt (bE smQ (rawOf a ++ rawOf b ++ rawOf d)) w bl (rowC 3) := by
      obtain ⟨vs, hc, hcell⟩ := hv
      refine ⟨vs, ?_, hcell⟩
      obtain ⟨l1, r1, rfl, c1, l2, r2, rfl, c2, l3, r3, rfl, c3, l4, r4, rfl, c4, l5, r5, rfl, c5, l6, r6, rfl, c6, hn⟩ := hc
      exact ⟨l1, _, rfl, int_chunk c1 rfl, l2, _, rfl, int_chunk c2 rfl, l3, _, rfl, int_chunk c3 rfl, l4, _, rfl, int_chunk c4 rfl, l5, _, rfl, int_chunk c5 rfl, l6, r6, rfl, int_chunk c6 rfl, hn⟩
    refine (small_row3 (bE_sm _) w bl hv').mono ?_
    rintro e w' ⟨c, rfl, hc, ex⟩
    have : c = true := hc.2 (fun i hi => by
      match i, hi with
      | 0, _ => exact ha
      | 1, _ => exact hb
      | 2, _ => exact hd)
    subst this
    exact ⟨rfl, ex⟩
  · cases h
theorem smF_ok1 {l : List (Bool × List Nat)} (hn : ¬ ∀ i, i < 1 → (bE smQ l).b i = true) : SmOK (bE smQ l) (smF 1) := by
  intro cs off c h w b hv
  unfold smF at h
  split at h
  · rename_i hb
    injection h with h
    subst h
    simp only [Bool.and_eq_true, beq_iff_eq] at hb
    obtain ⟨h1, h2, rfl⟩ := hb
    have hcs := isRaw_spec h1
    rw [h2] at hcs
    have hcs' : cs = rowC 1 := hcs
    subst hcs'
    refine (small_row1 (bE_sm l) w b hv).mono ?_
    rintro e w' ⟨c, rfl, hc, ex⟩
    have : c = false := by
      cases c with
      | false => rfl
      | true => exact absurd (hc.1 rfl) hn
    subst this
    exact ⟨rfl, ex⟩
  · cases h
theorem smF_ok3 {l : List (Bool × List Nat)} (hn : ¬ ∀ i, i < 3 → (bE smQ l).b i = true) : SmOK (bE smQ l) (smF 3) := by
  intro cs off c h w b hv
  unfold smF at h
  split at h
  · rename_i hb
    injection h with h
    subst h
    simp only [Bool.and_eq_true, beq_iff_eq] at hb
    obtain ⟨h1, h2, rfl⟩ := hb
    have hcs := isRaw_spec h1
    rw [h2] at hcs
    have hcs' : cs = rowC 3 := hcs
    subst hcs'
    refine (small_row3 (bE_sm l) w b hv).mono ?_
    rintro e w' ⟨c, rfl, hc, ex⟩
    have : c = false := by
      cases c with
      | false => rfl
      | true => exact absurd (hc.1 rfl) hn
    subst this
    exact ⟨rfl, ex⟩
  · cases h
/-- A law of one number, of two, of three numbers: small numbers, or others. -/
def IsTrue (w : World) (e : Ending) (w' : World) : Prop := e = .returned (.bool true) ∧ Ext w w'
theorem law1_any {f : Nat} {fn : Func} {W : World → Prop} (hf : Tryz.prog.funcs[f]? = some fn) (h4 : fn.results.toList.length ≤ 4) (hR : funE (cfgL W [] (smF 1)) fn [] [argRaw 0 1] = some (.leaf [(false, [.b (.lit true)])])) (hn : 1 ≤ fn.ntmps)
    (haw : Awake W) (w : World) (hW : ∀ w', Ext w w' → W w') (v1 : Value) (s1 s2 : Bool) (xs1 xs2 : List Nat) (h1 : RawQ w v1 s1 xs1 s2 xs2) (hv : ∀ a : Rat, IsRat w v1 a → LimQ 6 a → Calls Tryz.prog f #[v1] w (IsTrue w)) :
    Calls Tryz.prog f #[v1] w (IsTrue w) := by
  by_cases hc : smQ s1 xs1 s2 xs2 = true
  · obtain ⟨a, i1, l1⟩ := smQ_rat h1 hc
    exact hv a i1 l1
  · refine (fun_sound (C := cfgL W [] (smF 1)) (E := bE smQ [(s1, xs1), (s2, xs2)]) (args := [argRaw 0 1]) (T := .leaf [(false, [.b (.lit true)])])
      mixed (cfgL_ok .nil haw (smF_ok1 (fun hall => hc (hall 0 (by omega))))) no_asm hf h4 hR hn rfl w [v1] rfl ?_ hW).mono ?_
    · intro i x hx
      match i, hx with
      | 0, hx => injection hx with hx; subst hx; exact ⟨fun _ => 0, v1, rfl, argRaw_holds h1 rfl rfl⟩
    · rintro e w' ⟨β, u, rfl, hh, ex⟩
      have := one_bool.1 hh
      subst this
      exact ⟨rfl, ex⟩
theorem law2_any {f : Nat} {fn : Func} {W : World → Prop} (hf : Tryz.prog.funcs[f]? = some fn) (h4 : fn.results.toList.length ≤ 4) (hR : funE (cfgL W [] (smF 2)) fn [] [argRaw 0 1, argRaw 2 3] = some (.leaf [(false, [.b (.lit true)])])) (hn : 2 ≤ fn.ntmps)
    (haw : Awake W) (w : World) (hW : ∀ w', Ext w w' → W w') (v1 v2 : Value) (s1 s2 t1 t2 : Bool) (xs1 xs2 ys1 ys2 : List Nat) (h1 : RawQ w v1 s1 xs1 s2 xs2) (h2 : RawQ w v2 t1 ys1 t2 ys2)
    (hv : ∀ a b : Rat, IsRat w v1 a → IsRat w v2 b → LimQ 6 a → LimQ 6 b → Calls Tryz.prog f #[v1, v2] w (IsTrue w)) :
    Calls Tryz.prog f #[v1, v2] w (IsTrue w) := by
  by_cases hc : smQ s1 xs1 s2 xs2 = true ∧ smQ t1 ys1 t2 ys2 = true
  · obtain ⟨a, i1, l1⟩ := smQ_rat h1 hc.1
    obtain ⟨b, i2, l2⟩ := smQ_rat h2 hc.2
    exact hv a b i1 i2 l1 l2
  · refine (fun_sound (C := cfgL W [] (smF 2)) (E := bE smQ [(s1, xs1), (s2, xs2), (t1, ys1), (t2, ys2)]) (args := [argRaw 0 1, argRaw 2 3]) (T := .leaf [(false, [.b (.lit true)])])
      mixed (cfgL_ok .nil haw (smF_ok2 (fun hall => hc ⟨hall 0 (by omega), hall 1 (by omega)⟩))) no_asm hf h4 hR hn rfl w [v1, v2] rfl ?_ hW).mono ?_
    · intro i x hx
      match i, hx with
      | 0, hx => injection hx with hx; subst hx; exact ⟨fun _ => 0, v1, rfl, argRaw_holds h1 rfl rfl⟩
      | 1, hx => injection hx with hx; subst hx; exact ⟨fun _ => 0, v2, rfl, argRaw_holds h2 rfl rfl⟩
    · rintro e w' ⟨β, u, rfl, hh, ex⟩
      have := one_bool.1 hh
      subst this
      exact ⟨rfl, ex⟩
theorem law3_any {f : Nat} {fn : Func} {W : World → Prop} (hf : Tryz.prog.funcs[f]? = some fn) (h4 : fn.results.toList.length ≤ 4) (hR : funE (cfgL W [] (smF 3)) fn [] [argRaw 0 1, argRaw 2 3, argRaw 4 5] = some (.leaf [(false, [.b (.lit true)])])) (hn : 3 ≤ fn.ntmps)
    (haw : Awake W) (w : World) (hW : ∀ w', Ext w w' → W w') (v1 v2 v3 : Value) (s1 s2 t1 t2 u1 u2 : Bool) (xs1 xs2 ys1 ys2 zs1 zs2 : List Nat) (h1 : RawQ w v1 s1 xs1 s2 xs2) (h2 : RawQ w v2 t1 ys1 t2 ys2) (h3 : RawQ w v3 u1 zs1 u2 zs2)
    (hv : ∀ a b c : Rat, IsRat w v1 a → IsRat w v2 b → IsRat w v3 c → LimQ 6 a → LimQ 6 b → LimQ 6 c → Calls Tryz.prog f #[v1, v2, v3] w (IsTrue w)) :
    Calls Tryz.prog f #[v1, v2, v3] w (IsTrue w) := by
  by_cases hc : smQ s1 xs1 s2 xs2 = true ∧ smQ t1 ys1 t2 ys2 = true ∧ smQ u1 zs1 u2 zs2 = true
  · obtain ⟨a, i1, l1⟩ := smQ_rat h1 hc.1
    obtain ⟨b, i2, l2⟩ := smQ_rat h2 hc.2.1
    obtain ⟨c, i3, l3⟩ := smQ_rat h3 hc.2.2
    exact hv a b c i1 i2 i3 l1 l2 l3
  · refine (fun_sound (C := cfgL W [] (smF 3)) (E := bE smQ [(s1, xs1), (s2, xs2), (t1, ys1), (t2, ys2), (u1, zs1), (u2, zs2)]) (args := [argRaw 0 1, argRaw 2 3, argRaw 4 5]) (T := .leaf [(false, [.b (.lit true)])])
      mixed (cfgL_ok .nil haw (smF_ok3 (fun hall => hc ⟨hall 0 (by omega), hall 1 (by omega), hall 2 (by omega)⟩))) no_asm hf h4 hR hn rfl w [v1, v2, v3] rfl ?_ hW).mono ?_
    · intro i x hx
      match i, hx with
      | 0, hx => injection hx with hx; subst hx; exact ⟨fun _ => 0, v1, rfl, argRaw_holds h1 rfl rfl⟩
      | 1, hx => injection hx with hx; subst hx; exact ⟨fun _ => 0, v2, rfl, argRaw_holds h2 rfl rfl⟩
      | 2, hx => injection hx with hx; subst hx; exact ⟨fun _ => 0, v3, rfl, argRaw_holds h3 rfl rfl⟩
    · rintro e w' ⟨β, u, rfl, hh, ex⟩
      have := one_bool.1 hh
      subst this
      exact ⟨rfl, ex⟩
/-- Terms for the parts of rational numbers, and what they mean. -/
abbrev IT2 := IT × IT
def qv (i : Nat) : IT2 := (.var (2 * i), .var (2 * i + 1))
def qop (f : Nat) (p q : IT2) : IT2 := (.a4 (2 * f) p.1 p.2 q.1 q.2, .a4 (2 * f + 1) p.1 p.2 q.1 q.2)
def qsame (p q : IT2) : BT := .and (.eq p.1 q.1) (.eq p.2 q.2)
def RepQ (E : Env) (p : IT2) (q : Rat) : Prop := p.1.den E = q.num ∧ p.2.den E = (q.den : Int)
theorem rep_op {E : Env} {f : Nat} {p q : IT2} {a b : Rat} (hf : f ≠ 4) (hp : RepQ E p a) (hq : RepQ E q b) : RepQ E (qop f p q) (ratF f a b) := by
  constructor
  · show fn4 (2 * f) (p.1.den E) (p.2.den E) (q.1.den E) (q.2.den E) = _
    rw [hp.1, hp.2, hq.1, hq.2, fn4_num (by omega), show 2 * f / 2 = f by omega]
  · show fn4 (2 * f + 1) (p.1.den E) (p.2.den E) (q.1.den E) (q.2.den E) = _
    rw [hp.1, hp.2, hq.1, hq.2, fn4_den (by omega) (by omega), show (2 * f + 1) / 2 = f by omega]
theorem rep_div {E : Env} {p q : IT2} {a b : Rat} (hb : b ≠ 0) (hp : RepQ E p a) (hq : RepQ E q b) : RepQ E (qop 4 p q) (a / b) := by
  constructor
  · show fn4 8 (p.1.den E) (p.2.den E) (q.1.den E) (q.2.den E) = _
    rw [hp.1, hp.2, hq.1, hq.2, fn4_num rfl]; rfl
  · show fn4 9 (p.1.den E) (p.2.den E) (q.1.den E) (q.2.den E) = _
    rw [hp.1, hp.2, hq.1, hq.2]
    unfold fn4
    rw [if_neg (by decide), divInt_parts, divInt_parts, if_neg (fun e => hb e.2)]
    rfl
theorem rep_same {E : Env} {p q : IT2} {a b : Rat} (hp : RepQ E p a) (hq : RepQ E q b) (h : a = b) : (qsame p q).den E = true := by
  subst h
  show (p.1.den E == q.1.den E && p.2.den E == q.2.den E) = true
  rw [hp.1, hp.2, hq.1, hq.2]
  simp
theorem rep_v {l : List Rat} {i : Nat} : RepQ (qE l) (qv i) (l.getD i 0) := by
  constructor
  · show (if 2 * i % 2 = 0 then _ else _) = _
    rw [if_pos (by omega), show 2 * i / 2 = i by omega]
  · show (if (2 * i + 1) % 2 = 0 then _ else _) = _
    rw [if_neg (by omega), show (2 * i + 1) / 2 = i by omega]
end Go.Proofs.YtmofkmdacfdejaaGreatDoor
end

/- ---- Rfb ---- -/
section
/-
  RationalField: sums and products are associative, commutative and distributive; differences and quotients undo them.
-/
set_option maxRecDepth 100000
namespace Go.Proofs.YtmofkmdacfdejaaGreatDoor
open Go.RowKit

def fieldOut : BT := qsame (qop 4 (qop 2 (qv 0) (qv 2)) (qv 2)) (qv 0)
def leafB (b : BT) : Tree := .leaf [(false, [.b b])]
def fieldT : Tree :=
  .ite (qsame (qop 0 (qop 0 (qv 0) (qv 1)) (qv 2)) (qop 0 (qv 1) (qop 0 (qv 2) (qv 0))))
    (.ite (qsame (qop 2 (qop 2 (qv 0) (qv 1)) (qv 2)) (qop 2 (qv 1) (qop 2 (qv 2) (qv 0))))
      (.ite (qsame (qop 2 (qv 0) (qop 0 (qv 1) (qv 2))) (qop 0 (qop 2 (qv 0) (qv 1)) (qop 2 (qv 0) (qv 2))))
        (.ite (qsame (qop 1 (qop 0 (qv 0) (qv 1)) (qv 1)) (qv 0))
          (.ite (.eq (.a2 3 (.var 4) (.lit 0)) (.lit 0))
            (.ite (.eq (.a1 1 (.var 4)) (.lit 6)) (.ite (.eq (.a1 1 (.var 4)) (.lit 0)) (leafB fieldOut) (leafB (.lit true))) (leafB (.lit false)))
            (.ite (.eq (.a1 1 (.var 4)) (.lit 6)) (leafB (.lit false)) (.ite (.eq (.a1 1 (.var 4)) (.lit 0)) (leafB fieldOut) (leafB (.lit true)))))
          (leafB (.lit false))) (leafB (.lit false))) (leafB (.lit false))) (leafB (.lit false))
theorem field_valid {W : World → Prop} (haw : Awake W) (w : World) (hW : ∀ w', Ext w w' → W w') (v1 v2 v3 : Value) (a b c : Rat) (h1 : IsRat w v1 a) (h2 : IsRat w v2 b) (h3 : IsRat w v3 c) (l1 : LimQ 6 a) (l2 : LimQ 6 b) (l3 : LimQ 6 c) :
    Calls Tryz.prog 6 #[v1, v2, v3] w (IsTrue w) := by
  refine (fun_sound (C := cfgL W tabT (smT 3)) (E := qE [a, b, c]) (args := [argS 0, argS 1, argS 2]) (T := fieldT)
    mixed (cfgL_ok (tabT_ok (qE_ok _)) haw (smT_ok3 (smQ_of l1 h1) (smQ_of l2 h2) (smQ_of l3 h3))) no_asm Tryz.func6 (by decide +kernel) (by kernel_rfl) (by decide +kernel) rfl w [v1, v2, v3] rfl ?_ hW).mono ?_
  · intro i x hx
    match i, hx with
    | 0, hx => injection hx with hx; subst hx; exact ⟨fun _ => 0, v1, rfl, argS_holds h1 l1 rfl rfl⟩
    | 1, hx => injection hx with hx; subst hx; exact ⟨fun _ => 0, v2, rfl, argS_holds h2 l2 rfl rfl⟩
    | 2, hx => injection hx with hx; subst hx; exact ⟨fun _ => 0, v3, rfl, argS_holds h3 l3 rfl rfl⟩
  · rintro e w' ⟨β, u, rfl, hh, ex⟩
    have ra : RepQ (qE [a, b, c]) (qv 0) a := rep_v (i := 0)
    have rb : RepQ (qE [a, b, c]) (qv 1) b := rep_v (i := 1)
    have rc : RepQ (qE [a, b, c]) (qv 2) c := rep_v (i := 2)
    have add : ∀ {p q x y}, RepQ (qE [a, b, c]) p x → RepQ (qE [a, b, c]) q y → RepQ (qE [a, b, c]) (qop 0 p q) (x + y) := fun h k => rep_op (f := 0) (by omega) h k
    have sub : ∀ {p q x y}, RepQ (qE [a, b, c]) p x → RepQ (qE [a, b, c]) q y → RepQ (qE [a, b, c]) (qop 1 p q) (x - y) := fun h k => rep_op (f := 1) (by omega) h k
    have mul : ∀ {p q x y}, RepQ (qE [a, b, c]) p x → RepQ (qE [a, b, c]) q y → RepQ (qE [a, b, c]) (qop 2 p q) (x * y) := fun h k => rep_op (f := 2) (by omega) h k
    have t1 := rep_same (add (add ra rb) rc) (add rb (add rc ra)) (by grind)
    have t2 := rep_same (mul (mul ra rb) rc) (mul rb (mul rc ra)) (by grind)
    have t3 := rep_same (mul ra (add rb rc)) (add (mul ra rb) (mul ra rc)) (by grind)
    have t4 := rep_same (sub (add ra rb) rb) ra (by grind)
    have es : (BT.eq (.a2 3 (.var 4) (.lit 0)) (.lit 0)).den (qE [a, b, c]) = (cmpZ c.num 0 == 0) := rfl
    have e6 : (BT.eq (.a1 1 (.var 4)) (.lit 6)).den (qE [a, b, c]) = (de c.num == 6) := rfl
    have e0 : (BT.eq (.a1 1 (.var 4)) (.lit 0)).den (qE [a, b, c]) = (de c.num == 0) := rfl
    have out : ((fieldT.pick (qE [a, b, c])) = [(false, [.b (.lit true)])]) ∨ ((fieldT.pick (qE [a, b, c])) = [(false, [.b fieldOut])] ∧ c ≠ 0) := by
      unfold fieldT
      simp only [Tree.pick, leafB]
      rw [if_pos t1, if_pos t2, if_pos t3, if_pos t4, es, e6, e0]
      by_cases hc : c = 0
      · have hz : c.num = 0 := by rw [hc]; rfl
        have d6 : de c.num = 6 := by rw [hz]; rfl
        rw [if_pos (by rw [hz]; rfl), if_pos (by rw [d6]; rfl), if_neg (by rw [d6]; decide)]
        exact .inl rfl
      · have hz : c.num ≠ 0 := fun e => hc (Rat.num_eq_zero.1 e)
        have d0 : de c.num = 0 := by unfold de; rw [if_neg hz]
        rw [if_neg (fun e => hz ((cmp_eq0 c.num).1 (eq_of_beq e))), if_neg (by rw [d0]; decide), if_pos (by rw [d0]; rfl)]
        exact .inr ⟨rfl, hc⟩
    rcases out with ho | ⟨ho, hc⟩
    · rw [ho] at hh
      have := one_bool.1 hh
      subst this
      exact ⟨rfl, ex⟩
    · rw [ho] at hh
      have := one_bool.1 hh
      subst this
      have t5 : fieldOut.den (qE [a, b, c]) = true := rep_same (rep_div hc (mul ra rc) rc) ra (by rw [Rat.div_def, Rat.mul_assoc, Rat.mul_inv_cancel c hc, Rat.mul_one])
      rw [t5]
      exact ⟨rfl, ex⟩
theorem field_calls {W : World → Prop} (haw : Awake W) (w : World) (hW : ∀ w', Ext w w' → W w') (v1 v2 v3 : Value) (s1 s2 t1 t2 u1 u2 : Bool) (xs1 xs2 ys1 ys2 zs1 zs2 : List Nat) (h1 : RawQ w v1 s1 xs1 s2 xs2) (h2 : RawQ w v2 t1 ys1 t2 ys2) (h3 : RawQ w v3 u1 zs1 u2 zs2) :
    Calls Tryz.prog 6 #[v1, v2, v3] w (IsTrue w) :=
  law3_any Tryz.func6 (by decide +kernel) (by kernel_rfl) (by decide +kernel) haw w hW v1 v2 v3 s1 s2 t1 t2 u1 u2 xs1 xs2 ys1 ys2 zs1 zs2 h1 h2 h3
    (fun a b c i1 i2 i3 l1 l2 l3 => field_valid haw w hW v1 v2 v3 a b c i1 i2 i3 l1 l2 l3)
end Go.Proofs.YtmofkmdacfdejaaGreatDoor
end

/- ---- Rfc ---- -/
section
/-
  RationalOrder and RationalFloor.
-/
set_option maxRecDepth 100000
namespace Go.Proofs.YtmofkmdacfdejaaGreatDoor
open Go.RowKit

def sgQ (q : Rat) : Int := cmpZ q.num 0
theorem num_pos_iff (q : Rat) : 0 < q.num ↔ 0 < q := by
  have h1 : 0 ≤ q.num ↔ 0 ≤ q := Rat.num_nonneg
  have h2 : q.num = 0 ↔ q = 0 := Rat.num_eq_zero
  constructor
  · intro h
    have a := h1.1 (by omega)
    have b : q ≠ 0 := fun e => by have := h2.2 e; omega
    grind
  · intro h
    have a := h1.2 (by grind)
    have b : q.num ≠ 0 := fun e => by have := h2.1 e; grind
    omega
theorem sgQ_cases (q : Rat) : (q < 0 ∧ sgQ q = -1) ∨ (q = 0 ∧ sgQ q = 0) ∨ (0 < q ∧ sgQ q = 1) := by
  have h1 := num_pos_iff q
  have h2 : q.num = 0 ↔ q = 0 := Rat.num_eq_zero
  unfold sgQ
  rcases cmpZ_cases q.num 0 with ⟨h, e⟩ | ⟨h, e⟩ | ⟨h, e⟩
  · refine .inl ⟨?_, e⟩
    have a : ¬ 0 < q := fun k => by have := h1.2 k; omega
    have b : q ≠ 0 := fun k => by have := h2.2 k; omega
    grind
  · exact .inr (.inl ⟨h2.1 h, e⟩)
  · exact .inr (.inr ⟨h1.1 h, e⟩)
theorem sgQ_pos {q : Rat} (h : 0 < q) : sgQ q = 1 := by rcases sgQ_cases q with ⟨k, e⟩ | ⟨k, e⟩ | ⟨k, e⟩ <;> grind
theorem sgQ_neg' {q : Rat} (h : q < 0) : sgQ q = -1 := by rcases sgQ_cases q with ⟨k, e⟩ | ⟨k, e⟩ | ⟨k, e⟩ <;> grind
theorem sgQ_zero : sgQ 0 = 0 := rfl
theorem sgQ_opp (q : Rat) : sgQ (-q) = - sgQ q := by
  rcases sgQ_cases q with ⟨k, e⟩ | ⟨k, e⟩ | ⟨k, e⟩
  · rw [e, sgQ_pos (by grind)]; rfl
  · rw [e, k]; rfl
  · rw [e, sgQ_neg' (by grind)]
theorem sgQ_mul (a b : Rat) : sgQ (a * b) = sgQ a * sgQ b := by
  rcases sgQ_cases a with ⟨k, e⟩ | ⟨k, e⟩ | ⟨k, e⟩ <;> rcases sgQ_cases b with ⟨j, f⟩ | ⟨j, f⟩ | ⟨j, f⟩ <;> rw [e, f]
  · have := Rat.mul_pos (a := -a) (b := -b) (by grind) (by grind)
    rw [sgQ_pos (by grind)]; rfl
  · rw [j, Rat.mul_zero]; rfl
  · have := Rat.mul_pos (a := -a) (b := b) (by grind) (by grind)
    rw [sgQ_neg' (by grind)]; rfl
  · rw [k, Rat.zero_mul]; rfl
  · rw [k, Rat.zero_mul]; rfl
  · rw [k, Rat.zero_mul]; rfl
  · have := Rat.mul_pos (a := a) (b := -b) (by grind) (by grind)
    rw [sgQ_neg' (by grind)]; rfl
  · rw [j, Rat.mul_zero]; rfl
  · rw [sgQ_pos (Rat.mul_pos k j)]; rfl
theorem cmpQ_sub (a b : Rat) : cmpZ (a.num * (b.den : Int)) (b.num * (a.den : Int)) = sgQ (a - b) := by
  have h1 := Rat.lt_iff a b
  have h2 := Rat.lt_iff b a
  rcases cmpZ_cases (a.num * (b.den : Int)) (b.num * (a.den : Int)) with ⟨h, e⟩ | ⟨h, e⟩ | ⟨h, e⟩
  · have := h1.2 h
    rw [e, sgQ_neg' (by grind)]
  · have k1 : ¬ a < b := fun k => by have := h1.1 k; omega
    have k2 : ¬ b < a := fun k => by have := h2.1 k; omega
    have : a - b = 0 := by grind
    rw [e, this]; rfl
  · have := h2.2 h
    rw [e, sgQ_pos (by grind)]
def qcmp (p q : IT2) : IT := .a2 3 (.a2 2 p.1 q.2) (.a2 2 q.1 p.2)
theorem rep_cmp {E : Env} {p q : IT2} {a b : Rat} (hp : RepQ E p a) (hq : RepQ E q b) : (qcmp p q).den E = sgQ (a - b) := by
  show cmpZ (p.1.den E * q.2.den E) (q.1.den E * p.2.den E) = _
  rw [hp.1, hp.2, hq.1, hq.2, cmpQ_sub]
def ordT : Tree :=
  .ite (.eq (qcmp (qv 1) (qv 0)) (.a1 0 (qcmp (qv 0) (qv 1))))
    (.ite (.eq (qcmp (qop 0 (qv 0) (qv 2)) (qop 0 (qv 1) (qv 2))) (qcmp (qv 0) (qv 1)))
      (leafB (.eq (qcmp (qop 2 (qv 0) (qv 2)) (qop 2 (qv 1) (qv 2))) (.a2 2 (qcmp (qv 0) (qv 1)) (.a2 3 (.var 4) (.lit 0)))))
      (leafB (.lit false))) (leafB (.lit false))
theorem eq_den {E : Env} {s t : IT} {x y : Int} (h : s.den E = x) (k : t.den E = y) (e : x = y) : (BT.eq s t).den E = true := by
  show (s.den E == t.den E) = true
  rw [h, k, e]; simp
theorem order_valid {W : World → Prop} (haw : Awake W) (w : World) (hW : ∀ w', Ext w w' → W w') (v1 v2 v3 : Value) (a b c : Rat) (h1 : IsRat w v1 a) (h2 : IsRat w v2 b) (h3 : IsRat w v3 c) (l1 : LimQ 6 a) (l2 : LimQ 6 b) (l3 : LimQ 6 c) :
    Calls Tryz.prog 7 #[v1, v2, v3] w (IsTrue w) := by
  refine (fun_sound (C := cfgL W tabT (smT 3)) (E := qE [a, b, c]) (args := [argS 0, argS 1, argS 2]) (T := ordT)
    mixed (cfgL_ok (tabT_ok (qE_ok _)) haw (smT_ok3 (smQ_of l1 h1) (smQ_of l2 h2) (smQ_of l3 h3))) no_asm Tryz.func7 (by decide +kernel) (by kernel_rfl) (by decide +kernel) rfl w [v1, v2, v3] rfl ?_ hW).mono ?_
  · intro i x hx
    match i, hx with
    | 0, hx => injection hx with hx; subst hx; exact ⟨fun _ => 0, v1, rfl, argS_holds h1 l1 rfl rfl⟩
    | 1, hx => injection hx with hx; subst hx; exact ⟨fun _ => 0, v2, rfl, argS_holds h2 l2 rfl rfl⟩
    | 2, hx => injection hx with hx; subst hx; exact ⟨fun _ => 0, v3, rfl, argS_holds h3 l3 rfl rfl⟩
  · rintro e w' ⟨β, u, rfl, hh, ex⟩
    have ra : RepQ (qE [a, b, c]) (qv 0) a := rep_v (i := 0)
    have rb : RepQ (qE [a, b, c]) (qv 1) b := rep_v (i := 1)
    have rc : RepQ (qE [a, b, c]) (qv 2) c := rep_v (i := 2)
    have add : ∀ {p q x y}, RepQ (qE [a, b, c]) p x → RepQ (qE [a, b, c]) q y → RepQ (qE [a, b, c]) (qop 0 p q) (x + y) := fun h k => rep_op (f := 0) (by omega) h k
    have mul : ∀ {p q x y}, RepQ (qE [a, b, c]) p x → RepQ (qE [a, b, c]) q y → RepQ (qE [a, b, c]) (qop 2 p q) (x * y) := fun h k => rep_op (f := 2) (by omega) h k
    have k0 := rep_cmp ra rb
    have k1 := rep_cmp rb ra
    have k2 := rep_cmp (add ra rc) (add rb rc)
    have k3 := rep_cmp (mul ra rc) (mul rb rc)
    have n1 : (IT.a1 0 (qcmp (qv 0) (qv 1))).den (qE [a, b, c]) = - sgQ (a - b) := by show - _ = _; rw [k0]
    have n2 : (IT.a2 2 (qcmp (qv 0) (qv 1)) (.a2 3 (.var 4) (.lit 0))).den (qE [a, b, c]) = sgQ (a - b) * sgQ c := by show _ * sgQ c = _; rw [k0]
    have t1 := eq_den k1 n1 (by rw [← sgQ_opp]; congr 1; grind)
    have t2 := eq_den k2 k0 (by congr 1; grind)
    have t3 := eq_den k3 n2 (by rw [← sgQ_mul]; congr 1; grind)
    unfold ordT leafB at hh
    simp only [Tree.pick] at hh
    rw [if_pos t1, if_pos t2] at hh
    have := one_bool.1 hh
    subst this
    rw [t3]
    exact ⟨rfl, ex⟩
theorem order_calls {W : World → Prop} (haw : Awake W) (w : World) (hW : ∀ w', Ext w w' → W w') (v1 v2 v3 : Value) (s1 s2 t1 t2 u1 u2 : Bool) (xs1 xs2 ys1 ys2 zs1 zs2 : List Nat) (h1 : RawQ w v1 s1 xs1 s2 xs2) (h2 : RawQ w v2 t1 ys1 t2 ys2) (h3 : RawQ w v3 u1 zs1 u2 zs2) :
    Calls Tryz.prog 7 #[v1, v2, v3] w (IsTrue w) :=
  law3_any Tryz.func7 (by decide +kernel) (by kernel_rfl) (by decide +kernel) haw w hW v1 v2 v3 s1 s2 t1 t2 u1 u2 xs1 xs2 ys1 ys2 zs1 zs2 h1 h2 h3
    (fun a b c i1 i2 i3 l1 l2 l3 => order_valid haw w hW v1 v2 v3 a b c i1 i2 i3 l1 l2 l3)

/-- Floor. -/
theorem rvalidI_calls (w : World) (v : Value) (z : Int) (h : IsInt w v z) : Calls Tryz.prog 40 #[v] w fun e w' => e = .returned (.bool true) ∧ Ext w w' := by
  obtain ⟨k1, k2⟩ := int_raw h
  have := rvalid_calls w v _ _ k1
  rw [k2] at this
  exact this
theorem rfromInt_calls (w : World) (v : Value) (z : Int) (h : IsInt w v z) (l : Lim 400000 z) : Calls Tryz.prog 41 #[v] w (Ret (fun v w' => IsPair w' v z 1) w) := by
  refine (walkZ1 (T := .leaf [(true, [.int (.var 0) 400000, .int (.lit 1) 3])]) (tabR3_ok (q := false) (fun h => by cases h)) Tryz.func41 (by kernel_rfl) (by decide +kernel) (by decide +kernel) h l).mono ?_
  rintro e w' ⟨β, v, rfl, hh, ex⟩
  exact ⟨v, rfl, (one_pair.1 hh).1, ex⟩
def kFI : Con
  | [.val true [.int x l]], _ => if lo l then some (.val true [.int x l, .int (.lit 1) 3]) else none
  | _, _ => none
theorem kFI_ok {E : Env} : ConOK Tryz.prog E 41 kFI := by
  refine ⟨?_, ?_, ⟨_, Tryz.func41, by decide +kernel, by kernel_rfl⟩⟩
  · intro args As r h hG β w vs hv hlen
    unfold kFI at h
    split at h
    · split at h
      · rename_i hlo
        injection h with h
        subst h
        simp only [lo, decide_eq_true_iff] at hlo
        obtain ⟨v, rfl, h1⟩ := args1 hv hlen
        obtain ⟨i1, l1⟩ := one_int.1 h1
        refine (rfromInt_calls w v _ i1 (l1.mono hlo)).mono ?_
        rintro e w' ⟨u, rfl, hp, ex⟩
        exact ⟨u, rfl, one_pair.2 ⟨hp, l1, lim3 (z := 1) (by decide) (by decide)⟩, ex⟩
      · cases h
    · cases h
  · intro args As r h x off
    unfold kFI at h
    split at h
    · split at h
      · injection h with h; subst h; intro e; cases e
      · cases h
    · cases h
def tabFl : List (Nat × Con) := (39, kFlQ) :: (41, kFI) :: (40, kIb fun _ => .lit true) :: tabT
theorem tabFl_ok {E : Env} (hE : QEnv E) : TabOK Tryz.prog E tabFl :=
  .cons (kFlQ_ok hE) (.cons kFI_ok (.cons (kIb_ok (fun _ => true) (fun _ => rfl) (fun w v z h => rvalidI_calls w v z h) ⟨_, Tryz.func40, by decide +kernel, by kernel_rfl⟩) (tabT_ok hE)))
def flQ : IT2 := (.a2 4 (.var 0) (.var 1), .lit 1)
def flT : Tree :=
  .ite (.le (.lit 0) (.a2 3 (qop 1 (qv 0) flQ).1 (.lit 0))) (leafB (.lt (qcmp (qop 1 (qv 0) flQ) (.lit 1, .lit 1)) (.lit 0))) (leafB (.lit false))
theorem floor_valid {W : World → Prop} (haw : Awake W) (w : World) (hW : ∀ w', Ext w w' → W w') (v1 : Value) (a : Rat) (h1 : IsRat w v1 a) (l1 : LimQ 6 a) :
    Calls Tryz.prog 8 #[v1] w (IsTrue w) := by
  refine (fun_sound (C := cfgL W tabFl (smT 1)) (E := qE [a]) (args := [argS 0]) (T := flT)
    mixed (cfgL_ok (tabFl_ok (qE_ok _)) haw (smT_ok1 (smQ_of l1 h1))) no_asm Tryz.func8 (by decide +kernel) (by kernel_rfl) (by decide +kernel) rfl w [v1] rfl ?_ hW).mono ?_
  · intro i x hx
    match i, hx with
    | 0, hx => injection hx with hx; subst hx; exact ⟨fun _ => 0, v1, rfl, argS_holds h1 l1 rfl rfl⟩
  · rintro e w' ⟨β, u, rfl, hh, ex⟩
    have ra : RepQ (qE [a]) (qv 0) a := rep_v (i := 0)
    have hden : 0 < (a.den : Int) := by have := a.den_pos; omega
    have rf : RepQ (qE [a]) flQ (a.floor : Rat) := by
      constructor
      · show dq a.num (a.den : Int) = _
        rw [dq_pos hden, ← Rat.floor_def, Rat.num_intCast]
      · show (1 : Int) = _
        rw [Rat.den_intCast]; rfl
    have rr : RepQ (qE [a]) (qop 1 (qv 0) flQ) (a - (a.floor : Rat)) := rep_op (f := 1) (by omega) ra rf
    have r1 : RepQ (qE [a]) (.lit 1, .lit 1) (1 : Rat) := ⟨rfl, rfl⟩
    have b1 : (a.floor : Rat) ≤ a := Rat.floor_le a
    have b2 : a < ((a.floor + 1 : Int) : Rat) := Rat.lt_floor_add_one a
    have b3 : ((a.floor + 1 : Int) : Rat) = (a.floor : Rat) + 1 := by rw [Rat.intCast_add]; rfl
    rw [b3] at b2
    have c1 := rep_cmp rr r1
    rw [sgQ_neg' (by grind)] at c1
    have t1 : (BT.le (.lit 0) (.a2 3 (qop 1 (qv 0) flQ).1 (.lit 0))).den (qE [a]) = true := by
      show decide (0 ≤ cmpZ ((qop 1 (qv 0) flQ).1.den (qE [a])) 0) = true
      rw [rr.1, decide_eq_true_iff]
      show 0 ≤ sgQ _
      rcases sgQ_cases (a - (a.floor : Rat)) with ⟨k, e⟩ | ⟨k, e⟩ | ⟨k, e⟩
      · exfalso; grind
      · rw [e]; decide
      · rw [e]; decide
    have t2 : (BT.lt (qcmp (qop 1 (qv 0) flQ) (.lit 1, .lit 1)) (.lit 0)).den (qE [a]) = true := by
      show decide ((qcmp (qop 1 (qv 0) flQ) (.lit 1, .lit 1)).den (qE [a]) < 0) = true
      rw [c1]; rfl
    unfold flT leafB at hh
    simp only [Tree.pick] at hh
    rw [if_pos t1] at hh
    have := one_bool.1 hh
    subst this
    rw [t2]
    exact ⟨rfl, ex⟩
theorem floor_calls {W : World → Prop} (haw : Awake W) (w : World) (hW : ∀ w', Ext w w' → W w') (v1 : Value) (s1 s2 : Bool) (xs1 xs2 : List Nat) (h1 : RawQ w v1 s1 xs1 s2 xs2) :
    Calls Tryz.prog 8 #[v1] w (IsTrue w) :=
  law1_any Tryz.func8 (by decide +kernel) (by kernel_rfl) (by decide +kernel) haw w hW v1 s1 s2 xs1 xs2 h1 (fun a i1 l1 => floor_valid haw w hW v1 a i1 l1)
end Go.Proofs.YtmofkmdacfdejaaGreatDoor
end

/- ---- Rsq ---- -/
section
/-
  Sqrt of the reference.
-/
set_option maxRecDepth 100000
namespace Go.Proofs.YtmofkmdacfdejaaGreatDoor
open Go.RowKit

/-- What an append of limbs to a slice of the call's own leaves. -/
theorem run_append_own_limbs (w : World) (B : Nat) (hB : B ≤ w.heap.size) (ty : TypeId) (v : Value) (zs : List Nat) (lz : zs.length ≤ 1099511627776) (hz : 0 < zs.length) (hown : w.ownsRow B 67 1 v zs.length (zs.map fun x => Value.int .u32 ((x : Nat) : Int))) (b : Nat) (xs : List Nat) (c : Nat) (lx : xs.length ≤ 1099511627776)
    (h : ∀ i, i < xs.length → w.cell? ⟨b, i, none⟩ = some (.int .u32 ((xs.getD i 0 : Nat) : Int))) :
    ∃ ao' cap w1, (Builtin.append_ #[22, 22] ty #[v, .slice (some ⟨b, 0, none⟩) xs.length c]).run Tryz.prog w = .ok (.slice ao' (zs.length + xs.length) cap) w1 ∧
      zs.length + xs.length ≤ cap ∧ cap ≤ 9223372036854775807 ∧ Below B w w1 ∧ Cells w1 ao' (zs ++ xs) := by
  obtain ⟨i0, hi, hz0, hz1, hz2⟩ := info_parts info_u32
  have hnews : ∀ j u, (xs.map fun x => Value.int .u32 ((x : Nat) : Int))[j]? = some u → w.cell? ((⟨b, 0, none⟩ : Addr).add j) = some u := by
    intro j u hu
    rw [List.getElem?_map] at hu
    obtain ⟨x, hx1, rfl⟩ := Option.map_eq_some_iff.1 hu
    have hj : j < xs.length := (List.getElem?_eq_some_iff.1 hx1).1
    have := h j hj
    rw [List.getD_eq_getElem?_getD, hx1] at this
    by_cases h0 : j = 0
    · subst h0; simpa [Addr.add] using this
    · simpa [Addr.add, h0] using this
  obtain ⟨v', w1, hrun, hown1, hgrow, hnil⟩ := run_append_own (P := Tryz.prog) w B 22 ty 67 i0 (.int .u32 0) 1 4 Tryz.underlying22 hi hz0 hz1 hz2 rfl (by decide) _ _ _ hown ⟨b, 0, none⟩ xs.length c (xs.map fun x => Value.int .u32 ((x : Nat) : Int)) (by simp) hnews
    (by intro u hu; obtain ⟨x, _, rfl⟩ := List.mem_map.1 hu; rfl) (by unfold maxLen; omega) (by omega) hB
  rw [← List.map_append, ← List.length_append] at hown1
  have hE : Below B w w1 := Below.grown (Below.refl _ _) hgrow hB (fun k hk => (hown.lt k hk).1)
  rcases hown1.2 with ⟨rfl, h0⟩ | ⟨g, cap, cur, rfl, hg, _, hnc, hcm, _, _⟩
  · exfalso
    rw [List.length_append] at h0
    omega
  · rw [List.length_append] at hnc
    exact ⟨_, cap, w1, by rw [hrun, List.length_append], hnc, by unfold maxLen at hcm; omega, hE, (Blk.of_owns hown1).cells⟩

/-- The rounds. -/
def sqI : LInv where
  lk := [(1, .ptr 1 0), (2, .ptr 2 0), (4, .ptr 4 0), (5, .ptr 5 0)]
  vr := [(1, [.int (.var 0) 100000]), (2, [.int (.lit 0) 0]), (4, [.int (.var 1) 100001]), (5, [.int (.lit 2) 3])]
  vs := [1]
  G := []
  lm := [(1, 100001)]
def sqNext : IT := .a2 4 (.a2 0 (.var 1) (.a2 4 (.var 0) (.var 1))) (.lit 2)
def sqLeaf : List (Bool × List Chunk) := [(true, [.int (.var 1) 100001]), (false, [.n .i64 (.lit 0)])]
def sqTree : LTree := .ite (.le (.lit 0) (.a2 3 sqNext (.var 1))) (.leaf sqLeaf) (.again 0 [sqNext])
def tabRsq : List (Nat × Con) := [(90, kDM), (47, kII (.a2 0) (fun l m => max l m + 1)), (79, kIIn (.a2 3))]
theorem rcmp_calls' (w : World) (v1 v2 : Value) (z1 z2 : Int) (h1 : IsInt w v1 z1) (h2 : IsInt w v2 z2) : Calls Tryz.prog 79 #[v1, v2] w fun e w' => e = .returned (.int .i64 (cmpZ z1 z2)) ∧ Ext w w' := rcmp_calls w v1 v2 z1 z2 h1 h2
theorem tabRsq_ok {E : Env} : TabOK Tryz.prog E tabRsq :=
  .cons (kDMg_ok (fun w v u a b h k l1 l2 => rdivMod_fn w v u a b h k l1 l2) ⟨_, Tryz.func90, by decide +kernel, by kernel_rfl⟩)
    (.cons (tabR1_ok.all (47, kII (.a2 0) (fun l m => max l m + 1)) (by simp [tabR1]))
      (.cons (kIIn_ok cmpZ (fun _ _ => rfl) (fun w v1 v2 z1 z2 h1 h2 => rcmp_calls w v1 v2 z1 z2 h1 h2) ⟨_, Tryz.func79, by decide +kernel, by kernel_rfl⟩) .nil))

/-- A variable that was just made. -/
theorem VarAt.new {E : Env} {w : World} {cs : List Chunk} {vs : List Value} {t : TypeId} (h : chunks E w cs vs) : VarAt E (w.alloc (.cells vs.toArray t)) w.heap.size cs := by
  have hk := Kp.of (B := w.heap.size) ((Ext.refl w).alloc (.cells vs.toArray t)) (Nat.le_refl _)
  have hh : (w.alloc (.cells vs.toArray t)).heap[w.heap.size]? = some (.cells vs.toArray t (0, 0)) := heap_alloc_new w _
  refine ⟨vs, chunks_keep hk h, fun i v hi => ⟨?_, ?_⟩⟩
  · simp only [World.cell?, hh]
    simpa using hi
  · simp only [World.frozen?, hh]
    simp
theorem chunks_int {E : Env} {w : World} {x y : Value} {t : IT} {l : Nat} {z : Int} (h : IsInt w (.agg #[x, y]) z) (hz : t.den E = z) (hl : Lim l z) : chunks E w [.int t l] [x, y] :=
  ⟨[x, y], [], rfl, ⟨x, y, rfl, by rw [hz]; exact h, by rw [hz]; exact hl⟩, rfl⟩
/-- Newton's method from above ends at the root. -/
theorem sq_run (n : Nat) (hn : 0 < n) : ∀ (x : Nat), 0 < x → n < (x + 1) * (x + 1) → Lim 100001 (x : Int) → ∃ m E', Run (fun _ => True) (noStk.set 0 (sqI, sqTree)) sqTree ((zE [(n : Int), 0]).upd [1] [(x : Int)]) m E' sqLeaf ∧ E'.i 1 = (isqN n : Int) := by
  intro x
  induction x using Nat.strongRecOn with
  | ind x ih =>
    intro hx hu hl
    have hq : dq (n : Int) (x : Int) = ((n / x : Nat) : Int) := by rw [dq_pos (by omega)]; exact (Int.natCast_ediv n x).symm
    have hy : sqNext.den ((zE [(n : Int), 0]).upd [1] [(x : Int)]) = (((x + n / x) / 2 : Nat) : Int) := by
      show dq ((x : Int) + dq (n : Int) (x : Int)) 2 = _
      rw [hq, dq_pos (by omega)]
      omega
    have hc : (IT.a2 3 sqNext (.var 1)).den ((zE [(n : Int), 0]).upd [1] [(x : Int)]) = cmpZ (((x + n / x) / 2 : Nat) : Int) (x : Int) := by
      show cmpZ (sqNext.den _) (x : Int) = _
      rw [hy]
    by_cases hge : x ≤ (x + n / x) / 2
    · refine ⟨0, _, .iteT ?_ .leaf, ?_⟩
      · show decide ((0 : Int) ≤ (IT.a2 3 sqNext (.var 1)).den _) = true
        rw [hc, decide_eq_true_iff]
        rcases cmpZ_cases (((x + n / x) / 2 : Nat) : Int) (x : Int) with ⟨h, e⟩ | ⟨h, e⟩ | ⟨h, e⟩ <;> omega
      · show (x : Int) = _
        rw [isqN_spec_eq (newton_stop hx hu hge)]
    · have hp := newton_pos hx hn
      have hnx := newton_next (n := n) hx
      obtain ⟨m, E', hR, hE⟩ := ih _ (by omega) hp hnx (hl.natAbs_le (by omega))
      refine ⟨m + 1, E', .iteF ?_ (.again (I := sqI) (T := sqTree) (by simp [Stk.set]) ⟨no_asm, trivial, ?_⟩ ?_), hE⟩
      · show decide ((0 : Int) ≤ (IT.a2 3 sqNext (.var 1)).den _) = false
        rw [hc, decide_eq_false_iff_not]
        rcases cmpZ_cases (((x + n / x) / 2 : Nat) : Int) (x : Int) with ⟨h, e⟩ | ⟨h, e⟩ | ⟨h, e⟩ <;> omega
      · intro p hp
        simp only [sqI, List.mem_cons, List.not_mem_nil, or_false] at hp
        subst hp
        show Lim 100001 (sqNext.den _)
        rw [hy]
        exact hl.natAbs_le (by omega)
      · have : Env.upd ((zE [(n : Int), 0]).upd [1] [(x : Int)]) sqI.vs ([sqNext].map (IT.den ((zE [(n : Int), 0]).upd [1] [(x : Int)]))) = (zE [(n : Int), 0]).upd [1] [(((x + n / x) / 2 : Nat) : Int)] := by
          simp only [List.map_cons, List.map_nil, hy]
          unfold Env.upd
          congr 1
          funext k
          simp only [sqI, updI]
          by_cases hk : k = 1
          · simp [hk]
          · simp [hk]
        rw [this]
        exact hR

set_option maxRecDepth 100000 in
set_option maxHeartbeats 1600000 in
theorem rsqrt_pos (w : World) (v : Value) (z : Int) (h : IsInt w v z) (l : Lim 100000 z) (hz : 0 < z) : Calls Tryz.prog 114 #[v] w (RetSqA z w) := by
  obtain ⟨ao, cap, s, n, rfl, h1, h2, h3, H4, H5, H6⟩ := h.open_
  obtain ⟨W, hW, eW, c0, c1, r0, r1, f0, f1⟩ := boxes1r w (.bool s) (.slice ao (limbs n).length cap) 24
  have hs : s = false := by
    cases s
    · rfl
    · have h5 := H5.out; have h6 := H6.out rfl; simp only [sgn, if_true] at h5; omega
  subst hs
  have hz2 : z = (n : Int) := H5.out
  have hl0 : 0 < (limbs n).length := limbs_pos (by omega)
  have l' := l
  unfold Lim at l'
  rw [← H4.out] at l'
  subst hz2
  obtain ⟨K, hK⟩ : ∃ K, K = ((limbs n).length + 1) / 2 := ⟨_, rfl⟩
  have hKI : (((limbs n).length : Int) + 1).tdiv 2 = (K : Int) := by rw [Int.tdiv_eq_ediv_of_nonneg (by omega)]; omega
  have hmk := run_mk K (by omega) ↑K rfl
  have hKb : K ≤ 100000 := by omega
  have hWs : W.heap.size = w.heap.size + 2 := by rw [← hW]; simp
  have HI := Lib.hid (show IsInt W (.agg #[.bool false, .slice ao (limbs n).length cap]) (n : Int) from h.ext eW)
  -- the zeros, the one, and what the append leaves
  have hown : ((W.alloc (.cells (u32s (List.replicate K 0)) 67)).alloc (.cells #[.int .u32 1] 67)).ownsRow W.heap.size 67 1 (.slice (some ⟨W.heap.size, 0, none⟩) K K) (List.replicate K 0).length ((List.replicate K 0).map fun x => Value.int .u32 ((x : Nat) : Int)) := by
    have h0 : (W.alloc (.cells (u32s (List.replicate K 0)) 67)).ownsRow W.heap.size 67 1 (.slice (some ⟨W.heap.size, 0, none⟩) K K) K ((List.replicate K 0).map fun x => Value.int .u32 ((x : Nat) : Int)) :=
      ⟨by simp, .inr ⟨W.heap.size, K, u32s (List.replicate K 0), rfl, by omega, heap_alloc_new W _, Nat.le_refl _, by unfold maxLen; omega, by simp [u32s], by rw [Nat.mul_one]; simp only [u32s]; exact List.take_of_length_le (by simp)⟩⟩
    have := h0.alloc (.cells #[.int .u32 1] 67)
    rwa [List.length_replicate]
  obtain ⟨a3, c3, w3, hrun, k1, k2, hB3, k3⟩ := run_append_own_limbs _ W.heap.size (by simp; omega) 22 _ (List.replicate K 0) (by simp; omega) (by simp; omega) hown (W.heap.size + 1) [1] 1 (by simp) (fun i hi => by
    have : i = 0 := by simpa using hi
    subst this
    simp)
  rw [List.length_replicate, show [1].length = 1 from rfl] at hrun k1
  obtain ⟨x0, hx0⟩ : ∃ x0, x0 = 1000000000 ^ K := ⟨_, rfl⟩
  have hsh := limbs_shift K 1 (by omega)
  rw [Nat.mul_one, ← hx0, limbs_of_one] at hsh
  rw [← hsh] at k3
  have hxl : K + 1 = (limbs x0).length := by rw [hsh]; simp
  have HX : Hid (IsInt w3 (.agg #[.bool false, .slice a3 (K + 1) c3]) (x0 : Int)) := by
    rw [hxl]
    exact ⟨a3, c3, by simp, by rw [Int.natAbs_natCast, ← hxl]; exact k1, k2, by rw [Int.natAbs_natCast]; exact k3⟩
  have e3 : Ext W w3 := by
    refine Below.trans ?_ hB3
    exact ((Ext.refl W).alloc _).alloc _
  have V1 : Hid (VarAt (zE [(n : Int), (x0 : Int)]) W w.heap.size [.int (.var 0) 100000]) := by
    unfold Hid
    rw [← hW]
    refine VarAt.ext (w := w.alloc (.cells #[.bool false, .slice ao (limbs n).length cap] 24)) ?_ ((Ext.refl _).alloc _)
    exact VarAt.new (vs := [_, _]) (chunks_int h rfl l)
  have V2 : Hid (VarAt (zE [(n : Int), (x0 : Int)]) W (w.heap.size + 1) [.int (.lit 0) 0]) := by
    unfold Hid
    rw [← hW]
    have := VarAt.new (E := zE [(n : Int), (x0 : Int)]) (w := w.alloc (.cells #[.bool false, .slice ao (limbs n).length cap] 24)) (vs := [_, _]) (t := 24) (chunks_int (t := .lit 0) (l := 0) (isInt_zero _) rfl lim_zero)
    rwa [World.size_alloc] at this
  have HL3 : Hid (Lim 100001 (x0 : Int)) := by unfold Hid Lim; rw [Int.natAbs_natCast, ← hxl]; omega
  have HRUN := Lib.hid hrun
  have HK := Lib.hid hK
  have Hx0 := Lib.hid hx0
  clear hK H4 H5 H6 h hrun hown hx0 hsh k1 k2 k3 hxl hB3
  go_enter Tryz.func114, Tryz.ntmps114
  have hWs2 := Lib.hid hWs
  clear hWs
  go_wp2_with (at_builtin; refine wpList_append_run' rfl _ _ 22 rfl rfl rfl HRUN.out ?_)
  obtain ⟨w4, hw4⟩ : ∃ w4, w4 = w3.alloc (.cells #[.bool false, .slice a3 (K + 1) c3] 24) := ⟨_, rfl⟩
  rw [← hw4]
  refine (rfromInt64_calls w4 2 (by decide) (by decide)).mono ?_
  rintro e w5 ⟨v5, rfl, hI5, e5⟩
  obtain ⟨ao5, cap5, s5, n5, rfl, _⟩ := IsInt.open_ hI5
  have HI5 := Lib.hid hI5
  clear hI5
  go_wp2_with fail
  have hx0p : 0 < x0 := by rw [Hx0.out]; exact Nat.pow_pos (by omega)
  have hnx : n < (x0 + 1) * (x0 + 1) := by
    refine lt_next_sq ?_
    rw [Hx0.out, ← Nat.pow_add]
    exact Nat.lt_of_lt_of_le (lt_of_limbs_len (Nat.le_refl _)) (Nat.pow_le_pow_right (by omega) (by have := HK.out; omega))
  obtain ⟨m, E', hR, hE⟩ := sq_run n (by omega) x0 hx0p hnx HL3.out
  have hup : (zE [(n : Int), (x0 : Int)]).upd sqI.vs ([IT.var 1].map (IT.den (zE [(n : Int), (x0 : Int)]))) = (zE [(n : Int), 0]).upd [1] [(x0 : Int)] := by
    unfold Env.upd
    congr 1
    funext k
    show (if k = 1 then some (x0 : Int) else none).getD (([(n : Int), (x0 : Int)]).getD k 0) = (if k = 1 then some (x0 : Int) else none).getD (([(n : Int), 0]).getD k 0)
    by_cases hk : k = 1
    · rw [if_pos hk]; rfl
    · rw [if_neg hk]
      match k, hk with
      | 0, _ => rfl
      | k + 2, _ => rfl
  have e35 : Ext w3 w5 := by
    have := (Ext.refl w3).alloc (.cells #[.bool false, .slice a3 (K + 1) c3] 24)
    rw [← hw4] at this
    exact this.trans e5
  have e6 := (Ext.refl w5).alloc (.cells #[.bool s5, .slice ao5 (limbs n5).length cap5] 24)
  have V4 : VarAt (zE [(n : Int), (x0 : Int)]) w4 w3.heap.size [.int (.var 1) 100001] := by
    rw [hw4]
    exact VarAt.new (vs := [_, _]) (chunks_int HX.out rfl HL3.out)
  have V5 := VarAt.new (E := zE [(n : Int), (x0 : Int)]) (vs := [_, _]) (t := 24) (chunks_int (t := .lit 2) (l := 3) HI5.out rfl (lim3 (by decide) (by decide)))
  have sz3 := e3.size
  have sz35 := e35.size
  have sz4 : w4.heap.size = w3.heap.size + 1 := by rw [hw4]; simp
  have sz5 := e5.size
  have hs2 := hWs2.out
  refine execL_sound (Good := fun _ => True) (C := cfgOf tabRsq) (L := fun _ => some sqI) (w0 := w) (B := w.heap.size) (n := Tryz.f114.ntmps) (l := sqLeaf) (E' := E') mixed (fun _ _ => ⟨cfg_ok tabRsq_ok, fun _ _ => True.intro⟩) _ 0 (fun _ S e => match e with | .ret => (resE (cfgOf tabRsq) S Tryz.f114.results.toList).map .leaf | _ => none) _ noStk [] ⟨lookN sqI.lk, lookN sqI.vr⟩ (.loop 0 sqI [.var 1] sqTree) (zE [(n : Int), (x0 : Int)]) m _ _ no_asm trivial ?_ (by kernel_rfl) (.loop ⟨no_asm, trivial, ?_⟩ (by rw [hup]; exact hR)) ?_
  · have hz2 : ∀ t x, lookN sqI.lk t = some x → t = 1 ∧ x = .ptr 1 0 ∨ t = 2 ∧ x = .ptr 2 0 ∨ t = 4 ∧ x = .ptr 4 0 ∨ t = 5 ∧ x = .ptr 5 0 := by
      intro t x hx
      have := lookN_mem hx
      simpa [sqI] using this
    have hz3 : ∀ t x, lookN sqI.vr t = some x → t = 1 ∧ x = [.int (.var 0) 100000] ∨ t = 2 ∧ x = [.int (.lit 0) 0] ∨ t = 4 ∧ x = [.int (.var 1) 100001] ∨ t = 5 ∧ x = [.int (.lit 2) 3] := by
      intro t x hx
      have := lookN_mem hx
      simpa [sqI] using this
    refine ⟨fun t => if t = 1 then w.heap.size else if t = 2 then w.heap.size + 1 else if t = 4 then w3.heap.size else w5.heap.size, ⟨?_, ?_, ?_, ?_, by kernel_rfl, rfl, ?_, ?_, ?_⟩⟩
    · intro t x hx
      rcases hz2 t x hx with ⟨rfl, rfl⟩ | ⟨rfl, rfl⟩ | ⟨rfl, rfl⟩ | ⟨rfl, rfl⟩ <;> rfl
    · intro t x hx
      rcases hz3 t x hx with ⟨rfl, rfl⟩ | ⟨rfl, rfl⟩ | ⟨rfl, rfl⟩ | ⟨rfl, rfl⟩
      · exact ⟨fun _ => Nat.le_refl _, (V1.out.ext (e3.trans e35)).ext e6⟩
      · exact ⟨fun _ => by show w.heap.size ≤ w.heap.size + 1; omega, (V2.out.ext (e3.trans e35)).ext e6⟩
      · exact ⟨fun _ => by show w.heap.size ≤ w3.heap.size; omega, (V4.ext e5).ext e6⟩
      · exact ⟨fun _ => by show w.heap.size ≤ w5.heap.size; omega, V5⟩
    · intro x y hx hy he
      obtain ⟨cs, hcs⟩ := Option.isSome_iff_exists.1 hx
      obtain ⟨ds, hds⟩ := Option.isSome_iff_exists.1 hy
      rcases hz3 x cs hcs with ⟨rfl, _⟩ | ⟨rfl, _⟩ | ⟨rfl, _⟩ | ⟨rfl, _⟩ <;> rcases hz3 y ds hds with ⟨rfl, _⟩ | ⟨rfl, _⟩ | ⟨rfl, _⟩ | ⟨rfl, _⟩ <;> first | rfl | (exfalso; revert he; simp; done) | (exfalso; revert he; simp; omega)
    · intro t x off hx
      rcases hz2 t _ hx with ⟨rfl, hh⟩ | ⟨rfl, hh⟩ | ⟨rfl, hh⟩ | ⟨rfl, hh⟩ <;> (injection hh with h1 h2; subst h1; rfl)
    · simp; omega
    · exact (eW.trans (e3.trans e35)).trans (Below.mono e6 (by omega))
    · intro x cs hx
      rcases hz3 x cs hx with ⟨rfl, rfl⟩ | ⟨rfl, rfl⟩ | ⟨rfl, rfl⟩ | ⟨rfl, rfl⟩ <;> decide
  · intro p hp
    simp only [sqI, List.mem_cons, List.not_mem_nil, or_false] at hp
    subst hp
    rw [hup]
    exact HL3.out
  · intro K' G' S' e T' E1 m' hm' hK' h1 hR' hG' hE' a' w' h4'
    cases e with
    | norm => cases h1
    | exit id => cases h1
    | ret =>
      obtain ⟨l', hl, rfl⟩ := Option.map_eq_some_iff.1 h1
      cases hR' with
      | leaf =>
        obtain ⟨β, v, r1, r2⟩ := resE_sound (cfg_ok tabRsq_ok) h4' (fn := Tryz.f114) (rs := Tryz.f114.results.toList) (by simp) (by decide +kernel) hl
        obtain ⟨β', hS⟩ := h4'
        refine ⟨hS.nd, v, r1, ?_⟩
        obtain ⟨vs, rfl, u1, r1, rfl, k1, u2, r2, rfl, k2, hn⟩ := r2
        simp only [tupAll] at hn
        subst hn
        have k2' := one_num.1 k2
        subst k2'
        have k1' := (one_int.1 k1).1
        refine ⟨u1, ?_, ?_, hS.bl⟩
        · show _ = Ending.returned (.tuple #[u1, .int .i64 (isqE (n : Int))])
          rw [show isqE (n : Int) = 0 from if_neg (by omega)]
          rfl
        · rw [show isq (n : Int) = (isqN n : Int) by unfold isq; rw [if_neg (by omega), Int.natAbs_natCast], ← hE]
          exact k1'

theorem open_iq {E : Env} {β : Nat → Nat} {w : World} {v : Value} {x u : IT} {l : Nat} (hx : (AV.tup [(true, [.int x l]), (false, [.n .i64 u])]).holds E β w v) : ∃ p, v = .tuple #[p, .int .i64 (u.den E)] ∧ IsInt w p (x.den E) := by
  obtain ⟨vs, rfl, u1, r1, rfl, k1, u2, r2, rfl, k2, hn⟩ := hx
  simp only [tupAll] at hn
  subst hn
  have k2' := one_num.1 k2
  subst k2'
  exact ⟨u1, rfl, (one_int.1 k1).1⟩
theorem rsqrt_any (w : World) (v : Value) (z : Int) (h : IsInt w v z) (l : Lim 100000 z) : Calls Tryz.prog 114 #[v] w (RetSqA z w) := by
  by_cases hz : 0 < z
  · exact rsqrt_pos w v z h l hz
  · by_cases h0 : z = 0
    · subst h0
      refine (fun_sound (C := cfgOf []) (E := zE []) (args := [.val true [.int (.lit 0) 0]]) (T := .leaf [(true, [.int (.lit 0) 0]), (false, [.n .i64 (.lit 0)])])
        mixed (cfg_ok .nil) no_asm Tryz.func114 (by decide +kernel) (by kernel_rfl) (by decide +kernel) rfl w [v] rfl ?_).mono ?_
      · intro i x hx
        match i, hx with
        | 0, hx => injection hx with hx; subst hx; exact ⟨fun _ => 0, v, rfl, one_int.2 ⟨h, lim_zero⟩⟩
      · rintro e w' ⟨β, u, rfl, hh, ex⟩
        obtain ⟨p, rfl, hp⟩ := open_iq hh
        exact ⟨p, rfl, hp, ex⟩
    · have hneg : z < 0 := by omega
      refine (fun_sound (C := cfgOf []) (E := zE [z]) (G := [(.lt (.var 0) (.lit 0), true)]) (args := [.val true [.int (.var 0) 100000]]) (T := .leaf [(true, [.int (.lit 0) 0]), (false, [.n .i64 (.lit 7)])])
        mixed (cfg_ok .nil) (asm_cons no_asm (by show decide (z < 0) = true; exact decide_eq_true hneg)) Tryz.func114 (by decide +kernel) (by kernel_rfl) (by decide +kernel) rfl w [v] rfl ?_).mono ?_
      · intro i x hx
        match i, hx with
        | 0, hx => injection hx with hx; subst hx; exact ⟨fun _ => 0, v, rfl, one_int.2 ⟨h, l⟩⟩
      · rintro e w' ⟨β, u, rfl, hh, ex⟩
        obtain ⟨p, rfl, hp⟩ := open_iq hh
        refine ⟨p, ?_, ?_, ex⟩
        · rw [show isqE z = 7 from if_pos hneg]; rfl
        · rw [show isq z = 0 from if_pos hneg]; exact hp

end Go.Proofs.YtmofkmdacfdejaaGreatDoor
end

/- ---- Rff ---- -/
section
/-
  RationalSqrt.
-/
set_option maxRecDepth 100000
namespace Go.Proofs.YtmofkmdacfdejaaGreatDoor
open Go.RowKit

def kSqRef : Con
  | [.val true [.int x l]], _ => if decide (l ≤ 100000) then some (.tup [(true, [.int (.a1 2 x) l]), (false, [.n .i64 (.a1 3 x)])]) else none
  | _, _ => none
theorem kSqRef_ok {E : Env} : ConOK Tryz.prog E 114 kSqRef := by
  refine ⟨?_, ?_, ⟨_, Tryz.func114, by decide +kernel, by kernel_rfl⟩⟩
  · intro args As r h hG β w vs hv hlen
    unfold kSqRef at h
    split at h
    · split at h
      · rename_i hlo
        injection h with h
        subst h
        simp only [decide_eq_true_iff] at hlo
        obtain ⟨v, rfl, h1⟩ := args1 hv hlen
        obtain ⟨i1, l1⟩ := one_int.1 h1
        refine (rsqrt_any w v _ i1 (l1.mono hlo)).mono ?_
        rintro e w' ⟨u, rfl, k1, ex⟩
        exact ⟨_, rfl, ⟨[u, .int .i64 _], rfl, u, _, rfl, one_int.2 ⟨k1, isq_lim l1⟩, _, _, rfl, one_num.2 rfl, rfl⟩, ex⟩
      · cases h
    · cases h
  · intro args As r h x off
    unfold kSqRef at h
    split at h
    · split at h
      · injection h with h; subst h; intro e; cases e
      · cases h
    · cases h
theorem open_ib' {E : Env} {β : Nat → Nat} {w : World} {v : Value} {x : IT} {k : Nat} {t : BT} (hx : (AV.tup [(true, [.int x k]), (false, [.b t])]).holds E β w v) : ∃ p, v = .tuple #[p, .bool (t.den E)] ∧ IsInt w p (x.den E) := by
  obtain ⟨vs, rfl, u1, r1, rfl, k1, u2, r2, rfl, k2, hn⟩ := hx
  simp only [tupAll] at hn
  subst hn
  have k2' := one_bool.1 k2
  subst k2'
  exact ⟨u1, rfl, (one_int.1 k1).1⟩
theorem perfect_calls (w : World) (v : Value) (z : Int) (h : IsInt w v z) (l : Lim 100000 z) :
    Calls Tryz.prog 83 #[v] w fun e w' => ∃ u, e = .returned (.tuple #[u, .bool (sqB z)]) ∧ IsInt w' u (isq z) ∧ Ext w w' := by
  refine (fun_sound (C := cfgOf ((114, kSqRef) :: (57, kIIb fun x y => .eq x y) :: tabR1)) (E := zE [z]) (args := [.val true [.int (.var 0) 100000]])
    (T := .ite (.eq (.a1 3 (.var 0)) (.lit 0)) (.leaf [(true, [.int (.a1 2 (.var 0)) 100000]), (false, [.b (.eq (.a2 2 (.a1 2 (.var 0)) (.a1 2 (.var 0))) (.var 0))])]) (.leaf [(true, [.int (.a1 2 (.var 0)) 100000]), (false, [.b (.lit false)])]))
    mixed (cfg_ok (.cons kSqRef_ok (.cons (kIIb_ok (fun x y => x == y) (fun _ _ => rfl) (fun w v1 v2 z1 z2 h1 h2 => (rsame_calls w v1 v2 z1 z2 h1 h2).mono (fun e w' h => ⟨by rw [h.1]; by_cases hz : z1 = z2 <;> simp [hz], h.2⟩)) ⟨_, Tryz.func57, by decide +kernel, by kernel_rfl⟩) tabR1_ok)))
    no_asm Tryz.func83 (by decide +kernel) (by kernel_rfl) (by decide +kernel) rfl w [v] rfl ?_).mono ?_
  · intro i x hx
    match i, hx with
    | 0, hx => injection hx with hx; subst hx; exact ⟨fun _ => 0, v, rfl, one_int.2 ⟨h, l⟩⟩
  · rintro e w' ⟨β, u, rfl, hh, ex⟩
    simp only [Tree.pick] at hh
    split at hh
    · rename_i hz
      obtain ⟨p, rfl, hp⟩ := open_ib' hh
      refine ⟨p, ?_, hp, ex⟩
      have hz' : (isqE z == 0) = true := hz
      have e1 : (BT.eq (.a2 2 (.a1 2 (.var 0)) (.a1 2 (.var 0))) (.var 0)).den (zE [z]) = (cmpZ (isq z * isq z) z == 0) := by
        show (isq z * isq z == z) = _
        rw [Bool.eq_iff_iff, beq_iff_eq, beq_iff_eq]
        rcases cmpZ_cases (isq z * isq z) z with ⟨h, e⟩ | ⟨h, e⟩ | ⟨h, e⟩ <;> rw [e] <;> omega
      rw [e1]
      unfold sqB
      rw [hz', Bool.true_and]
    · rename_i hz
      obtain ⟨p, rfl, hp⟩ := open_ib' hh
      have hz' : (isqE z == 0) = false := by
        cases hb : (isqE z == 0) with
        | false => rfl
        | true => exact absurd hb hz
      refine ⟨p, ?_, hp, ex⟩
      unfold sqB
      rw [hz', Bool.false_and]
      rfl
theorem kPf_ok {E : Env} : ConOK Tryz.prog E 83 kSqr := by
  refine ⟨?_, ?_, ⟨_, Tryz.func83, by decide +kernel, by kernel_rfl⟩⟩
  · intro args As r h hG β w vs hv hlen
    unfold kSqr at h
    split at h
    · split at h
      · rename_i hlo
        injection h with h
        subst h
        simp only [decide_eq_true_iff] at hlo
        obtain ⟨v, rfl, h1⟩ := args1 hv hlen
        obtain ⟨i1, l1⟩ := one_int.1 h1
        refine (perfect_calls w v _ i1 (l1.mono hlo)).mono ?_
        rintro e w' ⟨u, rfl, k1, ex⟩
        exact ⟨_, rfl, ⟨[u, .bool _], rfl, u, _, rfl, one_int.2 ⟨k1, isq_lim l1⟩, _, _, rfl, one_bool.2 rfl, rfl⟩, ex⟩
      · cases h
    · cases h
  · intro args As r h x off
    unfold kSqr at h
    split at h
    · split at h
      · injection h with h; subst h; intro e; cases e
      · cases h
    · cases h
theorem rsqrtQ_calls (w : World) (v : Value) (n d : Int) (h : IsPair w v n d) (l1 : Lim 100000 n) (l2 : Lim 100000 d) : Calls Tryz.prog 43 #[v] w (RetSqQ n d w) := by
  refine (fun_sound (C := cfgOf [(83, kSqr)]) (E := zE [n, d]) (args := [argQ 0]) (T := tSq)
    mixed (cfg_ok (.cons kPf_ok .nil)) no_asm Tryz.func43 (by decide +kernel) (by kernel_rfl) (by decide +kernel) rfl w [v] rfl ?_).mono ?_
  · intro i x hx
    match i, hx with
    | 0, hx => injection hx with hx; subst hx; exact ⟨fun _ => 0, v, rfl, argP_holds h l1 l2 rfl rfl⟩
  · rintro e w' ⟨β, u, rfl, hh, ex⟩
    have d0 : (BT.and (.eq (.a1 3 (.var 0)) (.lit 0)) (.eq (.a2 3 (.a2 2 (.a1 2 (.var 0)) (.a1 2 (.var 0))) (.var 0)) (.lit 0))).den (zE [n, d]) = sqB n := rfl
    have d1 : (BT.and (.eq (.a1 3 (.var 1)) (.lit 0)) (.eq (.a2 3 (.a2 2 (.a1 2 (.var 1)) (.a1 2 (.var 1))) (.var 1)) (.lit 0))).den (zE [n, d]) = sqB d := rfl
    unfold tSq at hh
    simp only [Tree.pick, d0, d1] at hh
    unfold RetSqQ sqN
    cases h0 : sqB n <;> cases h1 : sqB d <;> rw [h0, h1] at hh
    · obtain ⟨p, rfl, hp⟩ := open_qb hh
      exact ⟨p, rfl, hp, ex⟩
    · obtain ⟨p, rfl, hp⟩ := open_qb hh
      exact ⟨p, rfl, hp, ex⟩
    · obtain ⟨p, rfl, hp⟩ := open_qb hh
      exact ⟨p, rfl, hp, ex⟩
    · obtain ⟨p, rfl, hp⟩ := open_qb hh
      exact ⟨p, rfl, hp, ex⟩

/-- Squares of rational numbers. -/
theorem mul_self_parts (a : Rat) : (a * a).num = a.num * a.num ∧ (a * a).den = a.den * a.den := by
  have hc : (a.num * a.num).natAbs.Coprime (a.den * a.den) := by
    rw [Int.natAbs_mul]
    exact (Nat.Coprime.mul_left a.reduced a.reduced).symm.mul_left (Nat.Coprime.mul_left a.reduced a.reduced).symm |>.symm
  have hn : a.den * a.den ≠ 0 := Nat.mul_ne_zero a.den_nz a.den_nz
  have e : a * a = ⟨a.num * a.num, a.den * a.den, hn, hc⟩ := by
    rw [Rat.mk_eq_divInt]
    have h : Rat.divInt a.num a.den * Rat.divInt a.num a.den = a * a := by rw [Rat.num_divInt_den]
    rw [← h, Rat.divInt_mul_divInt, Int.natCast_mul]
  rw [e]
  exact ⟨rfl, rfl⟩
def ratAbs (a : Rat) : Rat := ⟨(a.num.natAbs : Int), a.den, a.den_nz, by rw [Int.natAbs_natCast]; exact a.reduced⟩
theorem isq_self (n : Int) : isq (n * n) = (n.natAbs : Int) ∧ sqB (n * n) = true := by
  have h0 : ¬ n * n < 0 := by
    have e : ((n.natAbs : Int)) * (n.natAbs : Int) = n * n := Int.natAbs_mul_self
    have h := Int.natCast_nonneg (n.natAbs * n.natAbs)
    rw [Int.natCast_mul, e] at h
    omega
  have e1 : isq (n * n) = (n.natAbs : Int) := by
    unfold isq
    rw [if_neg h0, Int.natAbs_mul]
    congr 1
    refine isqN_spec_eq ⟨Nat.le_refl _, ?_⟩
    exact Nat.mul_lt_mul'' (by omega) (by omega)
  refine ⟨e1, ?_⟩
  unfold sqB
  rw [e1]
  have e2 : ((n.natAbs : Int)) * (n.natAbs : Int) = n * n := Int.natAbs_mul_self
  rw [e2, cmpZ_eq rfl]
  unfold isqE
  rw [if_neg h0]
  rfl
theorem sqB_spec {z : Int} (h : sqB z = true) : isq z * isq z = z := by
  unfold sqB at h
  rw [Bool.and_eq_true, beq_iff_eq, beq_iff_eq] at h
  rcases cmpZ_cases (isq z * isq z) z with ⟨_, e⟩ | ⟨k, _⟩ | ⟨_, e⟩
  · have := h.2; omega
  · exact k
  · have := h.2; omega
theorem root_rat {a : Rat} (h : sqB a.num = true) (k : sqB (a.den : Int) = true) : ∃ s : Rat, s.num = isq a.num ∧ (s.den : Int) = isq (a.den : Int) := by
  have e1 := sqB_spec h
  have e2 := sqB_spec k
  have hd : (a.den : Int) ≠ 0 := den_ne a
  have hp : 0 ≤ isq (a.den : Int) := by unfold isq; split <;> omega
  have hne : (isq (a.den : Int)).natAbs ≠ 0 := by
    intro e
    have : isq (a.den : Int) = 0 := by omega
    rw [this] at e2
    omega
  have hc : (isq a.num).natAbs.Coprime (isq (a.den : Int)).natAbs := by
    have h1 : (isq a.num).natAbs * (isq a.num).natAbs = a.num.natAbs := by rw [← Int.natAbs_mul, e1]
    have h2 : (isq (a.den : Int)).natAbs * (isq (a.den : Int)).natAbs = a.den := by rw [← Int.natAbs_mul, e2, Int.natAbs_natCast]
    have hr := a.reduced
    rw [← h1, ← h2] at hr
    exact (Nat.Coprime.coprime_mul_left (Nat.Coprime.coprime_mul_left hr).symm).symm
  refine ⟨⟨isq a.num, (isq (a.den : Int)).natAbs, hne, hc⟩, rfl, ?_⟩
  show (((isq (a.den : Int)).natAbs : Nat) : Int) = _
  omega
def isV (i : Nat) : IT → Bool
  | .var j => i == j
  | _ => false
theorem isV_spec {i : Nat} {t : IT} (h : isV i t = true) : t = .var i := by
  cases t <;> simp only [isV, Bool.false_eq_true, beq_iff_eq] at h
  rw [h]
def kSqC (b : Bool) : Con
  | [.val true [.int x l, .int y m]], _ =>
    if (isV 0 x && isV 1 y) && (decide (l ≤ 6) && decide (m ≤ 6)) then some (if b then .tup [(true, [.int (.var 2) 6, .int (.var 3) 6]), (false, [.b (.lit true)])] else .tup [(true, [.int (.lit 0) 0, .int (.lit 0) 0]), (false, [.b (.lit false)])])
    else if (x.beq (qop 2 (qv 0) (qv 0)).1 && y.beq (qop 2 (qv 0) (qv 0)).2) && (decide (l ≤ 100000) && decide (m ≤ 100000)) then some (.tup [(true, [.int (.var 4) 6, .int (.var 5) 6]), (false, [.b (.lit true)])]) else none
  | _, _ => none
theorem kSqC_ok {a s : Rat} {b : Bool} (la : LimQ 6 a) (hb : (sqB a.num && sqB (a.den : Int)) = b) (hs : b = true → s.num = isq a.num ∧ (s.den : Int) = isq (a.den : Int)) {f : Nat}
    (hc : ∀ (w : World) (v : Value) (n d : Int), IsPair w v n d → Lim 100000 n → Lim 100000 d → Calls Tryz.prog f #[v] w (RetSqQ n d w))
    (hf : ∃ fn, Tryz.prog.funcs[f]? = some fn ∧ fn.name ≠ "runtime.NumGoroutine" ∧ fn.body.isNone = false) : ConOK Tryz.prog (qE [a, s, ratAbs a]) f (kSqC b) := by
  have ra : RepQ (qE [a, s, ratAbs a]) (qv 0) a := rep_v (i := 0)
  have rs : RepQ (qE [a, s, ratAbs a]) (qv 1) s := rep_v (i := 1)
  have rt : RepQ (qE [a, s, ratAbs a]) (qv 2) (ratAbs a) := rep_v (i := 2)
  have rm : RepQ (qE [a, s, ratAbs a]) (qop 2 (qv 0) (qv 0)) (a * a) := rep_op (f := 2) (by omega) ra ra
  refine ⟨?_, ?_, hf⟩
  · intro args As r h hG β w vs hv hlen
    unfold kSqC at h
    split at h
    · split at h
      · rename_i x l y m hm
        simp only [Bool.and_eq_true, decide_eq_true_iff] at hm
        obtain ⟨⟨hx, hy⟩, hl, hm⟩ := hm
        obtain rfl := isV_spec hx
        obtain rfl := isV_spec hy
        injection h with h
        subst h
        obtain ⟨v, rfl, h1⟩ := args1 hv hlen
        obtain ⟨p1, a1, a2⟩ := one_pair.1 h1
        have e1 : (IT.var 0).den (qE [a, s, ratAbs a]) = a.num := ra.1
        have e2 : (IT.var 1).den (qE [a, s, ratAbs a]) = (a.den : Int) := ra.2
        rw [e1, e2] at p1
        rw [e1] at a1
        rw [e2] at a2
        refine (hc w v _ _ p1 (a1.mono (by omega)) (a2.mono (by omega))).mono ?_
        rintro e w' ⟨u, rfl, hp, ex⟩
        unfold sqN at hp
        rw [hb] at hp ⊢
        cases b with
        | true =>
          obtain ⟨s1, s2⟩ := hs rfl
          rw [if_pos rfl, if_pos rfl, ← s1, ← s2] at hp
          refine ⟨_, rfl, ⟨[u, .bool true], rfl, u, _, rfl, one_pair.2 ⟨?_, ?_, ?_⟩, _, _, rfl, one_bool.2 rfl, rfl⟩, ex⟩
          · show IsPair w' u ((qv 1).1.den _) ((qv 1).2.den _)
            rw [rs.1, rs.2]; exact hp
          · show Lim 6 ((qv 1).1.den _)
            rw [rs.1, s1]; exact isq_lim la.1
          · show Lim 6 ((qv 1).2.den _)
            rw [rs.2, s2]; exact isq_lim la.2
        | false =>
          rw [if_neg (by decide), if_neg (by decide)] at hp
          exact ⟨_, rfl, ⟨[u, .bool false], rfl, u, _, rfl, one_pair.2 ⟨hp, lim_zero, lim_zero⟩, _, _, rfl, one_bool.2 rfl, rfl⟩, ex⟩
      · split at h
        · rename_i x l y m _ hm
          simp only [Bool.and_eq_true, decide_eq_true_iff] at hm
          obtain ⟨⟨hx, hy⟩, hl, hm⟩ := hm
          obtain rfl := IT.eq_of_beq hx
          obtain rfl := IT.eq_of_beq hy
          injection h with h
          subst h
          obtain ⟨v, rfl, h1⟩ := args1 hv hlen
          obtain ⟨p1, a1, a2⟩ := one_pair.1 h1
          obtain ⟨m1, m2⟩ := mul_self_parts a
          rw [rm.1, rm.2, m1, m2, Int.natCast_mul] at p1
          rw [rm.1, m1] at a1
          rw [rm.2, m2, Int.natCast_mul] at a2
          obtain ⟨i1, j1⟩ := isq_self a.num
          obtain ⟨i2, j2⟩ := isq_self (a.den : Int)
          refine (hc w v _ _ p1 (a1.mono hl) (a2.mono hm)).mono ?_
          rintro e w' ⟨u, rfl, hp, ex⟩
          unfold sqN at hp
          rw [j1, j2] at hp ⊢
          rw [Bool.and_self, if_pos rfl, if_pos rfl, i1, i2, Int.natAbs_natCast] at hp
          refine ⟨_, rfl, ⟨[u, .bool true], rfl, u, _, rfl, one_pair.2 ⟨?_, ?_, ?_⟩, _, _, rfl, one_bool.2 rfl, rfl⟩, ex⟩
          · show IsPair w' u ((qv 2).1.den _) ((qv 2).2.den _)
            rw [rt.1, rt.2]; exact hp
          · show Lim 6 ((qv 2).1.den _)
            rw [rt.1]
            exact la.1.natAbs_le (by show ((a.num.natAbs : Int)).natAbs ≤ _; rw [Int.natAbs_natCast]; exact Nat.le_refl _)
          · show Lim 6 ((qv 2).2.den _)
            rw [rt.2]
            exact la.2
        · cases h
    · cases h
  · intro args As r h x off
    unfold kSqC at h
    split at h
    · split at h
      · injection h with h; subst h; cases b <;> (intro e; cases e)
      · split at h
        · injection h with h; subst h; intro e; cases e
        · cases h
    · cases h
def tabSqL (b : Bool) : List (Nat × Con) := (42, kSqC b) :: (43, kSqC b) :: tabT
def sqLT : Tree :=
  .ite (.le (.lit 0) (.a2 3 (.var 4) (.lit 0))) (.ite (.and (.eq (.var 4) (.var 0)) (.eq (.var 5) (.var 1))) (leafB (.lit true)) (leafB (.and (.eq (.var 4) (.a1 0 (.var 0))) (.eq (.var 5) (.var 1))))) (leafB (.lit false))
theorem sqrt_valid {W : World → Prop} (haw : Awake W) (w : World) (hW : ∀ w', Ext w w' → W w') (v1 : Value) (a : Rat) (h1 : IsRat w v1 a) (l1 : LimQ 6 a) :
    Calls Tryz.prog 9 #[v1] w (IsTrue w) := by
  have key : ∀ (b : Bool) (s : Rat), (sqB a.num && sqB (a.den : Int)) = b → (b = true → s.num = isq a.num ∧ (s.den : Int) = isq (a.den : Int)) →
      (∀ W, funE (cfgL W (tabSqL b) (smT 1)) Tryz.f9 [] [argS 0] = some sqLT) → Calls Tryz.prog 9 #[v1] w (IsTrue w) := by
    intro b s hb hs hR
    have hsm : SmOK (qE [a, s, ratAbs a]) (smT 1) := by
      intro cs off c h w bl hv
      have h' := h
      unfold smT at h'
      split at h'
      · rename_i hbb
        simp only [Bool.and_eq_true, beq_iff_eq] at hbb
        obtain ⟨k1, k2, rfl⟩ := hbb
        have hcs := isVars_spec k1
        rw [k2] at hcs
        have hcs' : cs = [.int (.var 0) 6, .int (.var 1) 6] := hcs
        subst hcs'
        exact smT_ok1 (smQ_of l1 h1) _ _ c h w bl hv
      · cases h'
    refine (fun_sound (C := cfgL W (tabSqL b) (smT 1)) (E := qE [a, s, ratAbs a]) (args := [argS 0]) (T := sqLT)
      mixed (cfgL_ok (.cons (kSqC_ok l1 hb hs (fun w v n d h l m => sqrtQ_calls w v n d h l m) ⟨_, Tryz.func42, by decide +kernel, by kernel_rfl⟩)
        (.cons (kSqC_ok l1 hb hs (fun w v n d h l m => rsqrtQ_calls w v n d h l m) ⟨_, Tryz.func43, by decide +kernel, by kernel_rfl⟩) (tabT_ok (qE_ok _)))) haw hsm)
      no_asm Tryz.func9 (by decide +kernel) (hR W) (by decide +kernel) rfl w [v1] rfl ?_ hW).mono ?_
    · intro i x hx
      match i, hx with
      | 0, hx => injection hx with hx; subst hx; exact ⟨fun _ => 0, v1, rfl, argS_holds h1 l1 rfl rfl⟩
    · rintro e w' ⟨β, u, rfl, hh, ex⟩
      have n1 : (BT.le (.lit 0) (.a2 3 (.var 4) (.lit 0))).den (qE [a, s, ratAbs a]) = true := by
        show decide (0 ≤ cmpZ ((a.num.natAbs : Nat) : Int) 0) = true
        rw [decide_eq_true_iff]
        rcases cmpZ_cases ((a.num.natAbs : Nat) : Int) 0 with ⟨h, e⟩ | ⟨h, e⟩ | ⟨h, e⟩ <;> rw [e] <;> omega
      have n2 : (BT.and (.eq (.var 4) (.var 0)) (.eq (.var 5) (.var 1))).den (qE [a, s, ratAbs a]) = (((a.num.natAbs : Nat) : Int) == a.num && (a.den : Int) == (a.den : Int)) := rfl
      have n3 : (BT.and (.eq (.var 4) (.a1 0 (.var 0))) (.eq (.var 5) (.var 1))).den (qE [a, s, ratAbs a]) = (((a.num.natAbs : Nat) : Int) == - a.num && (a.den : Int) == (a.den : Int)) := rfl
      unfold sqLT leafB at hh
      simp only [Tree.pick] at hh
      rw [if_pos n1, n2] at hh
      by_cases hz : 0 ≤ a.num
      · have e1 : ((a.num.natAbs : Nat) : Int) = a.num := by omega
        rw [if_pos (by rw [e1]; simp)] at hh
        have := one_bool.1 hh
        subst this
        exact ⟨rfl, ex⟩
      · have e1 : ((a.num.natAbs : Nat) : Int) ≠ a.num := by omega
        have e2 : ((a.num.natAbs : Nat) : Int) = - a.num := by omega
        rw [if_neg (by rw [beq_eq_false_iff_ne.2 e1]; simp)] at hh
        have := one_bool.1 hh
        subst this
        rw [n3, e2]
        refine ⟨?_, ex⟩
        simp
  cases hb : (sqB a.num && sqB (a.den : Int)) with
  | true =>
    have hb' := hb
    rw [Bool.and_eq_true] at hb'
    obtain ⟨s, s1, s2⟩ := root_rat hb'.1 hb'.2
    exact key true s hb (fun _ => ⟨s1, s2⟩) (fun _ => by kernel_rfl)
  | false => exact key false 0 hb (fun h => by cases h) (fun _ => by kernel_rfl)
theorem lawSqrtQ_calls {W : World → Prop} (haw : Awake W) (w : World) (hW : ∀ w', Ext w w' → W w') (v1 : Value) (s1 s2 : Bool) (xs1 xs2 : List Nat) (h1 : RawQ w v1 s1 xs1 s2 xs2) :
    Calls Tryz.prog 9 #[v1] w (IsTrue w) :=
  law1_any Tryz.func9 (by decide +kernel) (by kernel_rfl) (by decide +kernel) haw w hW v1 s1 s2 xs1 xs2 h1 (fun a i1 l1 => sqrt_valid haw w hW v1 a i1 l1)
end Go.Proofs.YtmofkmdacfdejaaGreatDoor
end

/- ---- SqrtQCard ---- -/
section
/-
  The tied card RationalSqrtCardSaid: for every input the call returns true, and each argument reads behind the call as it read before.
-/
namespace Go.Proofs.YtmofkmdacfdejaaGreatDoor.lawSqrtQ
open Go.ChangeShapes Go.WideShapes Go.ChangeAt Go.RowKit
open Go.ChangeMaps (open_string shut_string)

set_option maxRecDepth 100000 in
theorem lifted (os : Os) (started : os.Started) (H : Type) (enc : TypeId × Value → H) :
    ReturnsInHanded {} Tryz.checked os 9 .any (fun w args => (Rows.rationalSqrtSpec.pre enc Tryz.prog Tryz.f9 [] false w args ∧ laidMetH Tryz.prog laidL w) ∧ sizedMet enc Tryz.prog Tryz.f9 (OpenSpec.ofChange Rows.rationalSqrtSpec) false w args)
      (Rows.rationalSqrtSpec.post enc Tryz.prog Tryz.f9 false true false false) := by
  refine handed_laid (C := Tryz.checked) own started (by kernel_rfl) Tryz.func9
    (ChangeSpec.witness_shaped (enc := enc) (C := Tryz.checked) (os := os) (X := fun w _ => laidMetH Tryz.prog laidL w) false (World.doorLaid Tryz.prog 24 os) #[.agg #[.bool false, .slice none 0 0, .bool false, .slice none 0 0]] 8 rfl (World.shaped_of_RefB (by kernel_rfl) (by kernel_rfl)) (by kernel_rfl) (by kernel_rfl) (by kernel_rfl) (door_met os _)) ?_
  intro W base args ds gs before hval0 hW _ hL hsh
  have hWQ : WQ W := WQ.laid hL hsh
  have hval : ∀ (j : Nat) t v, Tryz.f9.params[j]? = some t → args[j]? = some v → Value.okWide Tryz.prog W .any base t v := hval0
  have hW' := hW
  obtain ⟨p, q, hA0, hV, rfl, hfz, hnd⟩ := hW
  have hA : DataW.TrodAll enc Tryz.prog W 0 (fun _ => true) true Tryz.f9.params.toList args.toList ds p := hA0
  rw [Tryz.params9] at hA hval
  obtain ⟨v0, vs0, d0, ds0, p0, q0, hargs, rfl, rfl, h0, r0⟩ := trodAll_cons hA
  obtain ⟨rfl, rfl, rfl⟩ := trodAll_nil r0
  obtain rfl : args = #[v0] := by cases args; simp_all
  obtain ⟨rfl, rfl⟩ := trodVars_none hV
  have k0 := h0
  have lt0 : ∀ x ∈ p0, x.block < W.heap.size := by obtain ⟨m, hm⟩ := k0; exact DataW.trod_lt m _ _ _ hm
  obtain ⟨s0, x0, t0, y0, w0⟩ := open_q (hval 0 29 v0 rfl rfl) h0
  clear hA0 hval0
  refine (lawSqrtQ_calls awake_ok W (fun w' e => hWQ.ext e) v0 s0 t0 x0 y0 w0).mono fun e W' ⟨he, bel⟩ => ?_
  subst he
  exact ⟨_, rfl, _, _, _, [], _, [], hW', trodAll_mk1 (shut_bool Tryz.underlying4 _), (trodAll_cons_mk (Below.trod laidOut (by kernel_rfl) (of_decide_eq_true (by kernel_rfl)) k0 bel lt0) trodAll_mk0), rfl, bel.frame _, fun h => by cases h⟩

theorem over : Rows.RationalSqrtSaid :=
  OpenClaim.holds_of_wide 9 Tryz.f9 rfl rfl rfl rfl rfl rfl rfl ⟨rfl, rfl, rfl, rfl, rfl⟩ rfl rfl rfl rfl rfl (by kernel_rfl) Tryz.func9 (by kernel_rfl)
    (of_decide_eq_true (by kernel_rfl)) (by unfold Func.isWrapper; first | (rw [if_pos (by decide +kernel)]; kernel_rfl) | (rw [if_neg (by decide +kernel)]; exact ⟨rfl, rfl⟩))
    (fun os started H enc _ => lifted os started H enc)

theorem proved : Rows.RationalSqrtCardSaid :=
  Claim7.holds_tied_plain_at .later [] [.data, .data, .data] true (true, "aeb570a7155a974368a6e853c8f51ef925c14d306eb31d39a16145bee058b322") false
    over (fun _ h => by cases h) (by kernel_rfl) (fun _ h => by cases h) rationalSqrt_row_tie rfl ⟨rfl, rfl⟩ (by kernel_rfl) rfl
    (fun f fn hf hfn => by
      obtain rfl : f = 9 := Option.some.inj ((show Tryz.prog.funcNamed "swarf/swarflaw02.RationalSqrt" = some 9 by kernel_rfl).symm.trans hf) |>.symm
      obtain rfl : fn = Tryz.f9 := (Option.some.inj (Tryz.func9.symm.trans hfn)).symm
      exact ⟨by kernel_rfl, fun j t ht => by
        rw [Tryz.params9] at ht
        have hm : t ∈ [29] := by simpa using Array.mem_of_getElem? ht
        have hall : ([29].all fun u => !Tryz.prog.wantsStandIn u) = true := by kernel_rfl
        exact (show Tryz.prog.wantsStandIn t = false by simpa using List.all_eq_true.1 hall t hm)⟩)
    (by kernel_rfl)
end Go.Proofs.YtmofkmdacfdejaaGreatDoor.lawSqrtQ
end
