/-
  Texts of this seat, joined.
-/
import Derived.Test.YtdblkeeicmncfaaGreatJ7
/- ---- Inl ---- -/
section
/-
  Functions taken at their text: a call is what the walk through its body comes to.
-/
set_option maxRecDepth 100000
namespace Go.Proofs.YtdblkeeicmncfaaGreat
open Go.RowKit

def kInl (C : Cfg) (fn : Func) : Con := fun args G =>
  if args.all noPtr && (decide (args.length ≤ fn.ntmps) && decide (fn.results.toList.length ≤ 4)) then
    match funE C fn G args with
    | some (.leaf l) => some (toAV l)
    | _ => none
  else none
def kInlN (C : Cfg) (fn : Func) (args : List AV) (G : Asm) : Option BT :=
  match funE C fn G args with
  | some (.ite b _ _) => some b
  | _ => none
theorem toAV_nptr {l : List (Bool × List Chunk)} {x off : Nat} : toAV l ≠ .ptr x off := by
  unfold toAV
  split <;> (intro h; cases h)
theorem toAV_beta {E : Env} {β β' : Nat → Nat} {w : World} {l : List (Bool × List Chunk)} {v : Value} (h : (toAV l).holds E β w v) : (toAV l).holds E β' w v := by
  unfold toAV at *
  split at h <;> exact h
structure InlOK (P : Program) (l : List (Nat × Func)) : Prop where
  all : ∀ p ∈ l, P.funcs[p.1]? = some p.2 ∧ p.2.name ≠ "runtime.NumGoroutine" ∧ p.2.body.isNone = false
theorem InlOK.nil {P : Program} : InlOK P [] := ⟨fun _ h => by cases h⟩
theorem InlOK.cons {P : Program} {f : Nat} {fn : Func} {l : List (Nat × Func)} (h : P.funcs[f]? = some fn) (h1 : fn.name ≠ "runtime.NumGoroutine") (h2 : fn.body.isNone = false) (k : InlOK P l) : InlOK P ((f, fn) :: l) := ⟨fun d hd => by
  rcases List.mem_cons.1 hd with rfl | hd
  · exact ⟨h, h1, h2⟩
  · exact k.all d hd⟩
theorem kInl_ok {P : Program} (hm : P.follows .mixedOrders = true) {E : Env} {C : Cfg} (hC : CfgOK P E C) (hw : ∀ w, C.wok w) {f : Nat} {fn : Func} (hf : P.funcs[f]? = some fn) (h1 : fn.name ≠ "runtime.NumGoroutine") (h2 : fn.body.isNone = false) : ConOK P E f (kInl C fn) := by
  refine ⟨?_, ?_, fn, hf, h1, h2⟩
  · intro args G r h hG β w vs hv hlen
    unfold kInl at h
    split at h
    · rename_i hc
      simp only [Bool.and_eq_true, decide_eq_true_iff] at hc
      split at h
      · rename_i l hl
        injection h with h
        subst h
        refine (fun_sound hm hC hG hf hc.2.2 hl hc.2.1 hc.1 w vs hlen (fun i x hx => ⟨β, hv i x hx⟩) (fun w' _ => hw w')).mono ?_
        rintro e w' ⟨β', v, rfl, hh, ex⟩
        exact ⟨v, rfl, toAV_beta hh, ex⟩
      · cases h
    · cases h
  · intro args G r h x off
    unfold kInl at h
    split at h
    · split at h
      · injection h with h; subst h; exact toAV_nptr
      · cases h
    · cases h
/-- Calls of C, and where it knows none, functions taken at their text in C0. -/
def cfgI (C C0 : Cfg) (l : List (Nat × Func)) : Cfg :=
  { C with
    calls := fun f args M G => match findR l f with
      | some fn => kInl C0 fn args G
      | none => C.calls f args M G
    need := fun f args M G => match findR l f with
      | some fn => kInlN C0 fn args G
      | none => C.need f args M G }
theorem cfgI_ok {P : Program} (hm : P.follows .mixedOrders = true) {E : Env} {C C0 : Cfg} {l : List (Nat × Func)} (h : CfgOK P E C) (h0 : CfgOK P E C0) (hw : ∀ w, C0.wok w) (hl : InlOK P l) : CfgOK P E (cfgI C C0 l) := by
  refine ⟨h.zero, h.ag, h.fld, h.flds, h.bool, h.row, h.arr, ?_, ?_, ?_, h.slc, h.strT, h.cnv, h.apd⟩
  · intro f args M G r hr hG β w vs hwk hv hlen hmem
    simp only [cfgI] at hr
    split at hr
    · rename_i fn hfn
      obtain ⟨k1, k2, k3⟩ := hl.all _ (findR_spec hfn)
      exact (kInl_ok hm h0 hw k1 k2 k3).calls args G r hr hG β w vs hv hlen
    · exact h.calls f args M G r hr hG β w vs hwk hv hlen hmem
  · intro f args M G r hr x off
    simp only [cfgI] at hr
    split at hr
    · rename_i fn hfn
      obtain ⟨k1, k2, k3⟩ := hl.all _ (findR_spec hfn)
      exact (kInl_ok hm h0 hw k1 k2 k3).nptr args G r hr x off
    · exact h.nptr f args M G r hr x off
  · intro f args M G r hr
    simp only [cfgI] at hr
    split at hr
    · rename_i fn hfn
      obtain ⟨k1, k2, k3⟩ := hl.all _ (findR_spec hfn)
      exact ⟨fn, k1, k2, k3⟩
    · exact h.body f args M G r hr
theorem TabOK.app {P : Program} {E : Env} {l m : List (Nat × Con)} (h : TabOK P E l) (k : TabOK P E m) : TabOK P E (l ++ m) := ⟨fun p hp => by
  rcases List.mem_append.1 hp with hp | hp
  · exact h.all p hp
  · exact k.all p hp⟩
/-- A table, and functions taken at their text. -/
def cfgT (tab : List (Nat × Con)) (l : List (Nat × Func)) : Cfg := cfgI (cfgOf tab) (cfgOf tab) l
def cfgT2 (tab : List (Nat × Con)) (l l2 : List (Nat × Func)) : Cfg := cfgI (cfgT tab l) (cfgT tab l) l2
def cfgT3 (tab : List (Nat × Con)) (l l2 l3 : List (Nat × Func)) : Cfg := cfgI (cfgT2 tab l l2) (cfgT2 tab l l2) l3
theorem cfgT_ok {E : Env} {tab : List (Nat × Con)} {l : List (Nat × Func)} (hm : Tryz.prog.follows .mixedOrders = true) (h : TabOK Tryz.prog E tab) (hl : InlOK Tryz.prog l) : CfgOK Tryz.prog E (cfgT tab l) := cfgI_ok hm (cfg_ok h) (cfg_ok h) (fun _ => trivial) hl
theorem cfgT2_ok {E : Env} {tab : List (Nat × Con)} {l l2 : List (Nat × Func)} (hm : Tryz.prog.follows .mixedOrders = true) (h : TabOK Tryz.prog E tab) (hl : InlOK Tryz.prog l) (hl2 : InlOK Tryz.prog l2) : CfgOK Tryz.prog E (cfgT2 tab l l2) := cfgI_ok hm (cfgT_ok hm h hl) (cfgT_ok hm h hl) (fun _ => trivial) hl2
theorem cfgT3_ok {E : Env} {tab : List (Nat × Con)} {l l2 l3 : List (Nat × Func)} (hm : Tryz.prog.follows .mixedOrders = true) (h : TabOK Tryz.prog E tab) (hl : InlOK Tryz.prog l) (hl2 : InlOK Tryz.prog l2) (hl3 : InlOK Tryz.prog l3) : CfgOK Tryz.prog E (cfgT3 tab l l2 l3) := cfgI_ok hm (cfgT2_ok hm h hl hl2) (cfgT2_ok hm h hl hl2) (fun _ => trivial) hl3
end Go.Proofs.YtdblkeeicmncfaaGreat
end

/- ---- Rtc ---- -/
section
/-
  Roots as structs: what their cells hold, and as terms.
-/
set_option maxRecDepth 100000
namespace Go.Proofs.YtdblkeeicmncfaaGreat
open Go.RowKit

def IsRoot (w : World) (v : Value) (a b c : Rat) : Prop := ∃ x y z : List Value, v = .agg (x ++ (y ++ z)).toArray ∧ IsRat w (.agg x.toArray) a ∧ IsRat w (.agg y.toArray) b ∧ IsRat w (.agg z.toArray) c
def LimR (m : Nat) (a b c : Rat) : Prop := LimQ m a ∧ LimQ m b ∧ LimQ m c
theorem LimQ.mono {l m : Nat} {q : Rat} (h : LimQ l q) (k : l ≤ m) : LimQ m q := ⟨h.1.mono k, h.2.mono k⟩
theorem LimR.mono {l m : Nat} {a b c : Rat} (h : LimR l a b c) (k : l ≤ m) : LimR m a b c := ⟨h.1.mono k, h.2.1.mono k, h.2.2.mono k⟩
theorem IsRoot.ext {w w' : World} {v : Value} {a b c : Rat} (h : IsRoot w v a b c) (e : Ext w w') : IsRoot w' v a b c := by
  obtain ⟨x, y, z, rfl, h1, h2, h3⟩ := h
  exact ⟨x, y, z, rfl, h1.ext e, h2.ext e, h3.ext e⟩
def rt (A B C : IT2) (l : Nat) : List Chunk := [.int A.1 l, .int A.2 l, .int B.1 l, .int B.2 l, .int C.1 l, .int C.2 l]
theorem two_chunks {E : Env} {w : World} {A : IT2} {a : Rat} (hA : RepQ E A a) {l m : Nat} {cs : List Chunk} {vs : List Value} :
    chunks E w (.int A.1 l :: .int A.2 m :: cs) vs ↔ ∃ x r, vs = x ++ r ∧ (IsRat w (.agg x.toArray) a ∧ Lim l a.num ∧ Lim m (a.den : Int)) ∧ chunks E w cs r := by
  constructor
  · rintro ⟨u0, r0, rfl, ⟨x0, y0, rfl, i0, m0⟩, u1, r1, rfl, ⟨x1, y1, rfl, i1, m1⟩, h⟩
    rw [hA.1] at i0 m0
    rw [hA.2] at i1 m1
    exact ⟨[x0, y0, x1, y1], r1, rfl, ⟨⟨x0, y0, x1, y1, rfl, i0, i1⟩, m0, m1⟩, h⟩
  · rintro ⟨x, r, rfl, ⟨⟨x0, y0, x1, y1, hx, i0, i1⟩, m0, m1⟩, h⟩
    injection hx with hx
    have hx' : x = [x0, y0, x1, y1] := congrArg Array.toList hx
    subst hx'
    refine ⟨[x0, y0], [x1, y1] ++ r, rfl, ⟨x0, y0, rfl, ?_, ?_⟩, [x1, y1], r, rfl, ⟨x1, y1, rfl, ?_, ?_⟩, h⟩
    · rw [hA.1]; exact i0
    · rw [hA.1]; exact m0
    · rw [hA.2]; exact i1
    · rw [hA.2]; exact m1
theorem one_root {E : Env} {w : World} {A B C : IT2} {a b c : Rat} (hA : RepQ E A a) (hB : RepQ E B b) (hC : RepQ E C c) {l1 l2 l3 l4 l5 l6 : Nat} {v : Value} :
    one E w (true, [.int A.1 l1, .int A.2 l2, .int B.1 l3, .int B.2 l4, .int C.1 l5, .int C.2 l6]) v ↔ IsRoot w v a b c ∧ ((Lim l1 a.num ∧ Lim l2 (a.den : Int)) ∧ (Lim l3 b.num ∧ Lim l4 (b.den : Int)) ∧ (Lim l5 c.num ∧ Lim l6 (c.den : Int))) := by
  constructor
  · rintro ⟨vs, rfl, h⟩
    obtain ⟨x, r, rfl, ⟨h1, m1⟩, h⟩ := (two_chunks hA).1 h
    obtain ⟨y, r, rfl, ⟨h2, m2⟩, h⟩ := (two_chunks hB).1 h
    obtain ⟨z, r, rfl, ⟨h3, m3⟩, h⟩ := (two_chunks hC).1 h
    simp only [chunks] at h
    subst h
    rw [List.append_nil]
    exact ⟨⟨x, y, z, rfl, h1, h2, h3⟩, m1, m2, m3⟩
  · rintro ⟨⟨x, y, z, rfl, h1, h2, h3⟩, m1, m2, m3⟩
    exact ⟨x ++ (y ++ z), rfl, (two_chunks hA).2 ⟨x, y ++ z, rfl, ⟨h1, m1⟩, (two_chunks hB).2 ⟨y, z, rfl, ⟨h2, m2⟩, (two_chunks hC).2 ⟨z, [], by simp, ⟨h3, m3⟩, rfl⟩⟩⟩⟩
theorem one_rt {E : Env} {w : World} {A B C : IT2} {a b c : Rat} (hA : RepQ E A a) (hB : RepQ E B b) (hC : RepQ E C c) {l : Nat} {v : Value} : one E w (true, rt A B C l) v ↔ IsRoot w v a b c ∧ LimR l a b c := one_root hA hB hC
theorem one_q {E : Env} {w : World} {A : IT2} {a : Rat} (hA : RepQ E A a) {l m : Nat} {v : Value} : one E w (true, [.int A.1 l, .int A.2 m]) v ↔ IsRat w v a ∧ Lim l a.num ∧ Lim m (a.den : Int) := by
  constructor
  · rintro ⟨vs, rfl, h⟩
    obtain ⟨x, r, rfl, ⟨h1, m1⟩, h⟩ := (two_chunks hA).1 h
    simp only [chunks] at h
    subst h
    rw [List.append_nil]
    exact ⟨h1, m1⟩
  · rintro ⟨⟨x0, y0, x1, y1, rfl, i0, i1⟩, m1⟩
    exact ⟨[x0, y0, x1, y1], rfl, (two_chunks hA).2 ⟨[x0, y0, x1, y1], [], rfl, ⟨⟨x0, y0, x1, y1, rfl, i0, i1⟩, m1⟩, rfl⟩⟩
/-- Roots and rational numbers among arguments. -/
def rtOf : AV → Option ((IT2 × IT2 × IT2) × Nat)
  | .val true [.int x1 l1, .int x2 l2, .int x3 l3, .int x4 l4, .int x5 l5, .int x6 l6] =>
    if canon x1 x2 && (canon x3 x4 && canon x5 x6) then some (((x1, x2), (x3, x4), (x5, x6)), max l1 (max l2 (max l3 (max l4 (max l5 l6))))) else none
  | _ => none
theorem rtOf_spec {E : Env} (hE : QEnv E) {β : Nat → Nat} {w : World} {x : AV} {v : Value} {A B C : IT2} {m : Nat} (h : rtOf x = some ((A, B, C), m)) (hx : x.holds E β w v) :
    ∃ a b c, RepQ E A a ∧ RepQ E B b ∧ RepQ E C c ∧ IsRoot w v a b c ∧ LimR m a b c := by
  unfold rtOf at h
  split at h
  · rename_i x1 l1 x2 l2 x3 l3 x4 l4 x5 l5 x6 l6
    split at h
    · rename_i hc
      simp only [Bool.and_eq_true] at hc
      injection h with h
      injection h with h hm
      injection h with h1 h
      injection h with h2 h3
      subst h1 h2 h3 hm
      obtain ⟨a, a1, a2⟩ := canon_spec hE hc.1
      obtain ⟨b, b1, b2⟩ := canon_spec hE hc.2.1
      obtain ⟨c, c1, c2⟩ := canon_spec hE hc.2.2
      obtain ⟨hr, ⟨m1, m2⟩, ⟨m3, m4⟩, m5, m6⟩ := (one_root (A := (x1, x2)) (B := (x3, x4)) (C := (x5, x6)) ⟨a1, a2⟩ ⟨b1, b2⟩ ⟨c1, c2⟩).1 hx
      exact ⟨a, b, c, ⟨a1, a2⟩, ⟨b1, b2⟩, ⟨c1, c2⟩, hr, ⟨m1.mono (by omega), m2.mono (by omega)⟩, ⟨m3.mono (by omega), m4.mono (by omega)⟩, m5.mono (by omega), m6.mono (by omega)⟩
    · cases h
  · cases h
def qOf : AV → Option (IT2 × Nat)
  | .val true [.int x1 l1, .int x2 l2] => if canon x1 x2 then some ((x1, x2), max l1 l2) else none
  | _ => none
theorem qOf_spec {E : Env} (hE : QEnv E) {β : Nat → Nat} {w : World} {x : AV} {v : Value} {A : IT2} {m : Nat} (h : qOf x = some (A, m)) (hx : x.holds E β w v) : ∃ a, RepQ E A a ∧ IsRat w v a ∧ LimQ m a := by
  unfold qOf at h
  split at h
  · rename_i x1 l1 x2 l2
    split at h
    · rename_i hc
      injection h with h
      injection h with h1 hm
      subst h1 hm
      obtain ⟨a, a1, a2⟩ := canon_spec hE hc
      obtain ⟨hr, m1, m2⟩ := (one_q (A := (x1, x2)) ⟨a1, a2⟩).1 hx
      exact ⟨a, ⟨a1, a2⟩, hr, m1.mono (by omega), m2.mono (by omega)⟩
    · cases h
  · cases h
/-- What the radicand of a root is known to be. -/
def rdT (B C : IT2) : BT := .eq (.a4 20 B.1 B.2 C.1 C.2) (.lit 1)
theorem rdT_den {E : Env} {B C : IT2} {b c : Rat} (hB : RepQ E B b) (hC : RepQ E C c) : (rdT B C).den E = Rdb b c := by
  have r : RepQ E (qop 10 B C) (ratF 10 b c) := rep_op (f := 10) (by omega) hB hC
  show ((qop 10 B C).1.den E == 1) = _
  rw [r.1]
  show ((if Rdb b c = true then (1 : Rat) else 0).num == 1) = _
  cases Rdb b c <;> rfl
theorem rdT_spec {E : Env} {G : Asm} (hG : G.holds E) {B C : IT2} {b c : Rat} (hB : RepQ E B b) (hC : RepQ E C c) (h : ((rdT B C).ev G == some true) = true) : Rd b c := by
  rw [beq_iff_eq] at h
  have := BT.ev_spec hG h
  rw [rdT_den hB hC] at this
  exact Rdb_iff.1 this
/-- Whether two roots have no common radicand. -/
def nokT (B C B' C' : IT2) : BT := .and (.not (.eq B.1 (.lit 0))) (.and (.not (.eq B'.1 (.lit 0))) (.not (.and (.eq C.1 C'.1) (.eq C.2 C'.2))))
def Ok (b c b' c' : Rat) : Prop := b = 0 ∨ b' = 0 ∨ c = c'
theorem nokT_den {E : Env} {B C B' C' : IT2} {b c b' c' : Rat} (hB : RepQ E B b) (hC : RepQ E C c) (hB' : RepQ E B' b') (hC' : RepQ E C' c') : (nokT B C B' C').den E = false ↔ Ok b c b' c' := by
  have n1 : b.num = 0 ↔ b = 0 := Rat.num_eq_zero
  have n2 : b'.num = 0 ↔ b' = 0 := Rat.num_eq_zero
  have n3 : (c.num = c'.num ∧ (c.den : Int) = (c'.den : Int)) ↔ c = c' := ⟨fun h => Rat.ext h.1 (by have := h.2; omega), fun h => by subst h; exact ⟨rfl, rfl⟩⟩
  unfold nokT Ok
  simp only [BT.den, IT.den, hB.1, hB'.1, hC.1, hC.2, hC'.1, hC'.2]
  rw [← n1, ← n2, ← n3]
  cases h1 : (b.num == 0) <;> cases h2 : (b'.num == 0) <;> cases h3 : (c.num == c'.num) <;> cases h4 : ((c.den : Int) == (c'.den : Int)) <;> simp_all
/-- The common radicand. -/
def cmT (B C C' : IT2) : IT2 := qop 0 (qop 5 B C) (qop 6 B C')
def cm (b c c' : Rat) : Rat := rC b c + rN b c'
theorem cm_zero (c c' : Rat) : cm 0 c c' = c' := by unfold cm; rw [rC_zero, rN_zero]; grind
theorem cm_ne {b : Rat} (h : b ≠ 0) (c c' : Rat) : cm b c c' = c := by unfold cm; rw [rC_ne h, rN_ne h]; grind
theorem rep_rC {E : Env} {B C : IT2} {b c : Rat} (hB : RepQ E B b) (hC : RepQ E C c) : RepQ E (qop 5 B C) (rC b c) := rep_op (f := 5) (by omega) hB hC
theorem rep_rN {E : Env} {B C : IT2} {b c : Rat} (hB : RepQ E B b) (hC : RepQ E C c) : RepQ E (qop 6 B C) (rN b c) := rep_op (f := 6) (by omega) hB hC
theorem rep_sq2 {E : Env} {B C : IT2} {b c : Rat} (hB : RepQ E B b) (hC : RepQ E C c) : RepQ E (qop 7 B C) (sq2 b c) := rep_op (f := 7) (by omega) hB hC
theorem rep_cm {E : Env} {B C C' : IT2} {b c c' : Rat} (hB : RepQ E B b) (hC : RepQ E C c) (hC' : RepQ E C' c') : RepQ E (cmT B C C') (cm b c c') := rep_op (f := 0) (by omega) (rep_rC hB hC) (rep_rN hB hC')
theorem rep_add {E : Env} {p q : IT2} {a b : Rat} (hp : RepQ E p a) (hq : RepQ E q b) : RepQ E (qop 0 p q) (a + b) := rep_op (f := 0) (by omega) hp hq
theorem rep_sub {E : Env} {p q : IT2} {a b : Rat} (hp : RepQ E p a) (hq : RepQ E q b) : RepQ E (qop 1 p q) (a - b) := rep_op (f := 1) (by omega) hp hq
theorem rep_mul {E : Env} {p q : IT2} {a b : Rat} (hp : RepQ E p a) (hq : RepQ E q b) : RepQ E (qop 2 p q) (a * b) := rep_op (f := 2) (by omega) hp hq
def qng (p : IT2) : IT2 := (.a1 0 p.1, p.2)
theorem rep_ng {E : Env} {p : IT2} {a : Rat} (h : RepQ E p a) : RepQ E (qng p) (-a) := by
  constructor
  · show - p.1.den E = _
    rw [h.1, Rat.neg_num]
  · show p.2.den E = _
    rw [h.2, Rat.neg_den]
theorem rep_0 {E : Env} : RepQ E (.lit 0, .lit 1) (0 : Rat) := ⟨rfl, rfl⟩
theorem rep_1 {E : Env} : RepQ E (.lit 1, .lit 1) (1 : Rat) := ⟨rfl, rfl⟩
/-- How long parts become. -/
theorem LimQ.zero {m : Nat} (h : 1 ≤ m) : LimQ m 0 := ⟨lim_zero, (lim1 (z := 1) (by decide)).mono h⟩
theorem LimQ.mulQ {m : Nat} {a b : Rat} (h : LimQ m a) (k : LimQ m b) : LimQ (4 * m + 1) (a * b) := by
  obtain ⟨h1, h2⟩ := LimQ.mul h.1 h.2 k.1 k.2
  exact ⟨h1.mono (by omega), h2.mono (by omega)⟩
theorem LimQ.addQ {m : Nat} {a b : Rat} (h : LimQ m a) (k : LimQ m b) : LimQ (4 * m + 1) (a + b) := by
  obtain ⟨h1, h2⟩ := LimQ.add h.1 h.2 k.1 k.2
  exact ⟨h1.mono (by omega), h2.mono (by omega)⟩
theorem LimQ.negQ {m : Nat} {a : Rat} (h : LimQ m a) : LimQ m (-a) := by
  refine ⟨?_, ?_⟩
  · rw [Rat.neg_num]; exact h.1.natAbs_le (by omega)
  · rw [Rat.neg_den]; exact h.2
theorem LimQ.rC {m : Nat} {b c : Rat} (h : LimQ m c) (k : 1 ≤ m) : LimQ m (rC b c) := by
  unfold Proofs.YtdblkeeicmncfaaGreat.rC
  split
  · exact LimQ.zero k
  · exact h
theorem LimQ.cm {m : Nat} {b c c' : Rat} (h : LimQ m c) (h' : LimQ m c') : LimQ m (cm b c c') := by
  by_cases hb : b = 0
  · subst hb; rw [cm_zero]; exact h'
  · rw [cm_ne hb]; exact h
end Go.Proofs.YtdblkeeicmncfaaGreat
end

/- ---- Sma ---- -/
section
/-
  The simplest number between two numbers: what the common recursion yields.
-/
set_option maxRecDepth 100000
namespace Go.Proofs.YtdblkeeicmncfaaGreat

/-- The simplest fraction between ln / ld and hn / hd, where hd can be 0. -/
def simS : Nat → Int → Int → Int → Int → Int × Int
  | 0, _, _, _, _ => (1, 1)
  | k + 1, ln, ld, hn, hd => if (ln / ld + 1) * hd < hn then (ln / ld + 1, 1) else ((ln / ld) * (simS k hd (hn - ln / ld * hd) ld (ln - ln / ld * ld)).1 + (simS k hd (hn - ln / ld * hd) ld (ln - ln / ld * ld)).2, (simS k hd (hn - ln / ld * hd) ld (ln - ln / ld * ld)).1)
structure SimOK (ln ld hn hd : Int) (r : Int × Int) : Prop where
  p1 : 0 < r.1
  p2 : 0 < r.2
  lo : ln * r.2 < r.1 * ld
  hi : r.1 * hd < hn * r.2
  least : ∀ n d : Int, 0 < d → ln * d < n * ld → n * hd < hn * d → r.1 ≤ n ∧ r.2 ≤ d
theorem pos_of_mul {a b : Int} (h : 0 < a * b) (hb : 0 < b) : 0 < a := by
  rcases Int.lt_trichotomy a 0 with h1 | h1 | h1
  · have := Int.mul_neg_of_neg_of_pos h1 hb; omega
  · rw [h1, Int.zero_mul] at h; omega
  · exact h1
theorem lt_of_mul {a b c : Int} (h : a * c < b * c) (hc : 0 < c) : a < b := by
  have : 0 < (b - a) * c := by rw [Int.sub_mul]; omega
  have := pos_of_mul this hc
  omega
theorem simS_ok : ∀ (k : Nat) (ln ld hn hd : Int), 0 ≤ ln → 0 < ld → 0 < hn → 0 ≤ hd → ln * hd < hn * ld → ld + hd < k → SimOK ln ld hn hd (simS k ln ld hn hd) := by
  intro k
  induction k with
  | zero => intro ln ld hn hd _ h2 _ h4 _ h6; exfalso; have : ((0 : Nat) : Int) = 0 := rfl; omega
  | succ k ih =>
    intro ln ld hn hd h1 h2 h3 h4 h5 h6
    obtain ⟨f, hf⟩ : ∃ f, f = ln / ld := ⟨_, rfl⟩
    have hf0 : 0 ≤ f := by rw [hf]; exact Int.ediv_nonneg h1 (by omega)
    have hr0 : 0 ≤ ln - f * ld := by
      have := Int.ediv_mul_le ln (show ld ≠ 0 by omega)
      rw [← hf] at this
      omega
    have hr1 : ln - f * ld < ld := by
      have := Int.lt_ediv_add_one_mul_self ln h2
      rw [← hf, Int.add_mul, Int.one_mul] at this
      omega
    unfold simS
    rw [← hf]
    by_cases hc : (f + 1) * hd < hn
    · rw [if_pos hc]
      refine ⟨by show 0 < f + 1; omega, by show (0 : Int) < 1; decide, ?_, ?_, ?_⟩
      · show ln * 1 < (f + 1) * ld
        rw [Int.mul_one, Int.add_mul, Int.one_mul]; omega
      · show (f + 1) * hd < hn * 1
        rw [Int.mul_one]; exact hc
      · intro n d hd0 ha hb
        refine ⟨?_, by show (1 : Int) ≤ d; omega⟩
        show f + 1 ≤ n
        have e1 : f * ld * d ≤ ln * d := Int.mul_le_mul_of_nonneg_right (by omega) (by omega)
        have e2 : f * d * ld < n * ld := by
          have : f * d * ld = f * ld * d := by grind
          omega
        have e3 := lt_of_mul e2 h2
        have e4 : f * 1 ≤ f * d := Int.mul_le_mul_of_nonneg_left (by omega) hf0
        omega
    · rw [if_neg hc]
      have hg1 : hn - f * hd ≤ hd := by
        have : (f + 1) * hd = f * hd + hd := by grind
        omega
      have hg0 : 0 < hn - f * hd := by
        have e1 : f * ld * hd ≤ ln * hd := Int.mul_le_mul_of_nonneg_right (by omega) h4
        have e2 : f * hd * ld < hn * ld := by
          have : f * hd * ld = f * ld * hd := by grind
          omega
        have := lt_of_mul e2 h2
        omega
      have i := ih hd (hn - f * hd) ld (ln - f * ld) h4 hg0 h2 hr0 (by grind) (by omega)
      obtain ⟨i1, i2, i3, i4, i5⟩ := i
      generalize simS k hd (hn - f * hd) ld (ln - f * ld) = r at *
      obtain ⟨p, q⟩ := r
      simp only at i1 i2 i3 i4 i5 ⊢
      have hfp : 0 ≤ f * p := Int.mul_nonneg hf0 (by omega)
      refine ⟨by show 0 < f * p + q; omega, i1, ?_, ?_, ?_⟩
      · show ln * p < (f * p + q) * ld
        grind
      · show (f * p + q) * hd < hn * p
        grind
      · intro n d hd0 ha hb
        have hm : 0 < n - f * d := by
          have e1 : 0 ≤ (ln - f * ld) * d := Int.mul_nonneg hr0 (by omega)
          have e2 : 0 < (n - f * d) * ld := by grind
          exact pos_of_mul e2 h2
        obtain ⟨j1, j2⟩ := i5 d (n - f * d) hm (by grind) (by grind)
        refine ⟨?_, j1⟩
        show f * p + q ≤ n
        have := Int.mul_le_mul_of_nonneg_left j1 hf0
        omega
/-- It is in lowest terms. -/
theorem SimOK.coprime {ln ld hn hd : Int} {r : Int × Int} (h : SimOK ln ld hn hd r) : Nat.gcd r.1.natAbs r.2.natAbs = 1 := by
  obtain ⟨p, q⟩ := r
  obtain ⟨h1, h2, h3, h4, h5⟩ := h
  simp only at h1 h2 h3 h4 h5 ⊢
  obtain ⟨g, hg⟩ : ∃ g, g = Nat.gcd p.natAbs q.natAbs := ⟨_, rfl⟩
  have hgp : 0 < g := by rw [hg]; exact Nat.gcd_pos_of_pos_left _ (by omega)
  obtain ⟨u, hu⟩ := Nat.gcd_dvd_left p.natAbs q.natAbs
  obtain ⟨v, hv⟩ := Nat.gcd_dvd_right p.natAbs q.natAbs
  rw [← hg] at hu hv ⊢
  have hp : p = (g : Int) * (u : Int) := by rw [← Int.natCast_mul, ← hu]; omega
  have hq : q = (g : Int) * (v : Int) := by rw [← Int.natCast_mul, ← hv]; omega
  have hv0 : 0 < v := by
    rcases Nat.eq_zero_or_pos v with h0 | h0
    · rw [h0, Nat.mul_zero] at hv; omega
    · exact h0
  have hgI : (0 : Int) < (g : Int) := by omega
  have a1 : ln * (v : Int) < (u : Int) * ld := by
    refine lt_of_mul (c := (g : Int)) ?_ hgI
    have e1 : ln * (v : Int) * (g : Int) = ln * q := by rw [hq]; grind
    have e2 : (u : Int) * ld * (g : Int) = p * ld := by rw [hp]; grind
    omega
  have a2 : (u : Int) * hd < hn * (v : Int) := by
    refine lt_of_mul (c := (g : Int)) ?_ hgI
    have e1 : (u : Int) * hd * (g : Int) = p * hd := by rw [hp]; grind
    have e2 : hn * (v : Int) * (g : Int) = hn * q := by rw [hq]; grind
    omega
  have := (h5 u v (by omega) a1 a2).2
  have h7 : q.natAbs ≤ v := by omega
  rw [hv] at h7
  have h8 : 2 ≤ g → False := fun h => by
    have := Nat.mul_le_mul_right v h
    omega
  rcases Nat.lt_or_ge g 2 with h | h
  · omega
  · exact (h8 h).elim
end Go.Proofs.YtdblkeeicmncfaaGreat
end

/- ---- Smb ---- -/
section
/-
  Floor and Over of the reference; parts of b - f and of 1 / c.
-/
set_option maxRecDepth 100000
namespace Go.Proofs.YtdblkeeicmncfaaGreat
open Go.RowKit

theorem rfloor_rat_calls (w : World) (v : Value) (a : Rat) (h : IsRat w v a) (l : LimQ 100000 a) : Calls Tryz.prog 90 #[v] w (Ret (fun v w' => IsInt w' v a.floor) w) := by
  refine (walkQ1 (T := .leaf [(true, [.int (.a2 4 (.var 0) (.var 1)) 100000])]) (tab := [(96, kDM)])
    (.cons (kDMg_ok (fun w v u a b h k l1 l2 => rdivMod_fn w v u a b h k l1 l2) ⟨_, Tryz.func96, by decide +kernel, by kernel_rfl⟩) .nil)
    Tryz.func90 (by kernel_rfl) (by decide +kernel) (by decide +kernel) h l).mono ?_
  rintro e w' ⟨β, u, rfl, hh, ex⟩
  refine ⟨u, rfl, ?_, ex⟩
  have k := (one_int.1 hh).1
  have e1 : (IT.a2 4 (.var 0) (.var 1)).den (qE [a]) = a.floor := by
    show dq a.num (a.den : Int) = _
    rw [dq_pos (by have := a.den_pos; omega), ← Rat.floor_def]
  rw [e1] at k
  exact k
theorem intCast_divInt (f : Int) : ((f : Int) : Rat) = Rat.divInt f 1 := by
  have h : Rat.divInt ((f : Rat).num) ((f : Rat).den : Int) = (f : Rat) := Rat.num_divInt_den _
  rw [Rat.num_intCast, Rat.den_intCast] at h
  exact h.symm
/-- The parts of b - f. -/
theorem sub_int_parts (b : Rat) (f : Int) : (b - (f : Rat)).num = b.num - f * (b.den : Int) ∧ (b - (f : Rat)).den = b.den := by
  have hc : (b.num - f * (b.den : Int)).natAbs.Coprime b.den := by
    have h1 : Int.gcd (b.num - f * (b.den : Int)) (b.den : Int) = Int.gcd b.num (b.den : Int) := by
      rw [show b.num - f * (b.den : Int) = b.num + (b.den : Int) * (-f) by grind]
      exact Int.gcd_add_mul_left_left ..
    have h2 : Int.gcd b.num (b.den : Int) = 1 := by
      show Nat.gcd b.num.natAbs (b.den : Int).natAbs = 1
      rw [Int.natAbs_natCast]
      exact b.reduced
    rw [h2] at h1
    have h3 : Nat.gcd (b.num - f * (b.den : Int)).natAbs (b.den : Int).natAbs = 1 := h1
    rw [Int.natAbs_natCast] at h3
    exact h3
  have e : b - (f : Rat) = ⟨b.num - f * (b.den : Int), b.den, b.den_nz, hc⟩ := by
    have k : (⟨b.num - f * (b.den : Int), b.den, b.den_nz, hc⟩ : Rat) + (f : Rat) = b := by
      rw [Rat.mk_eq_divInt, intCast_divInt, Rat.divInt_add_divInt _ _ (den_ne b) (by omega), Int.mul_one, Int.mul_one, show b.num - f * (b.den : Int) + f * (b.den : Int) = b.num by omega]
      exact Rat.num_divInt_den b
    grind
  rw [e]
  exact ⟨rfl, rfl⟩
/-- The parts of 1 / c. -/
theorem inv_parts {c : Rat} (h : 0 < c.num) : (1 / c).num = (c.den : Int) ∧ ((1 / c).den : Int) = c.num := by
  have e : (1 : Rat) / c = c⁻¹ := by rw [Rat.div_def, Rat.one_mul]
  rw [e, Rat.num_inv, Rat.den_inv, if_neg (by omega), Int.sign_eq_one_of_pos h]
  refine ⟨by omega, by omega⟩
end Go.Proofs.YtdblkeeicmncfaaGreat
end

/- ---- Flr ---- -/
section
/-
  Floor of the reference, for the walker.
-/
set_option maxRecDepth 100000
namespace Go.Proofs.YtdblkeeicmncfaaGreat
open Go.RowKit

def kFlR : Con
  | [.val true [.int x l, .int y m]], _ => if canon x y && (ql l && ql m) then some (.val true [.int (.a2 4 x y) l]) else none
  | _, _ => none
theorem kFlR_ok {E : Env} (hE : QEnv E) : ConOK Tryz.prog E 90 kFlR := by
  refine ⟨?_, ?_, ⟨_, Tryz.func90, by decide +kernel, by kernel_rfl⟩⟩
  · intro args As r h hG β w vs hv hlen
    unfold kFlR at h
    split at h
    · split at h
      · rename_i hm
        simp only [ql, Bool.and_eq_true, decide_eq_true_iff] at hm
        obtain ⟨c1, b1, b2⟩ := hm
        injection h with h
        subst h
        obtain ⟨v, rfl, h1⟩ := args1 hv hlen
        obtain ⟨q, _, e1, e2, hq, m1, m2⟩ := one_ratQ hE c1 h1
        have hd : dq q.num (q.den : Int) = q.floor := by rw [dq_pos (by have := q.den_pos; omega), ← Rat.floor_def]
        refine (rfloor_rat_calls w v q hq ⟨m1.mono b1, m2.mono b2⟩).mono ?_
        rintro e w' ⟨u, rfl, hI, ex⟩
        refine ⟨_, rfl, one_int.2 ⟨?_, ?_⟩, ex⟩
        · show IsInt w' u (dq _ _)
          rw [e1, e2, hd]; exact hI
        · show Lim _ (dq _ _)
          rw [e1, e2]; exact m1.natAbs_le (dq_abs _ _)
      · cases h
    · cases h
  · intro args As r h x off
    unfold kFlR at h
    split at h
    · split at h
      · injection h with h; subst h; intro e; cases e
      · cases h
    · cases h
end Go.Proofs.YtdblkeeicmncfaaGreat
end

/- ---- Rtd ---- -/
section
/-
  Functions of package root and of the reference: sums, products, inverses, signs, roundings.
-/
set_option maxRecDepth 100000
namespace Go.Proofs.YtdblkeeicmncfaaGreat
open Go.RowKit

noncomputable def tabB : List (Nat × Con) := (128, kSqI) :: (93, kSqRef) :: (90, kFlR) :: (85, kFlQ) :: (41, kIIb fun x y => .eq x y) :: (tabInt ++ (tabR2 ++ tabT))
theorem tabB_ok {E : Env} (hE : QEnv E) : TabOK Tryz.prog E tabB := .cons kSqI_ok (.cons kSqRef_ok (.cons (kFlR_ok hE) (.cons (kFlQ_ok hE) (.cons (kIIb_ok (fun x y => x == y) (fun _ _ => rfl) (fun w v1 v2 z1 z2 h1 h2 => (rsame_calls w v1 v2 z1 z2 h1 h2).mono (fun e w' h => ⟨by rw [h.1]; by_cases hz : z1 = z2 <;> simp [hz], h.2⟩)) ⟨_, Tryz.func41, by decide +kernel, by kernel_rfl⟩) (TabOK.app tabInt_ok (TabOK.app tabR2_ok (tabT_ok hE)))))))
noncomputable def pL1 : List (Nat × Func) := [(113, Tryz.f113), (68, Tryz.f68), (60, Tryz.f60), (124, Tryz.f124), (72, Tryz.f72),
  (67, Tryz.f67), (84, Tryz.f84), (91, Tryz.f91), (79, Tryz.f79)]
noncomputable def pL2 : List (Nat × Func) := [(64, Tryz.f64), (78, Tryz.f78), (87, Tryz.f87), (19, Tryz.f19), (74, Tryz.f74)]
noncomputable def pL3 : List (Nat × Func) := [(63, Tryz.f63), (18, Tryz.f18), (66, Tryz.f66)]
theorem pL1_ok : InlOK Tryz.prog pL1 :=
  .cons Tryz.func113 (by decide +kernel) (by kernel_rfl) <| .cons Tryz.func68 (by decide +kernel) (by kernel_rfl) <| .cons Tryz.func60 (by decide +kernel) (by kernel_rfl) <| .cons Tryz.func124 (by decide +kernel) (by kernel_rfl) <| .cons Tryz.func72 (by decide +kernel) (by kernel_rfl) <|
  .cons Tryz.func67 (by decide +kernel) (by kernel_rfl) <| .cons Tryz.func84 (by decide +kernel) (by kernel_rfl) <| .cons Tryz.func91 (by decide +kernel) (by kernel_rfl) <| .cons Tryz.func79 (by decide +kernel) (by kernel_rfl) .nil
theorem pL2_ok : InlOK Tryz.prog pL2 :=
  .cons Tryz.func64 (by decide +kernel) (by kernel_rfl) <| .cons Tryz.func78 (by decide +kernel) (by kernel_rfl) <| .cons Tryz.func87 (by decide +kernel) (by kernel_rfl) <| .cons Tryz.func19 (by decide +kernel) (by kernel_rfl) <| .cons Tryz.func74 (by decide +kernel) (by kernel_rfl) .nil
theorem pL3_ok : InlOK Tryz.prog pL3 :=
  .cons Tryz.func63 (by decide +kernel) (by kernel_rfl) <| .cons Tryz.func18 (by decide +kernel) (by kernel_rfl) <| .cons Tryz.func66 (by decide +kernel) (by kernel_rfl) .nil
noncomputable def cR (tab : List (Nat × Con)) : Cfg := cfgT3 (tab ++ tabB) pL1 pL2 pL3
theorem cR_ok {E : Env} (hE : QEnv E) {tab : List (Nat × Con)} (h : TabOK Tryz.prog E tab) : CfgOK Tryz.prog E (cR tab) := cfgT3_ok mixed (TabOK.app h (tabB_ok hE)) pL1_ok pL2_ok pL3_ok
/-- Arguments. -/
def aRl (i l : Nat) : AV := .val true (rt (qv i) (qv (i + 1)) (qv (i + 2)) l)
def aQl (i l : Nat) : AV := .val true [.int (qv i).1 l, .int (qv i).2 l]
def aR (i : Nat) : AV := aRl i 3000
def aQ (i : Nat) : AV := aQl i 3000
theorem aRl_holds {l : List Rat} {β : Nat → Nat} {w : World} {v : Value} {i m : Nat} (h : IsRoot w v (l.getD i 0) (l.getD (i + 1) 0) (l.getD (i + 2) 0)) (k : LimR m (l.getD i 0) (l.getD (i + 1) 0) (l.getD (i + 2) 0)) : (aRl i m).holds (qE l) β w v := (one_rt rep_v rep_v rep_v).2 ⟨h, k⟩
theorem aQl_holds {l : List Rat} {β : Nat → Nat} {w : World} {v : Value} {i m : Nat} (h : IsRat w v (l.getD i 0)) (k : LimQ m (l.getD i 0)) : (aQl i m).holds (qE l) β w v := (one_q rep_v).2 ⟨h, k⟩
theorem aR_holds {l : List Rat} {β : Nat → Nat} {w : World} {v : Value} {i : Nat} (h : IsRoot w v (l.getD i 0) (l.getD (i + 1) 0) (l.getD (i + 2) 0)) (k : LimR 3000 (l.getD i 0) (l.getD (i + 1) 0) (l.getD (i + 2) 0)) : (aR i).holds (qE l) β w v := (one_rt rep_v rep_v rep_v).2 ⟨h, k⟩
theorem aQ_holds {l : List Rat} {β : Nat → Nat} {w : World} {v : Value} {i : Nat} (h : IsRat w v (l.getD i 0)) (k : LimQ 3000 (l.getD i 0)) : (aQ i).holds (qE l) β w v := (one_q rep_v).2 ⟨h, k⟩
/-- A walk at one argument, and at two. -/
theorem walk1 {f : Nat} {fn : Func} {tab : List (Nat × Con)} {T : Tree} {G : Asm} {x : AV} {l : List Rat} (hf : Tryz.prog.funcs[f]? = some fn) (h4 : fn.results.toList.length ≤ 4) (htab : TabOK Tryz.prog (qE l) tab) (hG : G.holds (qE l)) (hT : funE (cR tab) fn G [x] = some T) (hn : 1 ≤ fn.ntmps) (hnp : [x].all noPtr = true)
    (w : World) (v : Value) (hv : ∀ β, x.holds (qE l) β w v) : Calls Tryz.prog f #[v] w fun e w' => ∃ β y, e = .returned y ∧ (toAV (T.pick (qE l))).holds (qE l) β w' y ∧ Ext w w' := by
  refine fun_sound mixed (cR_ok (qE_ok _) htab) hG hf h4 hT hn hnp w [v] rfl ?_
  intro i y hy
  match i, hy with
  | 0, hy => injection hy with hy; subst hy; exact ⟨fun _ => 0, v, rfl, hv _⟩
theorem walk2 {f : Nat} {fn : Func} {tab : List (Nat × Con)} {T : Tree} {G : Asm} {x z : AV} {l : List Rat} (hf : Tryz.prog.funcs[f]? = some fn) (h4 : fn.results.toList.length ≤ 4) (htab : TabOK Tryz.prog (qE l) tab) (hG : G.holds (qE l)) (hT : funE (cR tab) fn G [x, z] = some T) (hn : 2 ≤ fn.ntmps) (hnp : [x, z].all noPtr = true)
    (w : World) (v u : Value) (hv : ∀ β, x.holds (qE l) β w v) (hu : ∀ β, z.holds (qE l) β w u) : Calls Tryz.prog f #[v, u] w fun e w' => ∃ β y, e = .returned y ∧ (toAV (T.pick (qE l))).holds (qE l) β w' y ∧ Ext w w' := by
  refine fun_sound mixed (cR_ok (qE_ok _) htab) hG hf h4 hT hn hnp w [v, u] rfl ?_
  intro i y hy
  match i, hy with
  | 0, hy => injection hy with hy; subst hy; exact ⟨fun _ => 0, v, rfl, hv _⟩
  | 1, hy => injection hy with hy; subst hy; exact ⟨fun _ => 0, u, rfl, hu _⟩
/-- Words for trees. -/
def q0 : IT2 := (.lit 0, .lit 1)
def zt (p : IT2) : BT := .eq (.a2 3 p.1 (.lit 0)) (.lit 0)
theorem zt_den {E : Env} {p : IT2} {q : Rat} (h : RepQ E p q) : (zt p).den E = decide (q = 0) := by
  show (cmpZ (p.1.den E) 0 == 0) = _
  rw [h.1, Bool.eq_iff_iff, beq_iff_eq, decide_eq_true_iff, ← Rat.num_eq_zero]
  rcases cmpZ_cases q.num 0 with ⟨h, e⟩ | ⟨h, e⟩ | ⟨h, e⟩ <;> rw [e] <;> omega
def rt6 (A B C : IT2) (l m k : Nat) : List Chunk := [.int A.1 l, .int A.2 l, .int B.1 m, .int B.2 m, .int C.1 k, .int C.2 k]
def lf (A B C : IT2) (l m k : Nat) : Tree := .leaf [(true, rt6 A B C l m k)]
def lf2 (A B C : IT2) (l m k : Nat) : Tree := .leaf [(true, rt6 A B C l m k), (false, [.n .i64 (.lit 0)])]
def bad6 (z : Int) : List (Bool × List Chunk) := [(true, [.int (.lit 0) 0, .int (.lit 0) 0, .int (.lit 0) 0, .int (.lit 0) 0, .int (.lit 0) 0, .int (.lit 0) 0]), (false, [.n .i64 (.lit z)])]
theorem lf_out {E : Env} {β : Nat → Nat} {w : World} {v : Value} {A B C : IT2} {a b c : Rat} {l m k : Nat} (hA : RepQ E A a) (hB : RepQ E B b) (hC : RepQ E C c) (h : (toAV ((lf A B C l m k).pick E)).holds E β w v) : IsRoot w v a b c := ((one_root hA hB hC).1 h).1
theorem lf2_out {E : Env} {β : Nat → Nat} {w : World} {v : Value} {A B C : IT2} {a b c : Rat} {l m k : Nat} (hA : RepQ E A a) (hB : RepQ E B b) (hC : RepQ E C c) (h : (toAV ((lf2 A B C l m k).pick E)).holds E β w v) : ∃ x, v = .tuple #[x, .int .i64 0] ∧ IsRoot w x a b c := by
  obtain ⟨vs, rfl, u1, r1, rfl, k1, u2, r2, rfl, k2, hn⟩ := h
  simp only [tupAll] at hn
  subst hn
  have k2' := one_num.1 k2
  subst k2'
  exact ⟨u1, rfl, ((one_root hA hB hC).1 k1).1⟩
def Zero6 (w : World) (v : Value) : Prop := ∀ E, one E w (true, [.int (.lit 0) 0, .int (.lit 0) 0, .int (.lit 0) 0, .int (.lit 0) 0, .int (.lit 0) 0, .int (.lit 0) 0]) v
theorem zero6_of {E : Env} {w : World} {v : Value} (h : one E w (true, [.int (.lit 0) 0, .int (.lit 0) 0, .int (.lit 0) 0, .int (.lit 0) 0, .int (.lit 0) 0, .int (.lit 0) 0]) v) : Zero6 w v := fun _ => h
theorem bad6_out {E : Env} {β : Nat → Nat} {w : World} {v : Value} {z : Int} (h : (toAV ((Tree.leaf (bad6 z)).pick E)).holds E β w v) : ∃ x, v = .tuple #[x, .int .i64 z] ∧ Zero6 w x := by
  obtain ⟨vs, rfl, u1, r1, rfl, k1, u2, r2, rfl, k2, hn⟩ := h
  simp only [tupAll] at hn
  subst hn
  have k2' := one_num.1 k2
  subst k2'
  exact ⟨u1, rfl, zero6_of k1⟩
section
variable {w : World} {v u : Value} {a b c a' b' c' k : Rat}
/-- Multiples. -/
theorem p_scale (h : IsRoot w v a b c) (hu : IsRat w u k) (l : LimR 20000 a b c) (lk : LimQ 20000 k) : Calls Tryz.prog 30 #[v, u] w (Ret (fun x w' => IsRoot w' x (a * k) (b * k) (rC (b * k) c)) w) := by
  refine (walk2 (l := [a, b, c, k]) (tab := []) (x := aRl 0 20000) (z := aQl 3 20000) (T := .ite (zt (qop 2 (qv 1) (qv 3))) (lf (qop 2 (qv 0) (qv 3)) q0 q0 80001 3 3) (lf (qop 2 (qv 0) (qv 3)) (qop 2 (qv 1) (qv 3)) (qv 2) 80001 80001 20000))
    Tryz.func30 (by decide +kernel) .nil no_asm (by kernel_rfl) (by decide +kernel) rfl w v u (fun _ => aRl_holds h l) (fun _ => aQl_holds hu lk)).mono ?_
  rintro e w' ⟨β, y, rfl, hh, ex⟩
  have ra : RepQ (qE [a, b, c, k]) (qv 0) a := rep_v (i := 0)
  have rb : RepQ (qE [a, b, c, k]) (qv 1) b := rep_v (i := 1)
  have rc : RepQ (qE [a, b, c, k]) (qv 2) c := rep_v (i := 2)
  have rk : RepQ (qE [a, b, c, k]) (qv 3) k := rep_v (i := 3)
  refine ⟨y, rfl, ?_, ex⟩
  simp only [Tree.pick] at hh
  rw [zt_den (rep_mul rb rk)] at hh
  by_cases hz : b * k = 0
  · rw [decide_eq_true hz, if_pos rfl] at hh
    rw [hz, rC_zero]
    exact lf_out (rep_mul ra rk) rep_0 rep_0 hh
  · rw [decide_eq_false hz, if_neg (by decide)] at hh
    rw [rC_ne hz]
    exact lf_out (rep_mul ra rk) (rep_mul rb rk) rc hh
theorem r_scale (R : Rd b c) (h : IsRoot w v a b c) (hu : IsRat w u k) (l : LimR 20000 a b c) (lk : LimQ 20000 k) : Calls Tryz.prog 31 #[v, u] w (Ret (fun x w' => IsRoot w' x (a * k) (b * k) (rC (b * k) c)) w) := by
  refine (walk2 (l := [a, b, c, k]) (tab := []) (x := aRl 0 20000) (z := aQl 3 20000) (T := .ite (zt (qop 2 (qv 1) (qv 3))) (lf (qop 2 (qv 0) (qv 3)) q0 q0 80001 3 3) (.ite (zt (qv 2)) (lf (qop 2 (qv 0) (qv 3)) q0 q0 80001 3 3) (lf (qop 2 (qv 0) (qv 3)) (qop 2 (qv 1) (qv 3)) (qv 2) 80001 80001 20000)))
    Tryz.func31 (by decide +kernel) .nil no_asm (by kernel_rfl) (by decide +kernel) rfl w v u (fun _ => aRl_holds h l) (fun _ => aQl_holds hu lk)).mono ?_
  rintro e w' ⟨β, y, rfl, hh, ex⟩
  have ra : RepQ (qE [a, b, c, k]) (qv 0) a := rep_v (i := 0)
  have rb : RepQ (qE [a, b, c, k]) (qv 1) b := rep_v (i := 1)
  have rc : RepQ (qE [a, b, c, k]) (qv 2) c := rep_v (i := 2)
  have rk : RepQ (qE [a, b, c, k]) (qv 3) k := rep_v (i := 3)
  refine ⟨y, rfl, ?_, ex⟩
  simp only [Tree.pick] at hh
  rw [zt_den (rep_mul rb rk), zt_den rc] at hh
  by_cases hz : b * k = 0
  · rw [decide_eq_true hz, if_pos rfl] at hh
    rw [hz, rC_zero]
    exact lf_out (rep_mul ra rk) rep_0 rep_0 hh
  · rw [decide_eq_false hz, if_neg (by decide)] at hh
    rw [rC_ne hz]
    have hc : ¬ c = 0 := by
      rcases R with ⟨rfl, _⟩ | ⟨_, h1, _⟩
      · exact absurd (Rat.zero_mul k) hz
      · grind
    rw [decide_eq_false hc, if_neg (by decide)] at hh
    exact lf_out (rep_mul ra rk) (rep_mul rb rk) rc hh
end
end Go.Proofs.YtdblkeeicmncfaaGreat
end

/- ---- Rte ---- -/
section
/-
  Sums, opposites, signs, roundings of roots.
-/
set_option maxRecDepth 100000
namespace Go.Proofs.YtdblkeeicmncfaaGreat
open Go.RowKit

def RetR (w : World) (ok : Prop) (err : Int) (p q r : Rat) (e : Ending) (w' : World) : Prop :=
  (ok → ∃ x, e = .returned (.tuple #[x, .int .i64 0]) ∧ IsRoot w' x p q r ∧ Ext w w') ∧ (¬ ok → ∃ x, e = .returned (.tuple #[x, .int .i64 err]) ∧ Zero6 w' x ∧ Ext w w')
theorem ite_pick {E : Env} {b : BT} {t e : Tree} {p : Bool} (h : b.den E = p) : (Tree.ite b t e).pick E = if p then t.pick E else e.pick E := by
  simp only [Tree.pick, h]
def endP (A B C : IT2) : Tree := .ite (zt B) (lf2 A q0 q0 12001 3 3) (lf2 A B C 12001 12001 3000)
def endR (A B C : IT2) : Tree := .ite (zt B) (lf2 A q0 q0 12001 3 3) (.ite (zt C) (lf2 A q0 q0 12001 3 3) (lf2 A B C 12001 12001 3000))
theorem endP_out {E : Env} {β : Nat → Nat} {w : World} {v : Value} {A B C : IT2} {a b c : Rat} (hA : RepQ E A a) (hB : RepQ E B b) (hC : RepQ E C c) (h : (toAV ((endP A B C).pick E)).holds E β w v) : ∃ x, v = .tuple #[x, .int .i64 0] ∧ IsRoot w x a b (rC b c) := by
  unfold endP at h
  rw [ite_pick (zt_den hB)] at h
  by_cases hz : b = 0
  · rw [decide_eq_true hz, if_pos rfl] at h
    rw [hz, rC_zero]
    exact lf2_out hA rep_0 rep_0 h
  · rw [decide_eq_false hz, if_neg (by decide)] at h
    rw [rC_ne hz]
    exact lf2_out hA hB hC h
theorem endR_out {E : Env} {β : Nat → Nat} {w : World} {v : Value} {A B C : IT2} {a b c : Rat} (hA : RepQ E A a) (hB : RepQ E B b) (hC : RepQ E C c) (hz : b ≠ 0 → c ≠ 0) (h : (toAV ((endR A B C).pick E)).holds E β w v) : ∃ x, v = .tuple #[x, .int .i64 0] ∧ IsRoot w x a b (rC b c) := by
  unfold endR at h
  rw [ite_pick (zt_den hB), ite_pick (zt_den hC)] at h
  by_cases hb : b = 0
  · rw [decide_eq_true hb, if_pos rfl] at h
    rw [hb, rC_zero]
    exact lf2_out hA rep_0 rep_0 h
  · rw [decide_eq_false hb, if_neg (by decide), decide_eq_false (hz hb), if_neg (by decide)] at h
    rw [rC_ne hb]
    exact lf2_out hA hB hC h
def eqPT : BT := .eq (.a2 3 (.var 4) (.var 10)) (.lit 0)
def eqPT2 : BT := .eq (.a2 3 (.var 5) (.var 11)) (.lit 0)
theorem cmp0 (x y : Int) : (cmpZ x y == 0) = decide (x = y) := by
  rw [Bool.eq_iff_iff, beq_iff_eq, decide_eq_true_iff]
  rcases cmpZ_cases x y with ⟨h, e⟩ | ⟨h, e⟩ | ⟨h, e⟩ <;> rw [e] <;> omega
theorem rat_eq_parts {c c' : Rat} : c = c' ↔ c.num = c'.num ∧ (c.den : Int) = (c'.den : Int) := ⟨fun h => by subst h; exact ⟨rfl, rfl⟩, fun h => Rat.ext h.1 (by have := h.2; omega)⟩
/-- Two roots with a common radicand, or not, as either side tells. -/
def comP (x y : Tree) : Tree := .ite (zt (qv 1)) y (.ite (zt (qv 4)) x (.ite eqPT (.ite eqPT2 x (.leaf (bad6 1))) (.leaf (bad6 1))))
def comR (x y : Tree) : Tree := .ite (zt (qv 1)) y (.ite (zt (qv 4)) x (.ite (.eq (qcmp (qv 2) (qv 5)) (.lit 0)) x (.leaf (bad6 1))))
section
variable {a b c a' b' c' : Rat} {x y : Tree} {E : Env} {β : Nat → Nat} {w w' : World} {v : Value}
theorem rep6 : RepQ (qE [a, b, c, a', b', c']) (qv 0) a ∧ RepQ (qE [a, b, c, a', b', c']) (qv 1) b ∧ RepQ (qE [a, b, c, a', b', c']) (qv 2) c ∧ RepQ (qE [a, b, c, a', b', c']) (qv 3) a' ∧ RepQ (qE [a, b, c, a', b', c']) (qv 4) b' ∧ RepQ (qE [a, b, c, a', b', c']) (qv 5) c' :=
  ⟨rep_v (i := 0), rep_v (i := 1), rep_v (i := 2), rep_v (i := 3), rep_v (i := 4), rep_v (i := 5)⟩
theorem comP_out (h : (toAV ((comP x y).pick (qE [a, b, c, a', b', c']))).holds (qE [a, b, c, a', b', c']) β w' v) :
    (Ok b c b' c' ∧ ((b = 0 ∧ (toAV (y.pick (qE [a, b, c, a', b', c']))).holds (qE [a, b, c, a', b', c']) β w' v) ∨ (b ≠ 0 ∧ (toAV (x.pick (qE [a, b, c, a', b', c']))).holds (qE [a, b, c, a', b', c']) β w' v))) ∨ (¬ Ok b c b' c' ∧ ∃ z, v = .tuple #[z, .int .i64 1] ∧ Zero6 w' z) := by
  obtain ⟨ra, rb, rc, ra', rb', rc'⟩ := rep6 (a := a) (b := b) (c := c) (a' := a') (b' := b') (c' := c')
  have e1 : eqPT.den (qE [a, b, c, a', b', c']) = decide (c.num = c'.num) := cmp0 _ _
  have e2 : eqPT2.den (qE [a, b, c, a', b', c']) = decide ((c.den : Int) = (c'.den : Int)) := cmp0 _ _
  unfold comP at h
  rw [ite_pick (zt_den rb), ite_pick (zt_den rb'), ite_pick e1, ite_pick e2] at h
  unfold Ok
  by_cases hb : b = 0
  · rw [decide_eq_true hb, if_pos rfl] at h
    exact .inl ⟨.inl hb, .inl ⟨hb, h⟩⟩
  · rw [decide_eq_false hb, if_neg (by decide)] at h
    by_cases hb' : b' = 0
    · rw [decide_eq_true hb', if_pos rfl] at h
      exact .inl ⟨.inr (.inl hb'), .inr ⟨hb, h⟩⟩
    · rw [decide_eq_false hb', if_neg (by decide)] at h
      by_cases h1 : c.num = c'.num
      · rw [decide_eq_true h1, if_pos rfl] at h
        by_cases h2 : (c.den : Int) = (c'.den : Int)
        · rw [decide_eq_true h2, if_pos rfl] at h
          exact .inl ⟨.inr (.inr (rat_eq_parts.2 ⟨h1, h2⟩)), .inr ⟨hb, h⟩⟩
        · rw [decide_eq_false h2, if_neg (by decide)] at h
          refine .inr ⟨?_, bad6_out h⟩
          rintro (k | k | k)
          · exact hb k
          · exact hb' k
          · exact h2 (rat_eq_parts.1 k).2
      · rw [decide_eq_false h1, if_neg (by decide)] at h
        refine .inr ⟨?_, bad6_out h⟩
        rintro (k | k | k)
        · exact hb k
        · exact hb' k
        · exact h1 (rat_eq_parts.1 k).1
theorem comR_out (h : (toAV ((comR x y).pick (qE [a, b, c, a', b', c']))).holds (qE [a, b, c, a', b', c']) β w' v) :
    (Ok b c b' c' ∧ ((b = 0 ∧ (toAV (y.pick (qE [a, b, c, a', b', c']))).holds (qE [a, b, c, a', b', c']) β w' v) ∨ (b ≠ 0 ∧ (toAV (x.pick (qE [a, b, c, a', b', c']))).holds (qE [a, b, c, a', b', c']) β w' v))) ∨ (¬ Ok b c b' c' ∧ ∃ z, v = .tuple #[z, .int .i64 1] ∧ Zero6 w' z) := by
  obtain ⟨ra, rb, rc, ra', rb', rc'⟩ := rep6 (a := a) (b := b) (c := c) (a' := a') (b' := b') (c' := c')
  have e1 : (BT.eq (qcmp (qv 2) (qv 5)) (.lit 0)).den (qE [a, b, c, a', b', c']) = decide (c = c') := by
    show ((qcmp (qv 2) (qv 5)).den (qE [a, b, c, a', b', c']) == 0) = _
    rw [rep_cmp rc rc', Bool.eq_iff_iff, beq_iff_eq, decide_eq_true_iff]
    rcases sgQ_cases (c - c') with ⟨k, e⟩ | ⟨k, e⟩ | ⟨k, e⟩ <;> rw [e] <;> constructor <;> intro j <;> first | omega | grind
  unfold comR at h
  rw [ite_pick (zt_den rb), ite_pick (zt_den rb'), ite_pick e1] at h
  unfold Ok
  by_cases hb : b = 0
  · rw [decide_eq_true hb, if_pos rfl] at h
    exact .inl ⟨.inl hb, .inl ⟨hb, h⟩⟩
  · rw [decide_eq_false hb, if_neg (by decide)] at h
    by_cases hb' : b' = 0
    · rw [decide_eq_true hb', if_pos rfl] at h
      exact .inl ⟨.inr (.inl hb'), .inr ⟨hb, h⟩⟩
    · rw [decide_eq_false hb', if_neg (by decide)] at h
      by_cases h1 : c = c'
      · rw [decide_eq_true h1, if_pos rfl] at h
        exact .inl ⟨.inr (.inr h1), .inr ⟨hb, h⟩⟩
      · rw [decide_eq_false h1, if_neg (by decide)] at h
        refine .inr ⟨?_, bad6_out h⟩
        rintro (k | k | k)
        · exact hb k
        · exact hb' k
        · exact h1 k
end
theorem RetR.of {w : World} {ok : Prop} {err : Int} {p q r : Rat} {v : Value} {w' : World} (ex : Ext w w') (h : (ok ∧ ∃ x, v = .tuple #[x, .int .i64 0] ∧ IsRoot w' x p q r) ∨ (¬ ok ∧ ∃ z, v = .tuple #[z, .int .i64 err] ∧ Zero6 w' z)) : RetR w ok err p q r (.returned v) w' := by
  rcases h with ⟨h, x, rfl, hx⟩ | ⟨h, x, rfl, hx⟩
  · exact ⟨fun _ => ⟨x, rfl, hx, ex⟩, fun k => absurd h k⟩
  · exact ⟨fun k => absurd k h, fun _ => ⟨x, rfl, hx, ex⟩⟩
section
variable {w : World} {v u : Value} {a b c a' b' c' k : Rat}
theorem Rd.c0 (R : Rd b c) (h : b ≠ 0) : c ≠ 0 := by
  rcases R with ⟨rfl, _⟩ | ⟨_, h1, _⟩
  · exact absurd rfl h
  · grind
/-- Sums. -/
theorem p_add (h : IsRoot w v a b c) (hu : IsRoot w u a' b' c') (l : LimR 3000 a b c) (l' : LimR 3000 a' b' c') : Calls Tryz.prog 33 #[v, u] w (RetR w (Ok b c b' c') 1 (a + a') (b + b') (rC (b + b') (cm b c c'))) := by
  refine (walk2 (l := [a, b, c, a', b', c']) (tab := []) (x := aR 0) (z := aR 3) (T := comP (endP (qop 0 (qv 0) (qv 3)) (qop 0 (qv 1) (qv 4)) (qv 2)) (endP (qop 0 (qv 0) (qv 3)) (qop 0 (qv 1) (qv 4)) (qv 5)))
    Tryz.func33 (by decide +kernel) .nil no_asm (by kernel_rfl) (by decide +kernel) rfl w v u (fun _ => aR_holds h l) (fun _ => aR_holds hu l')).mono ?_
  rintro e w' ⟨β, y, rfl, hh, ex⟩
  obtain ⟨ra, rb, rc, ra', rb', rc'⟩ := rep6 (a := a) (b := b) (c := c) (a' := a') (b' := b') (c' := c')
  refine RetR.of ex ?_
  rcases comP_out hh with ⟨ho, ⟨hb, hh⟩ | ⟨hb, hh⟩⟩ | hno
  · refine .inl ⟨ho, ?_⟩
    rw [show cm b c c' = c' by rw [hb, cm_zero]]
    exact endP_out (rep_add ra ra') (rep_add rb rb') rc' hh
  · refine .inl ⟨ho, ?_⟩
    rw [cm_ne hb]
    exact endP_out (rep_add ra ra') (rep_add rb rb') rc hh
  · exact .inr hno
theorem r_add (R : Rd b c) (R' : Rd b' c') (h : IsRoot w v a b c) (hu : IsRoot w u a' b' c') (l : LimR 3000 a b c) (l' : LimR 3000 a' b' c') : Calls Tryz.prog 34 #[v, u] w (RetR w (Ok b c b' c') 1 (a + a') (b + b') (rC (b + b') (cm b c c'))) := by
  refine (walk2 (l := [a, b, c, a', b', c']) (tab := []) (x := aR 0) (z := aR 3) (T := comR (endR (qop 0 (qv 0) (qv 3)) (qop 0 (qv 1) (qv 4)) (qv 2)) (endR (qop 0 (qv 0) (qv 3)) (qop 0 (qv 1) (qv 4)) (qv 5)))
    Tryz.func34 (by decide +kernel) .nil no_asm (by kernel_rfl) (by decide +kernel) rfl w v u (fun _ => aR_holds h l) (fun _ => aR_holds hu l')).mono ?_
  rintro e w' ⟨β, y, rfl, hh, ex⟩
  obtain ⟨ra, rb, rc, ra', rb', rc'⟩ := rep6 (a := a) (b := b) (c := c) (a' := a') (b' := b') (c' := c')
  refine RetR.of ex ?_
  rcases comR_out hh with ⟨ho, ⟨hb, hh⟩ | ⟨hb, hh⟩⟩ | hno
  · refine .inl ⟨ho, ?_⟩
    rw [show cm b c c' = c' by rw [hb, cm_zero]]
    exact endR_out (rep_add ra ra') (rep_add rb rb') rc' (fun hne => R'.c0 (fun e => hne (by rw [hb, e]; grind))) hh
  · refine .inl ⟨ho, ?_⟩
    rw [cm_ne hb]
    exact endR_out (rep_add ra ra') (rep_add rb rb') rc (fun _ => R.c0 hb) hh
  · exact .inr hno
/-- Opposites. -/
theorem p_neg (R : Rd b c) (h : IsRoot w v a b c) (l : LimR 3000 a b c) : Calls Tryz.prog 28 #[v] w (Ret (fun x w' => IsRoot w' x (-a) (-b) c) w) := by
  refine (walk1 (l := [a, b, c]) (tab := []) (x := aR 0) (T := .ite (zt (qng (qv 1))) (lf (qng (qv 0)) q0 q0 3000 3 3) (lf (qng (qv 0)) (qng (qv 1)) (qv 2) 3000 3000 3000))
    Tryz.func28 (by decide +kernel) .nil no_asm (by kernel_rfl) (by decide +kernel) rfl w v (fun _ => aR_holds h l)).mono ?_
  rintro e w' ⟨β, y, rfl, hh, ex⟩
  have ra : RepQ (qE [a, b, c]) (qv 0) a := rep_v (i := 0)
  have rb : RepQ (qE [a, b, c]) (qv 1) b := rep_v (i := 1)
  have rc : RepQ (qE [a, b, c]) (qv 2) c := rep_v (i := 2)
  refine ⟨y, rfl, ?_, ex⟩
  rw [ite_pick (zt_den (rep_ng rb))] at hh
  by_cases hz : -b = 0
  · rw [decide_eq_true hz, if_pos rfl] at hh
    have hb : b = 0 := by grind
    have hc : c = 0 := by
      rcases R with ⟨_, h⟩ | ⟨h, _⟩
      · exact h
      · exact absurd hb h
    rw [hz, hc]
    exact lf_out (rep_ng ra) rep_0 rep_0 hh
  · rw [decide_eq_false hz, if_neg (by decide)] at hh
    exact lf_out (rep_ng ra) (rep_ng rb) rc hh
theorem r_neg (h : IsRoot w v a b c) (l : LimR 3000 a b c) : Calls Tryz.prog 29 #[v] w (Ret (fun x w' => IsRoot w' x (-a) (-b) c) w) := by
  refine (walk1 (l := [a, b, c]) (tab := []) (x := aR 0) (T := lf (qng (qv 0)) (qng (qv 1)) (qv 2) 3000 3000 3000)
    Tryz.func29 (by decide +kernel) .nil no_asm (by kernel_rfl) (by decide +kernel) rfl w v (fun _ => aR_holds h l)).mono ?_
  rintro e w' ⟨β, y, rfl, hh, ex⟩
  have ra : RepQ (qE [a, b, c]) (qv 0) a := rep_v (i := 0)
  have rb : RepQ (qE [a, b, c]) (qv 1) b := rep_v (i := 1)
  have rc : RepQ (qE [a, b, c]) (qv 2) c := rep_v (i := 2)
  exact ⟨y, rfl, lf_out (rep_ng ra) (rep_ng rb) rc hh, ex⟩
/-- Signs. -/
def lfN (t : IT) : Tree := .leaf [(false, [.n .i64 t])]
theorem lfN_out {E : Env} {β : Nat → Nat} {w : World} {v : Value} {t : IT} (h : (toAV ((lfN t).pick E)).holds E β w v) : v = .int .i64 (t.den E) := one_num.1 h
def sgt (p : IT2) : IT := .a2 3 p.1 (.lit 0)
theorem sgt_den {E : Env} {p : IT2} {q : Rat} (h : RepQ E p q) : (sgt p).den E = sgQ q := by
  show cmpZ (p.1.den E) 0 = _
  rw [h.1]; rfl
def sgL : IT := .a2 2 (.a2 2 (.a2 2 (.var 0) (.var 3)) (.a2 2 (.var 0) (.var 3))) (.var 5)
def sgR : IT := .a2 2 (.a2 2 (.a2 2 (.var 2) (.var 1)) (.a2 2 (.var 2) (.var 1))) (.var 4)
theorem sgLR (a b c : Rat) : cmpZ (sgL.den (qE [a, b, c])) (sgR.den (qE [a, b, c])) = sgQ (nrm a b c) := by
  show cmpZ (a.num * (b.den : Int) * (a.num * (b.den : Int)) * (c.den : Int)) (b.num * (a.den : Int) * (b.num * (a.den : Int)) * c.num) = _
  have num_eq : ∀ q : Rat, q * ((q.den : Int) : Rat) = (q.num : Rat) := by
    intro q
    have h := Rat.num_divInt_den q
    have hd : ((q.den : Int) : Rat) ≠ 0 := fun e => by
      have := Rat.intCast_eq_zero_iff.1 e
      have := q.den_pos
      omega
    have h2 : q = (q.num : Rat) / ((q.den : Int) : Rat) := by rw [← Rat.divInt_eq_div, h]
    have := Rat.div_mul_cancel (a := (q.num : Rat)) hd
    rw [← h2] at this
    exact this
  have pos : ∀ q : Rat, (0 : Rat) < ((q.den : Int) : Rat) := fun q => Rat.intCast_pos.2 (by have := q.den_pos; omega)
  have ea := num_eq a
  have eb := num_eq b
  have ec := num_eq c
  have pa := pos a
  have pb := pos b
  have pc := pos c
  have cast : ∀ x y : Int, cmpZ x y = sgQ ((x : Rat) - (y : Rat)) := by
    intro x y
    rw [← cmpQ_sub, Rat.num_intCast, Rat.den_intCast, Rat.num_intCast, Rat.den_intCast]
    have e1 : ((1 : Nat) : Int) = 1 := rfl
    rw [e1, Int.mul_one, Int.mul_one]
  rw [cast]
  simp only [castQ_mul]
  generalize ((a.den : Int) : Rat) = p at *
  generalize ((b.den : Int) : Rat) = q at *
  generalize ((c.den : Int) : Rat) = r at *
  rw [← ea, ← eb, ← ec]
  have e2 : a * p * q * (a * p * q) * r - b * q * p * (b * q * p) * (c * r) = nrm a b c * (p * q * (p * q) * r) := by unfold nrm; grind
  have hp := Rat.mul_pos (Rat.mul_pos (Rat.mul_pos pa pb) (Rat.mul_pos pa pb)) pc
  rw [e2, sgQ_mul, sgQ_pos hp, Int.mul_one]
theorem p_sign (R : Rd b c) (h : IsRoot w v a b c) (l : LimR 3000 a b c) : Calls Tryz.prog 26 #[v] w fun e w' => e = .returned (.int .i64 (sgN a b c)) ∧ Ext w w' := by
  refine (walk1 (l := [a, b, c]) (tab := []) (x := aR 0) (T := .ite (zt (qv 1)) (lfN (sgt (qv 0))) (.ite (.eq (sgt (qv 0)) (.a1 0 (sgt (qv 1)))) (lfN (.a2 2 (sgt (qv 0)) (.a2 3 sgL sgR))) (lfN (sgt (qv 1)))))
    Tryz.func26 (by decide +kernel) .nil no_asm (by kernel_rfl) (by decide +kernel) rfl w v (fun _ => aR_holds h l)).mono ?_
  rintro e w' ⟨β, y, rfl, hh, ex⟩
  have ra : RepQ (qE [a, b, c]) (qv 0) a := rep_v (i := 0)
  have rb : RepQ (qE [a, b, c]) (qv 1) b := rep_v (i := 1)
  have e1 : (BT.eq (sgt (qv 0)) (.a1 0 (sgt (qv 1)))).den (qE [a, b, c]) = decide (sgQ a = - sgQ b) := by
    show ((sgt (qv 0)).den (qE [a, b, c]) == - (sgt (qv 1)).den (qE [a, b, c])) = _
    rw [sgt_den ra, sgt_den rb, Bool.eq_iff_iff, beq_iff_eq, decide_eq_true_iff]
  rw [ite_pick (zt_den rb), ite_pick e1] at hh
  refine ⟨?_, ex⟩
  rw [← sgS_sgN R]
  have c1 := sgQ_cases a
  have c2 := sgQ_cases b
  rw [sgS_sgN R]
  by_cases hb : b = 0
  · rw [decide_eq_true hb, if_pos rfl] at hh
    rw [lfN_out hh, sgt_den ra]
    have hc : c = 0 := by
      rcases R with ⟨_, h⟩ | ⟨h, _⟩
      · exact h
      · exact absurd hb h
    subst hb hc
    by_cases ha : a = 0
    · subst ha; rw [sgN_zero (by unfold nrm; grind)]; rfl
    · rw [sgN_pos (by have := sq_pos ha; unfold nrm; grind)]
  · rw [decide_eq_false hb, if_neg (by decide)] at hh
    have hne : nrm a b c ≠ 0 := fun e => hb (nrm_ne R e).2
    have hb' : sgQ b ≠ 0 := by rcases c2 with ⟨k, e⟩ | ⟨k, e⟩ | ⟨k, e⟩ <;> first | (rw [e]; decide) | grind
    by_cases hs : sgQ a = - sgQ b
    · rw [decide_eq_true hs, if_pos rfl] at hh
      have e2 : (IT.a2 2 (sgt (qv 0)) (.a2 3 sgL sgR)).den (qE [a, b, c]) = sgQ a * sgQ (nrm a b c) := by
        show (sgt (qv 0)).den _ * cmpZ (sgL.den (qE [a, b, c])) (sgR.den (qE [a, b, c])) = _
        rw [sgt_den ra, sgLR]
      rw [lfN_out hh, e2]
      rcases (by grind : nrm a b c < 0 ∨ 0 < nrm a b c) with n | n
      · rw [sgN_neg n, sgQ_neg' n]
        congr 2; omega
      · rw [sgN_pos n, sgQ_pos n, Int.mul_one]
    · rw [decide_eq_false hs, if_neg (by decide)] at hh
      rw [lfN_out hh, sgt_den rb]
      rcases (by grind : nrm a b c < 0 ∨ 0 < nrm a b c) with n | n
      · rw [sgN_neg n]
      · rw [sgN_pos n]
        have ha : a ≠ 0 := by
          intro ha
          subst ha
          have := Rd.c0 R hb
          rcases R with ⟨h, _⟩ | ⟨_, hc, _⟩
          · exact absurd h hb
          · have := Rat.mul_pos (sq_pos hb) hc
            unfold nrm at n
            grind
        congr 2
        rcases c1 with ⟨k, e⟩ | ⟨k, e⟩ | ⟨k, e⟩
        · omega
        · exact absurd k ha
        · omega
theorem r_sign (R : Rd b c) (h : IsRoot w v a b c) (l : LimR 3000 a b c) : Calls Tryz.prog 27 #[v] w fun e w' => e = .returned (.int .i64 (sgN a b c)) ∧ Ext w w' := by
  refine (walk1 (l := [a, b, c]) (tab := []) (x := aR 0) (T := .ite (.eq (sgt (qv 0)) (sgt (qv 1))) (lfN (sgt (qv 0))) (.ite (zt (qv 1)) (lfN (sgt (qv 0))) (.ite (zt (qv 0)) (lfN (sgt (qv 1))) (.ite (.lt (.lit 0) (sgt (qop 1 (qop 2 (qv 0) (qv 0)) (qop 2 (qop 2 (qv 1) (qv 1)) (qv 2))))) (lfN (sgt (qv 0))) (lfN (sgt (qv 1)))))))
    Tryz.func27 (by decide +kernel) .nil no_asm (by kernel_rfl) (by decide +kernel) rfl w v (fun _ => aR_holds h l)).mono ?_
  rintro e w' ⟨β, y, rfl, hh, ex⟩
  have ra : RepQ (qE [a, b, c]) (qv 0) a := rep_v (i := 0)
  have rb : RepQ (qE [a, b, c]) (qv 1) b := rep_v (i := 1)
  have rc : RepQ (qE [a, b, c]) (qv 2) c := rep_v (i := 2)
  have e1 : (BT.eq (sgt (qv 0)) (sgt (qv 1))).den (qE [a, b, c]) = decide (sgQ a = sgQ b) := by
    show ((sgt (qv 0)).den (qE [a, b, c]) == (sgt (qv 1)).den (qE [a, b, c])) = _
    rw [sgt_den ra, sgt_den rb, Bool.eq_iff_iff, beq_iff_eq, decide_eq_true_iff]
  have e2 : (BT.lt (.lit 0) (sgt (qop 1 (qop 2 (qv 0) (qv 0)) (qop 2 (qop 2 (qv 1) (qv 1)) (qv 2))))).den (qE [a, b, c]) = decide (0 < nrm a b c) := by
    show decide (0 < (sgt _).den (qE [a, b, c])) = _
    rw [sgt_den (rep_sub (rep_mul ra ra) (rep_mul (rep_mul rb rb) rc)), Bool.eq_iff_iff, decide_eq_true_iff, decide_eq_true_iff]
    show 0 < sgQ (nrm a b c) ↔ _
    rcases sgQ_cases (nrm a b c) with ⟨k, e⟩ | ⟨k, e⟩ | ⟨k, e⟩ <;> rw [e] <;> constructor <;> intro j <;> first | omega | grind
  rw [ite_pick e1, ite_pick (zt_den rb), ite_pick (zt_den ra), ite_pick e2] at hh
  refine ⟨?_, ex⟩
  have c1 := sgQ_cases a
  have c2 := sgQ_cases b
  have s0 : b = 0 → sgN a b c = sgQ a := by
    intro hb
    have hc : c = 0 := by
      rcases R with ⟨_, h⟩ | ⟨h, _⟩
      · exact h
      · exact absurd hb h
    subst hb hc
    by_cases ha : a = 0
    · subst ha; rw [sgN_zero (by unfold nrm; grind)]; rfl
    · rw [sgN_pos (by have := sq_pos ha; unfold nrm; grind)]
  by_cases hab : sgQ a = sgQ b
  · rw [decide_eq_true hab, if_pos rfl] at hh
    rw [lfN_out hh, sgt_den ra]
    by_cases hb : b = 0
    · rw [s0 hb]
    · have hne : nrm a b c ≠ 0 := fun e => hb (nrm_ne R e).2
      rcases (by grind : nrm a b c < 0 ∨ 0 < nrm a b c) with n | n
      · rw [sgN_neg n, hab]
      · rw [sgN_pos n]
  · rw [decide_eq_false hab, if_neg (by decide)] at hh
    by_cases hb : b = 0
    · rw [decide_eq_true hb, if_pos rfl] at hh
      rw [lfN_out hh, sgt_den ra, s0 hb]
    · rw [decide_eq_false hb, if_neg (by decide)] at hh
      have hne : nrm a b c ≠ 0 := fun e => hb (nrm_ne R e).2
      by_cases ha : a = 0
      · rw [decide_eq_true ha, if_pos rfl] at hh
        rw [lfN_out hh, sgt_den rb]
        have n : nrm a b c < 0 := by
          rcases R with ⟨h, _⟩ | ⟨_, hc, _⟩
          · exact absurd h hb
          · have := Rat.mul_pos (sq_pos hb) hc
            unfold nrm
            rw [ha]
            grind
        rw [sgN_neg n]
      · rw [decide_eq_false ha, if_neg (by decide)] at hh
        by_cases n : 0 < nrm a b c
        · rw [decide_eq_true n, if_pos rfl] at hh
          rw [lfN_out hh, sgt_den ra, sgN_pos n]
        · rw [decide_eq_false n, if_neg (by decide)] at hh
          rw [lfN_out hh, sgt_den rb, sgN_neg (by grind)]
end
end Go.Proofs.YtdblkeeicmncfaaGreat
end

/- ---- Rtf ---- -/
section
/-
  What the walker knows of roots: multiples, opposites, sums, signs.
-/
set_option maxRecDepth 100000
namespace Go.Proofs.YtdblkeeicmncfaaGreat
open Go.RowKit

/-- A known radicand, where it is asked for. -/
def rdA (rd : Bool) (G : Asm) (B C : IT2) : Bool := !rd || (rdT B C).ev G == some true
theorem rdA_spec {E : Env} {G : Asm} (hG : G.holds E) {B C : IT2} {b c : Rat} (hB : RepQ E B b) (hC : RepQ E C c) {rd : Bool} (h : rdA rd G B C = true) : rd = true → Rd b c := by
  intro hr
  subst hr
  exact rdT_spec hG hB hC (by simpa [rdA] using h)
theorem dst2 {E : Env} {β : Nat → Nat} {w : World} {x y : AV} {vs : List Value} (hv : ∀ (i : Nat) (z : AV), [x, y][i]? = some z → ∃ v, vs[i]? = some v ∧ z.holds E β w v) (hl : vs.length = [x, y].length) : ∃ v u, vs = [v, u] ∧ x.holds E β w v ∧ y.holds E β w u := args2 hv hl
def kRSc (rd : Bool) : Con
  | [x, y], G => match rtOf x, qOf y with
    | some ((A, B, C), m), some (K, j) => if rdA rd G B C && (decide (m ≤ 20000) && decide (j ≤ 20000)) then some (.val true (rt (qop 2 A K) (qop 2 B K) (qop 5 (qop 2 B K) C) (4 * max m j + 1))) else none
    | _, _ => none
  | _, _ => none
theorem kRSc_ok {E : Env} (hE : QEnv E) {f : Nat} {rd : Bool} (hc : ∀ (w : World) (v u : Value) (a b c k : Rat), (rd = true → Rd b c) → IsRoot w v a b c → IsRat w u k → LimR 20000 a b c → LimQ 20000 k → Calls Tryz.prog f #[v, u] w (Ret (fun x w' => IsRoot w' x (a * k) (b * k) (rC (b * k) c)) w))
    (hb : ∃ fn, Tryz.prog.funcs[f]? = some fn ∧ fn.name ≠ "runtime.NumGoroutine" ∧ fn.body.isNone = false) : ConOK Tryz.prog E f (kRSc rd) := by
  refine ⟨?_, ?_, hb⟩
  · intro args G r h hG β w vs hv hlen
    unfold kRSc at h
    split at h
    · split at h
      · rename_i x y A B C m K j hx hy
        split at h
        · rename_i hcd
          simp only [Bool.and_eq_true, decide_eq_true_iff] at hcd
          injection h with h
          subst h
          obtain ⟨v, u, rfl, h1, h2⟩ := args2 hv hlen
          obtain ⟨a, b, c, ra, rb, rc, ir, lr⟩ := rtOf_spec hE hx h1
          obtain ⟨k, rk, iq, lq⟩ := qOf_spec hE hy h2
          refine (hc w v u a b c k (rdA_spec hG rb rc hcd.1) ir iq (lr.mono hcd.2.1) (lq.mono hcd.2.2)).mono ?_
          rintro e w' ⟨x', rfl, hr, ex⟩
          have lr' := lr.mono (Nat.le_max_left m j)
          have lq' := lq.mono (Nat.le_max_right m j)
          exact ⟨x', rfl, (one_rt (rep_mul ra rk) (rep_mul rb rk) (rep_rC (rep_mul rb rk) rc)).2 ⟨hr, lr'.1.mulQ lq', lr'.2.1.mulQ lq', LimQ.rC (lr'.2.2.mono (by omega)) (by omega)⟩, ex⟩
        · cases h
      · cases h
    · cases h
  · intro args G r h x off
    unfold kRSc at h
    split at h
    · split at h
      · split at h
        · injection h with h; subst h; intro e; cases e
        · cases h
      · cases h
    · cases h
def kRNg (rd : Bool) : Con
  | [x], G => match rtOf x with
    | some ((A, B, C), m) => if rdA rd G B C && decide (m ≤ 3000) then some (.val true (rt (qng A) (qng B) C m)) else none
    | _ => none
  | _, _ => none
theorem kRNg_ok {E : Env} (hE : QEnv E) {f : Nat} {rd : Bool} (hc : ∀ (w : World) (v : Value) (a b c : Rat), (rd = true → Rd b c) → IsRoot w v a b c → LimR 3000 a b c → Calls Tryz.prog f #[v] w (Ret (fun x w' => IsRoot w' x (-a) (-b) c) w))
    (hb : ∃ fn, Tryz.prog.funcs[f]? = some fn ∧ fn.name ≠ "runtime.NumGoroutine" ∧ fn.body.isNone = false) : ConOK Tryz.prog E f (kRNg rd) := by
  refine ⟨?_, ?_, hb⟩
  · intro args G r h hG β w vs hv hlen
    unfold kRNg at h
    split at h
    · split at h
      · rename_i x A B C m hx
        split at h
        · rename_i hcd
          simp only [Bool.and_eq_true, decide_eq_true_iff] at hcd
          injection h with h
          subst h
          obtain ⟨v, rfl, h1⟩ := args1 hv hlen
          obtain ⟨a, b, c, ra, rb, rc, ir, lr⟩ := rtOf_spec hE hx h1
          refine (hc w v a b c (rdA_spec hG rb rc hcd.1) ir (lr.mono hcd.2)).mono ?_
          rintro e w' ⟨x', rfl, hr, ex⟩
          exact ⟨x', rfl, (one_rt (rep_ng ra) (rep_ng rb) rc).2 ⟨hr, lr.1.negQ, lr.2.1.negQ, lr.2.2⟩, ex⟩
        · cases h
      · cases h
    · cases h
  · intro args G r h x off
    unfold kRNg at h
    split at h
    · split at h
      · split at h
        · injection h with h; subst h; intro e; cases e
        · cases h
      · cases h
    · cases h
/-- A number for a root: its sign, and how it is rounded. -/
def sgnT (A B C : IT2) : IT := (qop 8 A (qop 7 B C)).1
theorem sgnT_den {E : Env} {A B C : IT2} {a b c : Rat} (hA : RepQ E A a) (hB : RepQ E B b) (hC : RepQ E C c) (R : Rd b c) : (sgnT A B C).den E = sgN a b c := by
  have r : RepQ E (qop 8 A (qop 7 B C)) (ratF 8 a (sq2 b c)) := rep_op (f := 8) (by omega) hA (rep_sq2 hB hC)
  show (qop 8 A (qop 7 B C)).1.den E = _
  rw [r.1]
  show ((sgS a (sq2 b c) : Int) : Rat).num = _
  rw [Rat.num_intCast, sgS_sgN R]
def kRSg : Con
  | [x], G => match rtOf x with
    | some ((A, B, C), m) => if rdA true G B C && decide (m ≤ 3000) then some (.val false [.n .i64 (sgnT A B C)]) else none
    | _ => none
  | _, _ => none
theorem kRSg_ok {E : Env} (hE : QEnv E) {f : Nat} (hc : ∀ (w : World) (v : Value) (a b c : Rat), Rd b c → IsRoot w v a b c → LimR 3000 a b c → Calls Tryz.prog f #[v] w fun e w' => e = .returned (.int .i64 (sgN a b c)) ∧ Ext w w')
    (hb : ∃ fn, Tryz.prog.funcs[f]? = some fn ∧ fn.name ≠ "runtime.NumGoroutine" ∧ fn.body.isNone = false) : ConOK Tryz.prog E f kRSg := by
  refine ⟨?_, ?_, hb⟩
  · intro args G r h hG β w vs hv hlen
    unfold kRSg at h
    split at h
    · split at h
      · rename_i x A B C m hx
        split at h
        · rename_i hcd
          simp only [Bool.and_eq_true, decide_eq_true_iff] at hcd
          injection h with h
          subst h
          obtain ⟨v, rfl, h1⟩ := args1 hv hlen
          obtain ⟨a, b, c, ra, rb, rc, ir, lr⟩ := rtOf_spec hE hx h1
          have R := rdA_spec hG rb rc hcd.1 rfl
          refine (hc w v a b c R ir (lr.mono hcd.2)).mono ?_
          rintro e w' ⟨rfl, ex⟩
          exact ⟨_, rfl, one_num.2 (by rw [sgnT_den ra rb rc R]), ex⟩
        · cases h
      · cases h
    · cases h
  · intro args G r h x off
    unfold kRSg at h
    split at h
    · split at h
      · split at h
        · injection h with h; subst h; intro e; cases e
        · cases h
      · cases h
    · cases h
/-- Functions of two roots that ask for a common radicand. -/
def kRR (rd : Bool) (p q : IT2 × IT2 × IT2 → IT2 × IT2 × IT2 → IT2) (g : Nat → Nat) : Con
  | [x, y], G => match rtOf x, rtOf y with
    | some ((A, B, C), m), some ((A', B', C'), j) => if rdA rd G B C && (rdA rd G B' C' && (decide (m ≤ 3000) && decide (j ≤ 3000))) then
        match (nokT B C B' C').ev G with
        | some false => some (.tup [(true, rt (p (A, B, C) (A', B', C')) (q (A, B, C) (A', B', C')) (qop 5 (q (A, B, C) (A', B', C')) (cmT B C C')) (g (max m j))), (false, [.n .i64 (.lit 0)])])
        | some true => some (.tup (bad6 1))
        | none => none
      else none
    | _, _ => none
  | _, _ => none
theorem kRR_ok {E : Env} (hE : QEnv E) {f : Nat} {rd : Bool} {p q : IT2 × IT2 × IT2 → IT2 × IT2 × IT2 → IT2} {g : Nat → Nat} (P Q : Rat → Rat → Rat → Rat → Rat → Rat → Rat)
    (hp : ∀ A B C A' B' C' a b c a' b' c', RepQ E A a → RepQ E B b → RepQ E C c → RepQ E A' a' → RepQ E B' b' → RepQ E C' c' → RepQ E (p (A, B, C) (A', B', C')) (P a b c a' b' c') ∧ RepQ E (q (A, B, C) (A', B', C')) (Q a b c a' b' c'))
    (hg : ∀ m a b c a' b' c', LimR m a b c → LimR m a' b' c' → LimQ (g m) (P a b c a' b' c') ∧ LimQ (g m) (Q a b c a' b' c')) (hm : ∀ m, m ≤ g m ∧ 1 ≤ g m)
    (hc : ∀ (w : World) (v u : Value) (a b c a' b' c' : Rat), (rd = true → Rd b c) → (rd = true → Rd b' c') → IsRoot w v a b c → IsRoot w u a' b' c' → LimR 3000 a b c → LimR 3000 a' b' c' → Calls Tryz.prog f #[v, u] w (RetR w (Ok b c b' c') 1 (P a b c a' b' c') (Q a b c a' b' c') (rC (Q a b c a' b' c') (cm b c c'))))
    (hb : ∃ fn, Tryz.prog.funcs[f]? = some fn ∧ fn.name ≠ "runtime.NumGoroutine" ∧ fn.body.isNone = false) : ConOK Tryz.prog E f (kRR rd p q g) := by
  refine ⟨?_, ?_, hb⟩
  · intro args G r h hG β w vs hv hlen
    unfold kRR at h
    split at h
    · split at h
      · rename_i x y A B C m A' B' C' j hx hy
        split at h
        · rename_i hcd
          simp only [Bool.and_eq_true, decide_eq_true_iff] at hcd
          obtain ⟨v, u, rfl, h1, h2⟩ := args2 hv hlen
          obtain ⟨a, b, c, ra, rb, rc, ir, lr⟩ := rtOf_spec hE hx h1
          obtain ⟨a', b', c', ra', rb', rc', ir', lr'⟩ := rtOf_spec hE hy h2
          have key := hc w v u a b c a' b' c' (rdA_spec hG rb rc hcd.1) (rdA_spec hG rb' rc' hcd.2.1) ir ir' (lr.mono hcd.2.2.1) (lr'.mono hcd.2.2.2)
          split at h
          · rename_i ho
            have hok : Ok b c b' c' := (nokT_den rb rc rb' rc').1 (BT.ev_spec hG ho)
            injection h with h
            subst h
            refine key.mono ?_
            rintro e w' ⟨k1, _⟩
            obtain ⟨x', rfl, hr, ex⟩ := k1 hok
            have l1 := lr.mono (Nat.le_max_left m j)
            have l2 := lr'.mono (Nat.le_max_right m j)
            obtain ⟨r1, r2⟩ := hp A B C A' B' C' a b c a' b' c' ra rb rc ra' rb' rc'
            obtain ⟨g1, g2⟩ := hg _ a b c a' b' c' l1 l2
            have hmm := hm (max m j)
            exact ⟨_, rfl, ⟨[x', .int .i64 0], rfl, x', _, rfl, (one_rt r1 r2 (rep_rC r2 (rep_cm rb rc rc'))).2 ⟨hr, g1, g2, LimQ.rC ((LimQ.cm l1.2.2 l2.2.2).mono hmm.1) hmm.2⟩, _, _, rfl, one_num.2 rfl, rfl⟩, ex⟩
          · rename_i ho
            have hok : ¬ Ok b c b' c' := fun k => by
              have := BT.ev_spec hG ho
              rw [(nokT_den rb rc rb' rc').2 k] at this
              cases this
            injection h with h
            subst h
            refine key.mono ?_
            rintro e w' ⟨_, k1⟩
            obtain ⟨x', rfl, hr, ex⟩ := k1 hok
            exact ⟨_, rfl, ⟨[x', .int .i64 1], rfl, x', _, rfl, hr E, _, _, rfl, one_num.2 rfl, rfl⟩, ex⟩
          · cases h
        · cases h
      · cases h
    · cases h
  · intro args G r h x off
    unfold kRR at h
    split at h
    · split at h
      · split at h
        · split at h
          · injection h with h; subst h; intro e; cases e
          · injection h with h; subst h; intro e; cases e
          · cases h
        · cases h
      · cases h
    · cases h
def addA (r s : IT2 × IT2 × IT2) : IT2 := qop 0 r.1 s.1
def addB (r s : IT2 × IT2 × IT2) : IT2 := qop 0 r.2.1 s.2.1
def kRAd (rd : Bool) : Con := kRR rd addA addB (fun m => 4 * m + 1)
theorem kRAd_ok {E : Env} (hE : QEnv E) {f : Nat} {rd : Bool}
    (hc : ∀ (w : World) (v u : Value) (a b c a' b' c' : Rat), (rd = true → Rd b c) → (rd = true → Rd b' c') → IsRoot w v a b c → IsRoot w u a' b' c' → LimR 3000 a b c → LimR 3000 a' b' c' → Calls Tryz.prog f #[v, u] w (RetR w (Ok b c b' c') 1 (a + a') (b + b') (rC (b + b') (cm b c c'))))
    (hb : ∃ fn, Tryz.prog.funcs[f]? = some fn ∧ fn.name ≠ "runtime.NumGoroutine" ∧ fn.body.isNone = false) : ConOK Tryz.prog E f (kRAd rd) :=
  kRR_ok hE (fun a _ _ a' _ _ => a + a') (fun _ b _ _ b' _ => b + b') (fun _ _ _ _ _ _ _ _ _ _ _ _ ra rb _ ra' rb' _ => ⟨rep_add ra ra', rep_add rb rb'⟩) (fun _ _ _ _ _ _ _ l l' => ⟨l.1.addQ l'.1, l.2.1.addQ l'.2.1⟩) (fun m => ⟨by omega, by omega⟩) hc hb
end Go.Proofs.YtdblkeeicmncfaaGreat
end

/- ---- Rtg ---- -/
section
/-
  Products, inverses and roundings of roots.
-/
set_option maxRecDepth 100000
namespace Go.Proofs.YtdblkeeicmncfaaGreat
open Go.RowKit

def endP2 (A B C : IT2) (l m : Nat) : Tree := .ite (zt B) (lf2 A q0 q0 l 3 3) (lf2 A B C l m 3000)
def endR2 (A B C : IT2) (l m : Nat) : Tree := .ite (zt B) (lf2 A q0 q0 l 3 3) (.ite (zt C) (lf2 A q0 q0 l 3 3) (lf2 A B C l m 3000))
theorem endP2_out {E : Env} {β : Nat → Nat} {w : World} {v : Value} {A B C : IT2} {a b c : Rat} {l m : Nat} (hA : RepQ E A a) (hB : RepQ E B b) (hC : RepQ E C c) (h : (toAV ((endP2 A B C l m).pick E)).holds E β w v) : ∃ x, v = .tuple #[x, .int .i64 0] ∧ IsRoot w x a b (rC b c) := by
  unfold endP2 at h
  rw [ite_pick (zt_den hB)] at h
  by_cases hz : b = 0
  · rw [decide_eq_true hz, if_pos rfl] at h
    rw [hz, rC_zero]
    exact lf2_out hA rep_0 rep_0 h
  · rw [decide_eq_false hz, if_neg (by decide)] at h
    rw [rC_ne hz]
    exact lf2_out hA hB hC h
theorem endR2_out {E : Env} {β : Nat → Nat} {w : World} {v : Value} {A B C : IT2} {a b c : Rat} {l m : Nat} (hA : RepQ E A a) (hB : RepQ E B b) (hC : RepQ E C c) (hz : b ≠ 0 → c ≠ 0) (h : (toAV ((endR2 A B C l m).pick E)).holds E β w v) : ∃ x, v = .tuple #[x, .int .i64 0] ∧ IsRoot w x a b (rC b c) := by
  unfold endR2 at h
  rw [ite_pick (zt_den hB), ite_pick (zt_den hC)] at h
  by_cases hb : b = 0
  · rw [decide_eq_true hb, if_pos rfl] at h
    rw [hb, rC_zero]
    exact lf2_out hA rep_0 rep_0 h
  · rw [decide_eq_false hb, if_neg (by decide), decide_eq_false (hz hb), if_neg (by decide)] at h
    rw [rC_ne hb]
    exact lf2_out hA hB hC h
def comP3 (x x' y : Tree) : Tree := .ite (zt (qv 1)) y (.ite (zt (qv 4)) x' (.ite eqPT (.ite eqPT2 x (.leaf (bad6 1))) (.leaf (bad6 1))))
section
variable {a b c a' b' c' : Rat} {x x' y : Tree} {β : Nat → Nat} {w w' : World} {v u : Value}
theorem comP3_out (h : (toAV ((comP3 x x' y).pick (qE [a, b, c, a', b', c']))).holds (qE [a, b, c, a', b', c']) β w' v) :
    (Ok b c b' c' ∧ ((b = 0 ∧ (toAV (y.pick (qE [a, b, c, a', b', c']))).holds (qE [a, b, c, a', b', c']) β w' v) ∨ (b ≠ 0 ∧ b' = 0 ∧ (toAV (x'.pick (qE [a, b, c, a', b', c']))).holds (qE [a, b, c, a', b', c']) β w' v) ∨ (b ≠ 0 ∧ b' ≠ 0 ∧ c = c' ∧ (toAV (x.pick (qE [a, b, c, a', b', c']))).holds (qE [a, b, c, a', b', c']) β w' v))) ∨ (¬ Ok b c b' c' ∧ ∃ z, v = .tuple #[z, .int .i64 1] ∧ Zero6 w' z) := by
  obtain ⟨ra, rb, rc, ra', rb', rc'⟩ := rep6 (a := a) (b := b) (c := c) (a' := a') (b' := b') (c' := c')
  have e1 : eqPT.den (qE [a, b, c, a', b', c']) = decide (c.num = c'.num) := cmp0 _ _
  have e2 : eqPT2.den (qE [a, b, c, a', b', c']) = decide ((c.den : Int) = (c'.den : Int)) := cmp0 _ _
  unfold comP3 at h
  rw [ite_pick (zt_den rb), ite_pick (zt_den rb'), ite_pick e1, ite_pick e2] at h
  unfold Ok
  by_cases hb : b = 0
  · rw [decide_eq_true hb, if_pos rfl] at h
    exact .inl ⟨.inl hb, .inl ⟨hb, h⟩⟩
  · rw [decide_eq_false hb, if_neg (by decide)] at h
    by_cases hb' : b' = 0
    · rw [decide_eq_true hb', if_pos rfl] at h
      exact .inl ⟨.inr (.inl hb'), .inr (.inl ⟨hb, hb', h⟩)⟩
    · rw [decide_eq_false hb', if_neg (by decide)] at h
      by_cases h1 : c.num = c'.num
      · rw [decide_eq_true h1, if_pos rfl] at h
        by_cases h2 : (c.den : Int) = (c'.den : Int)
        · rw [decide_eq_true h2, if_pos rfl] at h
          exact .inl ⟨.inr (.inr (rat_eq_parts.2 ⟨h1, h2⟩)), .inr (.inr ⟨hb, hb', rat_eq_parts.2 ⟨h1, h2⟩, h⟩)⟩
        · rw [decide_eq_false h2, if_neg (by decide)] at h
          refine .inr ⟨?_, bad6_out h⟩
          rintro (k | k | k)
          · exact hb k
          · exact hb' k
          · exact h2 (rat_eq_parts.1 k).2
      · rw [decide_eq_false h1, if_neg (by decide)] at h
        refine .inr ⟨?_, bad6_out h⟩
        rintro (k | k | k)
        · exact hb k
        · exact hb' k
        · exact h1 (rat_eq_parts.1 k).1
def muA (A B A' B' C : IT2) : IT2 := qop 0 (qop 2 A A') (qop 2 (qop 2 B B') C)
def muB (A B A' B' : IT2) : IT2 := qop 0 (qop 2 A B') (qop 2 B A')
theorem rep_muA {E : Env} {A B A' B' C : IT2} {a b a' b' c : Rat} (ra : RepQ E A a) (rb : RepQ E B b) (ra' : RepQ E A' a') (rb' : RepQ E B' b') (rc : RepQ E C c) : RepQ E (muA A B A' B' C) (a * a' + b * b' * c) := rep_add (rep_mul ra ra') (rep_mul (rep_mul rb rb') rc)
theorem rep_muB {E : Env} {A B A' B' : IT2} {a b a' b' : Rat} (ra : RepQ E A a) (rb : RepQ E B b) (ra' : RepQ E A' a') (rb' : RepQ E B' b') : RepQ E (muB A B A' B') (a * b' + b * a') := rep_add (rep_mul ra rb') (rep_mul rb ra')
theorem p_mul (h : IsRoot w v a b c) (hu : IsRoot w u a' b' c') (l : LimR 3000 a b c) (l' : LimR 3000 a' b' c') : Calls Tryz.prog 35 #[v, u] w (RetR w (Ok b c b' c') 1 (a * a' + b * b' * cm b c c') (a * b' + b * a') (rC (a * b' + b * a') (cm b c c'))) := by
  refine (walk2 (l := [a, b, c, a', b', c']) (tab := [(30, kRSc false)]) (x := aR 0) (z := aR 3)
    (T := comP3 (endP2 (muA (qv 0) (qv 1) (qv 3) (qv 4) (qv 2)) (muB (qv 0) (qv 1) (qv 3) (qv 4)) (qv 2) 84009 48005) (lf2 (qop 2 (qv 0) (qv 3)) (qop 2 (qv 1) (qv 3)) (qop 5 (qop 2 (qv 1) (qv 3)) (qv 2)) 12001 12001 12001) (lf2 (qop 2 (qv 3) (qv 0)) (qop 2 (qv 4) (qv 0)) (qop 5 (qop 2 (qv 4) (qv 0)) (qv 5)) 12001 12001 12001))
    Tryz.func35 (by decide +kernel) (.cons (kRSc_ok (qE_ok _) (fun w v u a b c k _ h hu l lk => p_scale h hu l lk) ⟨_, Tryz.func30, by decide +kernel, by kernel_rfl⟩) .nil) no_asm (by kernel_rfl) (by decide +kernel) rfl w v u (fun _ => aR_holds h l) (fun _ => aR_holds hu l')).mono ?_
  rintro e w' ⟨β, y, rfl, hh, ex⟩
  obtain ⟨ra, rb, rc, ra', rb', rc'⟩ := rep6 (a := a) (b := b) (c := c) (a' := a') (b' := b') (c' := c')
  refine RetR.of ex ?_
  rcases comP3_out hh with ⟨ho, ⟨hb, hh⟩ | ⟨hb, hb', hh⟩ | ⟨hb, hb', hcc, hh⟩⟩ | hno
  · refine .inl ⟨ho, ?_⟩
    rw [show cm b c c' = c' by rw [hb, cm_zero]]
    obtain ⟨z, hz, k⟩ := lf2_out (rep_mul ra' ra) (rep_mul rb' ra) (rep_rC (rep_mul rb' ra) rc') hh
    refine ⟨z, hz, ?_⟩
    rw [show a * a' + b * b' * c' = a' * a by rw [hb]; grind, show a * b' + b * a' = b' * a by rw [hb]; grind]
    exact k
  · refine .inl ⟨ho, ?_⟩
    rw [cm_ne hb]
    obtain ⟨z, hz, k⟩ := lf2_out (rep_mul ra ra') (rep_mul rb ra') (rep_rC (rep_mul rb ra') rc) hh
    refine ⟨z, hz, ?_⟩
    rw [show a * a' + b * b' * c = a * a' by rw [hb']; grind, show a * b' + b * a' = b * a' by rw [hb']; grind]
    exact k
  · refine .inl ⟨ho, ?_⟩
    rw [cm_ne hb]
    exact endP2_out (rep_muA ra rb ra' rb' rc) (rep_muB ra rb ra' rb') rc hh
  · exact .inr hno
theorem r_mul (R : Rd b c) (R' : Rd b' c') (h : IsRoot w v a b c) (hu : IsRoot w u a' b' c') (l : LimR 3000 a b c) (l' : LimR 3000 a' b' c') : Calls Tryz.prog 36 #[v, u] w (RetR w (Ok b c b' c') 1 (a * a' + b * b' * cm b c c') (a * b' + b * a') (rC (a * b' + b * a') (cm b c c'))) := by
  refine (walk2 (l := [a, b, c, a', b', c']) (tab := []) (x := aR 0) (z := aR 3)
    (T := comR (endR2 (muA (qv 0) (qv 1) (qv 3) (qv 4) (qv 2)) (muB (qv 0) (qv 1) (qv 3) (qv 4)) (qv 2) 84009 48005) (endR2 (muA (qv 0) (qv 1) (qv 3) (qv 4) (qv 5)) (muB (qv 0) (qv 1) (qv 3) (qv 4)) (qv 5) 84009 48005))
    Tryz.func36 (by decide +kernel) .nil no_asm (by kernel_rfl) (by decide +kernel) rfl w v u (fun _ => aR_holds h l) (fun _ => aR_holds hu l')).mono ?_
  rintro e w' ⟨β, y, rfl, hh, ex⟩
  obtain ⟨ra, rb, rc, ra', rb', rc'⟩ := rep6 (a := a) (b := b) (c := c) (a' := a') (b' := b') (c' := c')
  refine RetR.of ex ?_
  rcases comR_out hh with ⟨ho, ⟨hb, hh⟩ | ⟨hb, hh⟩⟩ | hno
  · refine .inl ⟨ho, ?_⟩
    rw [show cm b c c' = c' by rw [hb, cm_zero]]
    refine endR2_out (rep_muA ra rb ra' rb' rc') (rep_muB ra rb ra' rb') rc' (fun hne => R'.c0 (fun e => hne ?_)) hh
    rw [hb, e]; grind
  · refine .inl ⟨ho, ?_⟩
    rw [cm_ne hb]
    exact endR2_out (rep_muA ra rb ra' rb' rc) (rep_muB ra rb ra' rb') rc (fun _ => R.c0 hb) hh
  · exact .inr hno
end
def mulA (r s : IT2 × IT2 × IT2) : IT2 := muA r.1 r.2.1 s.1 s.2.1 (cmT r.2.1 r.2.2 s.2.2)
def mulB (r s : IT2 × IT2 × IT2) : IT2 := muB r.1 r.2.1 s.1 s.2.1
def kRMu (rd : Bool) : Con := kRR rd mulA mulB (fun m => 28 * m + 9)
theorem kRMu_ok {E : Env} (hE : QEnv E) {f : Nat} {rd : Bool}
    (hc : ∀ (w : World) (v u : Value) (a b c a' b' c' : Rat), (rd = true → Rd b c) → (rd = true → Rd b' c') → IsRoot w v a b c → IsRoot w u a' b' c' → LimR 3000 a b c → LimR 3000 a' b' c' → Calls Tryz.prog f #[v, u] w (RetR w (Ok b c b' c') 1 (a * a' + b * b' * cm b c c') (a * b' + b * a') (rC (a * b' + b * a') (cm b c c'))))
    (hb : ∃ fn, Tryz.prog.funcs[f]? = some fn ∧ fn.name ≠ "runtime.NumGoroutine" ∧ fn.body.isNone = false) : ConOK Tryz.prog E f (kRMu rd) :=
  kRR_ok hE (fun a b c a' b' c' => a * a' + b * b' * cm b c c') (fun a b _ a' b' _ => a * b' + b * a') (fun _ _ _ _ _ _ _ _ _ _ _ _ ra rb rc ra' rb' rc' => ⟨rep_muA ra rb ra' rb' (rep_cm rb rc rc'), rep_muB ra rb ra' rb'⟩)
    (fun m a b c a' b' c' l l' => by
      have lc := LimQ.cm (b := b) l.2.2 l'.2.2
      have h1 := l.1.mulQ l'.1
      have h2 := l.2.1.mulQ l'.2.1
      obtain ⟨h3, h4⟩ := LimQ.mul h2.1 h2.2 lc.1 lc.2
      obtain ⟨h5, h6⟩ := LimQ.add h1.1 h1.2 h3 h4
      have h7 := l.1.mulQ l'.2.1
      have h8 := l.2.1.mulQ l'.1
      obtain ⟨h9, h10⟩ := LimQ.add h7.1 h7.2 h8.1 h8.2
      exact ⟨⟨h5.mono (by omega), h6.mono (by omega)⟩, h9.mono (by omega), h10.mono (by omega)⟩) (fun m => ⟨by omega, by omega⟩) hc hb
/-- Quotients, where the divisor is known to be 0 or not. -/
def kDv : Con
  | [x, y], G => match qOf x, qOf y with
    | some (X, m), some (Y, j) => if decide (m ≤ 100000) && decide (j ≤ 100000) then
        match (BT.eq Y.1 (.lit 0)).ev G with
        | some false => some (.tup [(true, [.int (qop 11 X Y).1 (2 * m + 2 * j + 1), .int (qop 11 X Y).2 (2 * m + 2 * j + 1)]), (false, [.n .i64 (.lit 0)])])
        | some true => some (.tup [(true, [.int (.lit 0) 0, .int (.lit 0) 0]), (false, [.n .i64 (.lit 6)])])
        | none => none
      else none
    | _, _ => none
  | _, _ => none
theorem rep_dv {E : Env} {p q : IT2} {a b : Rat} (hp : RepQ E p a) (hq : RepQ E q b) : RepQ E (qop 11 p q) (a / b) := rep_op (f := 11) (by omega) hp hq
theorem kDv_ok {E : Env} (hE : QEnv E) {f : Nat} (hc : ∀ (w : World) (v1 v2 : Value) (a b : Rat), IsRat w v1 a → IsRat w v2 b → LimQ 100000 a → LimQ 100000 b → Calls Tryz.prog f #[v1, v2] w (RetDiv a b w))
    (hb : ∃ fn, Tryz.prog.funcs[f]? = some fn ∧ fn.name ≠ "runtime.NumGoroutine" ∧ fn.body.isNone = false) : ConOK Tryz.prog E f kDv := by
  refine ⟨?_, ?_, hb⟩
  · intro args G r h hG β w vs hv hlen
    unfold kDv at h
    split at h
    · split at h
      · rename_i x y X m Y j hx hy
        split at h
        · rename_i hcd
          simp only [Bool.and_eq_true, decide_eq_true_iff] at hcd
          obtain ⟨v, u, rfl, h1, h2⟩ := args2 hv hlen
          obtain ⟨a, ra, ia, la⟩ := qOf_spec hE hx h1
          obtain ⟨b, rb, ib, lb⟩ := qOf_spec hE hy h2
          have key := hc w v u a b ia ib (la.mono hcd.1) (lb.mono hcd.2)
          have e0 : (BT.eq Y.1 (.lit 0)).den E = decide (b = 0) := by
            show (Y.1.den E == 0) = _
            rw [rb.1, Bool.eq_iff_iff, beq_iff_eq, decide_eq_true_iff, Rat.num_eq_zero]
          split at h
          · rename_i hz
            have hz' := BT.ev_spec hG hz
            rw [e0, decide_eq_false_iff_not] at hz'
            injection h with h
            subst h
            refine key.mono ?_
            rintro e w' ⟨x', rfl, hp, ex⟩
            have e1 : de b.num = 0 := by unfold de; rw [if_neg (fun k => hz' (Rat.num_eq_zero.1 k))]
            have e2 : divD a b = ((a / b).den : Int) := by unfold divD; rw [if_neg hz']
            rw [e1]
            rw [e2] at hp
            have rd := rep_dv ra rb
            obtain ⟨m1, m2⟩ := LimQ.div la.1 la.2 lb.1 lb.2
            rw [e2] at m2
            refine ⟨_, rfl, ⟨[x', .int .i64 0], rfl, x', _, rfl, one_pair.2 ?_, _, _, rfl, one_num.2 rfl, rfl⟩, ex⟩
            rw [rd.1, rd.2]
            exact ⟨hp, m1.mono (by omega), m2.mono (by omega)⟩
          · rename_i hz
            have hz' := BT.ev_spec hG hz
            rw [e0, decide_eq_true_iff] at hz'
            injection h with h
            subst h
            refine key.mono ?_
            rintro e w' ⟨x', rfl, hp, ex⟩
            subst hz'
            have e2 : divD a 0 = 0 := by unfold divD; rw [if_pos rfl]
            have e3 : (a / 0).num = 0 := by rw [Rat.div_def, Rat.inv_zero, Rat.mul_zero]; rfl
            rw [e2, e3] at hp
            exact ⟨_, rfl, ⟨[x', .int .i64 6], rfl, x', _, rfl, one_pair.2 ⟨hp, lim_zero, lim_zero⟩, _, _, rfl, one_num.2 rfl, rfl⟩, ex⟩
          · cases h
        · cases h
      · cases h
    · cases h
  · intro args G r h x off
    unfold kDv at h
    split at h
    · split at h
      · split at h
        · split at h
          · injection h with h; subst h; intro e; cases e
          · injection h with h; subst h; intro e; cases e
          · cases h
        · cases h
      · cases h
    · cases h
end Go.Proofs.YtdblkeeicmncfaaGreat
end

/- ---- Rth ---- -/
section
/-
  Inverses and roundings of roots.
-/
set_option maxRecDepth 100000
namespace Go.Proofs.YtdblkeeicmncfaaGreat
open Go.RowKit

def nrmT (A B C : IT2) : IT2 := qop 1 (qop 2 A A) (qop 2 (qop 2 B B) C)
theorem rep_nrm {E : Env} {A B C : IT2} {a b c : Rat} (ra : RepQ E A a) (rb : RepQ E B b) (rc : RepQ E C c) : RepQ E (nrmT A B C) (nrm a b c) := rep_sub (rep_mul ra ra) (rep_mul (rep_mul rb rb) rc)
def ivT (A B C : IT2) : IT2 := qop 11 (.lit 1, .lit 1) (nrmT A B C)
theorem rep_iv {E : Env} {A B C : IT2} {a b c : Rat} (ra : RepQ E A a) (rb : RepQ E B b) (rc : RepQ E C c) : RepQ E (ivT A B C) (1 / nrm a b c) := rep_dv rep_1 (rep_nrm ra rb rc)
theorem eq0_den {E : Env} {p : IT2} {q : Rat} (h : RepQ E p q) : (BT.eq p.1 (.lit 0)).den E = decide (q = 0) := by
  show (p.1.den E == 0) = _
  rw [h.1, Bool.eq_iff_iff, beq_iff_eq, decide_eq_true_iff, Rat.num_eq_zero]
theorem sgN_eq0 {a b c : Rat} (R : Rd b c) : sgN a b c = 0 ↔ nrm a b c = 0 := by
  constructor
  · intro h
    refine Decidable.byContradiction fun hn => ?_
    rcases (by grind : nrm a b c < 0 ∨ 0 < nrm a b c) with n | n
    · rw [sgN_neg n] at h
      rcases sgQ_cases b with ⟨_, e⟩ | ⟨k, _⟩ | ⟨_, e⟩
      · omega
      · rcases R with ⟨_, hc⟩ | ⟨hb, _⟩
        · unfold nrm at n
          rw [k] at n
          have := sq_nonneg a
          grind
        · exact hb k
      · omega
    · rw [sgN_pos n] at h
      rcases sgQ_cases a with ⟨_, e⟩ | ⟨k, _⟩ | ⟨_, e⟩
      · omega
      · rcases R with ⟨hb, hc⟩ | ⟨hb, hc, _⟩
        · subst k hb hc; unfold nrm at n; grind
        · have := Rat.mul_pos (sq_pos hb) hc
          unfold nrm at n
          rw [k] at n
          grind
      · omega
  · intro h; exact sgN_zero h
section
variable {w : World} {v u : Value} {a b c : Rat}
theorem Rd.rc (R : Rd b c) {x : Rat} (h : x = 0 → b = 0) : rC x c = c := by
  by_cases hx : x = 0
  · have hb := h hx
    rcases R with ⟨_, hc⟩ | ⟨hb', _⟩
    · rw [hc]; unfold rC; split <;> rfl
    · exact absurd hb hb'
  · exact rC_ne hx c
theorem rep3 : RepQ (qE [a, b, c]) (qv 0) a ∧ RepQ (qE [a, b, c]) (qv 1) b ∧ RepQ (qE [a, b, c]) (qv 2) c := ⟨rep_v (i := 0), rep_v (i := 1), rep_v (i := 2)⟩
def nG (z : Bool) : BT × Bool := (.eq (nrmT (qv 0) (qv 1) (qv 2)).1 (.lit 0), z)
theorem nG_ok {z : Bool} : (nG z).1.den (qE [a, b, c]) = decide (nrm a b c = 0) := by
  obtain ⟨ra, rb, rc⟩ := rep3 (a := a) (b := b) (c := c)
  exact eq0_den (rep_nrm ra rb rc)
def lfR (A B C : IT2) (l : Nat) : Tree := .leaf [(true, rt A B C l), (false, [.n .i64 (.lit 0)])]
theorem lfR_out {E : Env} {β : Nat → Nat} {w : World} {v : Value} {A B C : IT2} {a b c : Rat} {l : Nat} (hA : RepQ E A a) (hB : RepQ E B b) (hC : RepQ E C c) (h : (toAV ((lfR A B C l).pick E)).holds E β w v) : ∃ x, v = .tuple #[x, .int .i64 0] ∧ IsRoot w x a b c := lf2_out hA hB hC h
theorem p_inv (R : Rd b c) (h : IsRoot w v a b c) (l : LimR 300 a b c) : Calls Tryz.prog 37 #[v] w (RetR w (nrm a b c ≠ 0) 6 (a / nrm a b c) (-(b / nrm a b c)) c) := by
  obtain ⟨ra, rb, rc⟩ := rep3 (a := a) (b := b) (c := c)
  have htab : TabOK Tryz.prog (qE [a, b, c]) [(30, kRSc false), (81, kDv)] :=
    .cons (kRSc_ok (qE_ok _) (fun w v u a b c k _ h hu l lk => p_scale h hu l lk) ⟨_, Tryz.func30, by decide +kernel, by kernel_rfl⟩) (.cons (kDv_ok (qE_ok _) (fun w v1 v2 a b h1 h2 l1 l2 => div_rat_calls w v1 v2 a b h1 h2 l1 l2) ⟨_, Tryz.func81, by decide +kernel, by kernel_rfl⟩) .nil)
  by_cases hz : nrm a b c = 0
  · refine (walk1 (l := [a, b, c]) (tab := [(30, kRSc false), (81, kDv)]) (x := aRl 0 300) (G := [nG true]) (T := .leaf (bad6 6))
      Tryz.func37 (by decide +kernel) htab ?_ (by kernel_rfl) (by decide +kernel) rfl w v (fun _ => aRl_holds h l)).mono ?_
    · intro p hp
      simp only [List.mem_cons, List.not_mem_nil, or_false] at hp
      subst hp
      rw [nG_ok, decide_eq_true hz]; rfl
    · rintro e w' ⟨β, y, rfl, hh, ex⟩
      exact RetR.of ex (.inr ⟨fun k => k hz, bad6_out hh⟩)
  · refine (walk1 (l := [a, b, c]) (tab := [(30, kRSc false), (81, kDv)]) (x := aRl 0 300) (G := [nG false]) (T := lfR (qop 2 (qv 0) (ivT (qv 0) (qv 1) (qv 2))) (qop 2 (qng (qv 1)) (ivT (qv 0) (qv 1) (qv 2))) (qop 5 (qop 2 (qng (qv 1)) (ivT (qv 0) (qv 1) (qv 2))) (qv 2)) 67301)
      Tryz.func37 (by decide +kernel) htab ?_ (by kernel_rfl) (by decide +kernel) rfl w v (fun _ => aRl_holds h l)).mono ?_
    · intro p hp
      simp only [List.mem_cons, List.not_mem_nil, or_false] at hp
      subst hp
      rw [nG_ok, decide_eq_false hz]; rfl
    · rintro e w' ⟨β, y, rfl, hh, ex⟩
      refine RetR.of ex (.inl ⟨hz, ?_⟩)
      have ri := rep_iv ra rb rc
      have r2 := rep_mul (rep_ng rb) ri
      obtain ⟨z, hz', k⟩ := lfR_out (rep_mul ra ri) r2 (rep_rC r2 rc) hh
      refine ⟨z, hz', ?_⟩
      have e1 : a * (1 / nrm a b c) = a / nrm a b c := by rw [Rat.div_def, Rat.div_def, Rat.one_mul]
      have e2 : -b * (1 / nrm a b c) = -(b / nrm a b c) := by rw [Rat.div_def, Rat.div_def, Rat.one_mul]; grind
      rw [e1, e2, R.rc (x := -(b / nrm a b c)) (fun h0 => by
        have h1 : b / nrm a b c = 0 := by grind
        have := Rat.div_mul_cancel (a := b) hz
        rw [h1] at this
        grind)] at k
      exact k
theorem r_inv (R : Rd b c) (h : IsRoot w v a b c) (l : LimR 300 a b c) : Calls Tryz.prog 38 #[v] w (RetR w (nrm a b c ≠ 0) 6 (a / nrm a b c) (-(b / nrm a b c)) c) := by
  obtain ⟨ra, rb, rc⟩ := rep3 (a := a) (b := b) (c := c)
  have htab : TabOK Tryz.prog (qE [a, b, c]) [(27, kRSg), (83, kDv)] :=
    .cons (kRSg_ok (qE_ok _) (fun w v a b c R h l => r_sign R h l) ⟨_, Tryz.func27, by decide +kernel, by kernel_rfl⟩) (.cons (kDv_ok (qE_ok _) (fun w v1 v2 a b h1 h2 l1 l2 => rdiv_rat_calls w v1 v2 a b h1 h2 l1 l2) ⟨_, Tryz.func83, by decide +kernel, by kernel_rfl⟩) .nil)
  have g1 : (rdT (qv 1) (qv 2)).den (qE [a, b, c]) = true := by rw [rdT_den rb rc]; exact Rdb_iff.2 R
  have g2 : (BT.eq (sgnT (qv 0) (qv 1) (qv 2)) (.lit 0)).den (qE [a, b, c]) = decide (nrm a b c = 0) := by
    show ((sgnT (qv 0) (qv 1) (qv 2)).den (qE [a, b, c]) == 0) = _
    rw [sgnT_den ra rb rc R, Bool.eq_iff_iff, beq_iff_eq, decide_eq_true_iff]
    exact sgN_eq0 R
  by_cases hz : nrm a b c = 0
  · refine (walk1 (l := [a, b, c]) (tab := [(27, kRSg), (83, kDv)]) (x := aRl 0 300) (G := [(rdT (qv 1) (qv 2), true), (.eq (sgnT (qv 0) (qv 1) (qv 2)) (.lit 0), true)]) (T := .leaf (bad6 6))
      Tryz.func38 (by decide +kernel) htab ?_ (by kernel_rfl) (by decide +kernel) rfl w v (fun _ => aRl_holds h l)).mono ?_
    · intro p hp
      simp only [List.mem_cons, List.not_mem_nil, or_false] at hp
      rcases hp with rfl | rfl
      · exact g1
      · rw [g2, decide_eq_true hz]
    · rintro e w' ⟨β, y, rfl, hh, ex⟩
      exact RetR.of ex (.inr ⟨fun k => k hz, bad6_out hh⟩)
  · have rB : RepQ (qE [a, b, c]) (qng (qop 2 (qv 1) (ivT (qv 0) (qv 1) (qv 2)))) (-(b * (1 / nrm a b c))) := rep_ng (rep_mul rb (rep_iv ra rb rc))
    refine (walk1 (l := [a, b, c]) (tab := [(27, kRSg), (83, kDv)]) (x := aRl 0 300) (G := [(rdT (qv 1) (qv 2), true), (.eq (sgnT (qv 0) (qv 1) (qv 2)) (.lit 0), false), nG false])
      (T := .ite (zt (qng (qop 2 (qv 1) (ivT (qv 0) (qv 1) (qv 2))))) (lf2 (qop 2 (qv 0) (ivT (qv 0) (qv 1) (qv 2))) q0 q0 34251 3 3) (.ite (zt (qv 2)) (lf2 (qop 2 (qv 0) (ivT (qv 0) (qv 1) (qv 2))) q0 q0 34251 3 3) (lf2 (qop 2 (qv 0) (ivT (qv 0) (qv 1) (qv 2))) (qng (qop 2 (qv 1) (ivT (qv 0) (qv 1) (qv 2)))) (qv 2) 34251 34251 300)))
      Tryz.func38 (by decide +kernel) htab ?_ (by kernel_rfl) (by decide +kernel) rfl w v (fun _ => aRl_holds h l)).mono ?_
    · intro p hp
      simp only [List.mem_cons, List.not_mem_nil, or_false] at hp
      rcases hp with rfl | rfl | rfl
      · exact g1
      · rw [g2, decide_eq_false hz]
      · rw [nG_ok, decide_eq_false hz]; rfl
    · rintro e w' ⟨β, y, rfl, hh, ex⟩
      refine RetR.of ex (.inl ⟨hz, ?_⟩)
      have ri := rep_iv ra rb rc
      have e1 : a * (1 / nrm a b c) = a / nrm a b c := by rw [Rat.div_def, Rat.div_def, Rat.one_mul]
      have e2 : b * (1 / nrm a b c) = b / nrm a b c := by rw [Rat.div_def, Rat.div_def, Rat.one_mul]
      rw [ite_pick (zt_den rB), ite_pick (zt_den rc)] at hh
      by_cases hb : -(b * (1 / nrm a b c)) = 0
      · rw [decide_eq_true hb, if_pos rfl] at hh
        obtain ⟨z, hz', k⟩ := lf2_out (rep_mul ra ri) rep_0 rep_0 hh
        refine ⟨z, hz', ?_⟩
        have hb0 : b = 0 := by
          have := Rat.div_mul_cancel (a := b) hz
          rw [← e2] at this
          have h1 : b * (1 / nrm a b c) = 0 := by grind
          rw [h1] at this
          grind
        have hc0 : c = 0 := by
          rcases R with ⟨_, hc⟩ | ⟨hb', _⟩
          · exact hc
          · exact absurd hb0 hb'
        rw [e1] at k
        rw [← e2, hb]
        rw [hc0] at k ⊢
        exact k
      · rw [decide_eq_false hb, if_neg (by decide)] at hh
        have hc : c ≠ 0 := R.c0 (fun e => hb (by rw [e]; grind))
        rw [decide_eq_false hc, if_neg (by decide)] at hh
        obtain ⟨z, hz', k⟩ := lf2_out (rep_mul ra ri) rB rc hh
        refine ⟨z, hz', ?_⟩
        rw [e1, e2] at k
        exact k
/-- Roundings. -/
def flN (a b c : Rat) : Int := flS a (sq2 b c)
theorem num_den (q : Rat) : q * ((q.den : Int) : Rat) = (q.num : Rat) := by
  have h := Rat.num_divInt_den q
  have hd : ((q.den : Int) : Rat) ≠ 0 := fun e => by
    have := Rat.intCast_eq_zero_iff.1 e
    have := q.den_pos
    omega
  have h2 : q = (q.num : Rat) / ((q.den : Int) : Rat) := by rw [← Rat.divInt_eq_div, h]
  have := Rat.div_mul_cancel (a := (q.num : Rat)) hd
  rw [← h2] at this
  exact this
theorem den_posI (q : Rat) : (0 : Int) < (q.den : Int) := by have := q.den_pos; omega
theorem flN_spec (R : Rd b c) : IsFl a b c (flN a b c) := by
  unfold flN flS
  rcases R with ⟨rfl, rfl⟩ | ⟨hb, hc, hs⟩
  · have e : sq2 0 0 = 0 := by unfold sq2; rw [if_neg (by decide)]; grind
    rw [e, if_pos (show (0 : Rat).num = 0 from rfl), dq_pos (den_posI a), ← Rat.floor_def]
    exact IsFl.zero
  · have hbc := Rat.mul_pos (sq_pos hb) hc
    have hnz : (sq2 b c).num ≠ 0 := by
      rw [ne_eq, Rat.num_eq_zero]
      unfold sq2
      split <;> grind
    rw [if_neg hnz]
    have hn := num_pos_iff b
    have hbn : (sq2 b c).num < 0 ↔ b < 0 := by
      have h1 := num_pos_iff (sq2 b c)
      have h2 := num_pos_iff (b * b * c)
      have hn2 : b.num = 0 ↔ b = 0 := Rat.num_eq_zero
      unfold sq2 at *
      by_cases h : b.num < 0
      · rw [if_pos h] at *
        rw [Rat.neg_num]
        have := h2.2 hbc
        constructor
        · intro _; grind
        · intro _; omega
      · rw [if_neg h] at *
        have := h2.2 hbc
        constructor
        · intro k; omega
        · intro k; grind
    have habs : ((sq2 b c).num.natAbs : Int) = (b * b * c).num ∧ ((sq2 b c).den : Int) = ((b * b * c).den : Int) := by
      have := (num_pos_iff (b * b * c)).2 hbc
      unfold sq2
      split
      · rw [Rat.neg_num, Rat.neg_den]; omega
      · exact ⟨by omega, rfl⟩
    rw [habs.1, habs.2]
    have e : (if (sq2 b c).num < 0 then -(isq ((b * b * c).num * ((b * b * c).den : Int) * ((a.den : Int) * (a.den : Int))) + 1) else isq ((b * b * c).num * ((b * b * c).den : Int) * ((a.den : Int) * (a.den : Int)))) = (if b < 0 then -(isq ((b * b * c).num * ((b * b * c).den : Int) * ((a.den : Int) * (a.den : Int))) + 1) else isq ((b * b * c).num * ((b * b * c).den : Int) * ((a.den : Int) * (a.den : Int)))) := by
      by_cases h : b < 0
      · rw [if_pos h, if_pos (hbn.2 h)]
      · rw [if_neg h, if_neg (fun k => h (hbn.1 k))]
    rw [e]
    have ea := num_den a
    have es := num_den (b * b * c)
    refine fl_spec hb hc hs (Int.mul_pos (den_posI a) (den_posI _)) ?_ ?_
    · simp only [castQ_mul]
      rw [← ea]; grind
    · simp only [castQ_mul]
      rw [← es]; grind
def flX : IT := .a2 2 (.var 0) (.a2 2 (.var 3) (.var 5))
def flD : IT := .a2 2 (.var 1) (.a2 2 (.var 3) (.var 5))
def flY : IT := .a2 2 (.a2 2 (.a2 2 (.var 2) (.var 1)) (.a2 2 (.var 2) (.var 1))) (.a2 2 (.var 4) (.var 5))
def lfI (t : IT) (l : Nat) : Tree := .leaf [(true, [.int t l])]
theorem lfI_out {E : Env} {β : Nat → Nat} {w : World} {v : Value} {t : IT} {l : Nat} (h : (toAV ((lfI t l).pick E)).holds E β w v) : IsInt w v (t.den E) ∧ Lim l (t.den E) := one_int.1 h
theorem ltz_den {E : Env} {p : IT2} {q : Rat} (h : RepQ E p q) : (BT.lt (sgt p) (.lit 0)).den E = decide (q < 0) := by
  show decide ((sgt p).den E < 0) = _
  rw [sgt_den h, Bool.eq_iff_iff, decide_eq_true_iff, decide_eq_true_iff]
  rcases sgQ_cases q with ⟨k, e⟩ | ⟨k, e⟩ | ⟨k, e⟩ <;> rw [e] <;> constructor <;> intro j <;> first | omega | grind
theorem fl0 (R : Rd b c) (hb : b = 0) : flN a b c = a.floor := by
  have hc : c = 0 := by
    rcases R with ⟨_, hc⟩ | ⟨hb', _⟩
    · exact hc
    · exact absurd hb hb'
  subst hb hc
  exact (flN_spec R).unique R IsFl.zero
theorem p_floor (R : Rd b c) (h : IsRoot w v a b c) (l : LimR 400 a b c) : Calls Tryz.prog 40 #[v] w (Ret (fun x w' => IsInt w' x (flN a b c) ∧ Lim 9000 (flN a b c)) w) := by
  obtain ⟨ra, rb, rc⟩ := rep3 (a := a) (b := b) (c := c)
  refine (walk1 (l := [a, b, c]) (tab := []) (x := aRl 0 400) (T := .ite (zt (qv 1)) (lfI (.a2 4 (.var 0) (.var 1)) 400) (.ite (.lt (sgt (qv 1)) (.lit 0)) (lfI (.a2 4 (.a2 0 flX (.a2 1 (.lit (-1)) (.a1 2 flY))) flD) 2402) (lfI (.a2 4 (.a2 0 flX (.a1 2 flY)) flD) 2401)))
    Tryz.func40 (by decide +kernel) .nil no_asm (by kernel_rfl) (by decide +kernel) rfl w v (fun _ => aRl_holds h l)).mono ?_
  rintro e w' ⟨β, y, rfl, hh, ex⟩
  refine ⟨y, rfl, ?_, ex⟩
  rw [ite_pick (zt_den rb), ite_pick (ltz_den rb)] at hh
  by_cases hb : b = 0
  · rw [decide_eq_true hb, if_pos rfl] at hh
    obtain ⟨k1, k2⟩ := lfI_out hh
    have e1 : (IT.a2 4 (.var 0) (.var 1)).den (qE [a, b, c]) = flN a b c := by
      rw [fl0 R hb]
      show dq a.num (a.den : Int) = _
      rw [dq_pos (den_posI a), ← Rat.floor_def]
    rw [e1] at k1 k2
    exact ⟨k1, k2.mono (by omega)⟩
  · rw [decide_eq_false hb, if_neg (by decide)] at hh
    obtain ⟨hc, hs⟩ : 0 < c ∧ ∀ q : Rat, q * q ≠ c := by
      rcases R with ⟨hb', _⟩ | ⟨_, h⟩
      · exact absurd hb' hb
      · exact h
    have ea := num_den a
    have eb := num_den b
    have ec := num_den c
    have key := fl_spec (a := a) (b := b) (c := c) (x := a.num * ((b.den : Int) * (c.den : Int))) (D := (a.den : Int) * ((b.den : Int) * (c.den : Int))) (Y := b.num * (a.den : Int) * (b.num * (a.den : Int)) * (c.num * (c.den : Int))) hb hc hs (Int.mul_pos (den_posI a) (Int.mul_pos (den_posI b) (den_posI c)))
      (by simp only [castQ_mul]; rw [← ea]; grind) (by simp only [castQ_mul]; rw [← eb, ← ec]; grind)
    have hu := key.unique R (flN_spec R)
    by_cases hn : b < 0
    · rw [decide_eq_true hn, if_pos rfl] at hh
      obtain ⟨k1, k2⟩ := lfI_out hh
      rw [if_pos hn] at hu
      have e1 : (IT.a2 4 (.a2 0 flX (.a2 1 (.lit (-1)) (.a1 2 flY))) flD).den (qE [a, b, c]) = flN a b c := by
        rw [← hu]
        show dq (a.num * ((b.den : Int) * (c.den : Int)) + (-1 - isq (b.num * (a.den : Int) * (b.num * (a.den : Int)) * (c.num * (c.den : Int))))) ((a.den : Int) * ((b.den : Int) * (c.den : Int))) = _
        congr 2
        omega
      rw [e1] at k1 k2
      exact ⟨k1, k2.mono (by omega)⟩
    · rw [decide_eq_false hn, if_neg (by decide)] at hh
      obtain ⟨k1, k2⟩ := lfI_out hh
      rw [if_neg hn] at hu
      have e1 : (IT.a2 4 (.a2 0 flX (.a1 2 flY)) flD).den (qE [a, b, c]) = flN a b c := hu
      rw [e1] at k1 k2
      exact ⟨k1, k2.mono (by omega)⟩
def flM : IT2 := qop 2 (qop 2 (qv 1) (qv 1)) (qv 2)
def flX2 : IT := .a2 2 (.var 0) flM.2
def flD2 : IT := .a2 2 (.var 1) flM.2
def flY2 : IT := .a2 2 (.a2 2 flM.1 flM.2) (.a2 2 (.var 1) (.var 1))
theorem r_floor (R : Rd b c) (h : IsRoot w v a b c) (l : LimR 400 a b c) : Calls Tryz.prog 42 #[v] w (Ret (fun x w' => IsInt w' x (flN a b c) ∧ Lim 9000 (flN a b c)) w) := by
  obtain ⟨ra, rb, rc⟩ := rep3 (a := a) (b := b) (c := c)
  refine (walk1 (l := [a, b, c]) (tab := []) (x := aRl 0 400) (T := .ite (zt (qv 1)) (lfI (.a2 4 (.var 0) (.var 1)) 400) (.ite (.lt (sgt (qv 1)) (.lit 0)) (lfI (.a2 4 (.a2 0 flX2 (.a1 0 (.a2 0 (.a1 2 flY2) (.lit 1)))) flD2) 8808) (lfI (.a2 4 (.a2 0 flX2 (.a1 2 flY2)) flD2) 8807)))
    Tryz.func42 (by decide +kernel) .nil no_asm (by kernel_rfl) (by decide +kernel) rfl w v (fun _ => aRl_holds h l)).mono ?_
  rintro e w' ⟨β, y, rfl, hh, ex⟩
  refine ⟨y, rfl, ?_, ex⟩
  rw [ite_pick (zt_den rb), ite_pick (ltz_den rb)] at hh
  by_cases hb : b = 0
  · rw [decide_eq_true hb, if_pos rfl] at hh
    obtain ⟨k1, k2⟩ := lfI_out hh
    have e1 : (IT.a2 4 (.var 0) (.var 1)).den (qE [a, b, c]) = flN a b c := by
      rw [fl0 R hb]
      show dq a.num (a.den : Int) = _
      rw [dq_pos (den_posI a), ← Rat.floor_def]
    rw [e1] at k1 k2
    exact ⟨k1, k2.mono (by omega)⟩
  · rw [decide_eq_false hb, if_neg (by decide)] at hh
    obtain ⟨hc, hs⟩ : 0 < c ∧ ∀ q : Rat, q * q ≠ c := by
      rcases R with ⟨hb', _⟩ | ⟨_, h⟩
      · exact absurd hb' hb
      · exact h
    have ea := num_den a
    have rm : RepQ (qE [a, b, c]) flM (b * b * c) := rep_mul (rep_mul rb rb) rc
    have es := num_den (b * b * c)
    have key := fl_spec (a := a) (b := b) (c := c) (x := a.num * ((b * b * c).den : Int)) (D := (a.den : Int) * ((b * b * c).den : Int)) (Y := (b * b * c).num * ((b * b * c).den : Int) * ((a.den : Int) * (a.den : Int))) hb hc hs (Int.mul_pos (den_posI a) (den_posI _))
      (by simp only [castQ_mul]; rw [← ea]; grind) (by simp only [castQ_mul]; rw [← es]; grind)
    have hu := key.unique R (flN_spec R)
    have eX : flX2.den (qE [a, b, c]) = a.num * ((b * b * c).den : Int) := by
      show a.num * flM.2.den _ = _
      rw [rm.2]
    have eD : flD2.den (qE [a, b, c]) = (a.den : Int) * ((b * b * c).den : Int) := by
      show (a.den : Int) * flM.2.den _ = _
      rw [rm.2]
    have eY : flY2.den (qE [a, b, c]) = (b * b * c).num * ((b * b * c).den : Int) * ((a.den : Int) * (a.den : Int)) := by
      show flM.1.den _ * flM.2.den _ * _ = _
      rw [rm.1, rm.2]; rfl
    by_cases hn : b < 0
    · rw [decide_eq_true hn, if_pos rfl] at hh
      obtain ⟨k1, k2⟩ := lfI_out hh
      rw [if_pos hn] at hu
      have e1 : (IT.a2 4 (.a2 0 flX2 (.a1 0 (.a2 0 (.a1 2 flY2) (.lit 1)))) flD2).den (qE [a, b, c]) = flN a b c := by
        rw [← hu, ← eX, ← eD, ← eY]
        rfl
      rw [e1] at k1 k2
      exact ⟨k1, k2.mono (by omega)⟩
    · rw [decide_eq_false hn, if_neg (by decide)] at hh
      obtain ⟨k1, k2⟩ := lfI_out hh
      rw [if_neg hn] at hu
      have e1 : (IT.a2 4 (.a2 0 flX2 (.a1 2 flY2)) flD2).den (qE [a, b, c]) = flN a b c := by
        rw [← hu, ← eX, ← eD, ← eY]
        rfl
      rw [e1] at k1 k2
      exact ⟨k1, k2.mono (by omega)⟩
theorem p_floor4 (R : Rd b c) (h : IsRoot w v a b c) (l : LimR 4 a b c) : Calls Tryz.prog 40 #[v] w (Ret (fun x w' => IsInt w' x (flN a b c) ∧ Lim 100 (flN a b c)) w) := by
  obtain ⟨ra, rb, rc⟩ := rep3 (a := a) (b := b) (c := c)
  refine (walk1 (l := [a, b, c]) (tab := []) (x := aRl 0 4) (T := .ite (zt (qv 1)) (lfI (.a2 4 (.var 0) (.var 1)) 4) (.ite (.lt (sgt (qv 1)) (.lit 0)) (lfI (.a2 4 (.a2 0 flX (.a2 1 (.lit (-1)) (.a1 2 flY))) flD) 26) (lfI (.a2 4 (.a2 0 flX (.a1 2 flY)) flD) 25)))
    Tryz.func40 (by decide +kernel) .nil no_asm (by kernel_rfl) (by decide +kernel) rfl w v (fun _ => aRl_holds h l)).mono ?_
  rintro e w' ⟨β, y, rfl, hh, ex⟩
  refine ⟨y, rfl, ?_, ex⟩
  rw [ite_pick (zt_den rb), ite_pick (ltz_den rb)] at hh
  by_cases hb : b = 0
  · rw [decide_eq_true hb, if_pos rfl] at hh
    obtain ⟨k1, k2⟩ := lfI_out hh
    have e1 : (IT.a2 4 (.var 0) (.var 1)).den (qE [a, b, c]) = flN a b c := by
      rw [fl0 R hb]
      show dq a.num (a.den : Int) = _
      rw [dq_pos (den_posI a), ← Rat.floor_def]
    rw [e1] at k1 k2
    exact ⟨k1, k2.mono (by omega)⟩
  · rw [decide_eq_false hb, if_neg (by decide)] at hh
    obtain ⟨hc, hs⟩ : 0 < c ∧ ∀ q : Rat, q * q ≠ c := by
      rcases R with ⟨hb', _⟩ | ⟨_, h⟩
      · exact absurd hb' hb
      · exact h
    have ea := num_den a
    have eb := num_den b
    have ec := num_den c
    have key := fl_spec (a := a) (b := b) (c := c) (x := a.num * ((b.den : Int) * (c.den : Int))) (D := (a.den : Int) * ((b.den : Int) * (c.den : Int))) (Y := b.num * (a.den : Int) * (b.num * (a.den : Int)) * (c.num * (c.den : Int))) hb hc hs (Int.mul_pos (den_posI a) (Int.mul_pos (den_posI b) (den_posI c)))
      (by simp only [castQ_mul]; rw [← ea]; grind) (by simp only [castQ_mul]; rw [← eb, ← ec]; grind)
    have hu := key.unique R (flN_spec R)
    by_cases hn : b < 0
    · rw [decide_eq_true hn, if_pos rfl] at hh
      obtain ⟨k1, k2⟩ := lfI_out hh
      rw [if_pos hn] at hu
      have e1 : (IT.a2 4 (.a2 0 flX (.a2 1 (.lit (-1)) (.a1 2 flY))) flD).den (qE [a, b, c]) = flN a b c := by
        rw [← hu]
        show dq (a.num * ((b.den : Int) * (c.den : Int)) + (-1 - isq (b.num * (a.den : Int) * (b.num * (a.den : Int)) * (c.num * (c.den : Int))))) ((a.den : Int) * ((b.den : Int) * (c.den : Int))) = _
        congr 2
        omega
      rw [e1] at k1 k2
      exact ⟨k1, k2.mono (by omega)⟩
    · rw [decide_eq_false hn, if_neg (by decide)] at hh
      obtain ⟨k1, k2⟩ := lfI_out hh
      rw [if_neg hn] at hu
      have e1 : (IT.a2 4 (.a2 0 flX (.a1 2 flY)) flD).den (qE [a, b, c]) = flN a b c := hu
      rw [e1] at k1 k2
      exact ⟨k1, k2.mono (by omega)⟩
theorem r_floor4 (R : Rd b c) (h : IsRoot w v a b c) (l : LimR 4 a b c) : Calls Tryz.prog 42 #[v] w (Ret (fun x w' => IsInt w' x (flN a b c) ∧ Lim 100 (flN a b c)) w) := by
  obtain ⟨ra, rb, rc⟩ := rep3 (a := a) (b := b) (c := c)
  refine (walk1 (l := [a, b, c]) (tab := []) (x := aRl 0 4) (T := .ite (zt (qv 1)) (lfI (.a2 4 (.var 0) (.var 1)) 4) (.ite (.lt (sgt (qv 1)) (.lit 0)) (lfI (.a2 4 (.a2 0 flX2 (.a1 0 (.a2 0 (.a1 2 flY2) (.lit 1)))) flD2) 96) (lfI (.a2 4 (.a2 0 flX2 (.a1 2 flY2)) flD2) 95)))
    Tryz.func42 (by decide +kernel) .nil no_asm (by kernel_rfl) (by decide +kernel) rfl w v (fun _ => aRl_holds h l)).mono ?_
  rintro e w' ⟨β, y, rfl, hh, ex⟩
  refine ⟨y, rfl, ?_, ex⟩
  rw [ite_pick (zt_den rb), ite_pick (ltz_den rb)] at hh
  by_cases hb : b = 0
  · rw [decide_eq_true hb, if_pos rfl] at hh
    obtain ⟨k1, k2⟩ := lfI_out hh
    have e1 : (IT.a2 4 (.var 0) (.var 1)).den (qE [a, b, c]) = flN a b c := by
      rw [fl0 R hb]
      show dq a.num (a.den : Int) = _
      rw [dq_pos (den_posI a), ← Rat.floor_def]
    rw [e1] at k1 k2
    exact ⟨k1, k2.mono (by omega)⟩
  · rw [decide_eq_false hb, if_neg (by decide)] at hh
    obtain ⟨hc, hs⟩ : 0 < c ∧ ∀ q : Rat, q * q ≠ c := by
      rcases R with ⟨hb', _⟩ | ⟨_, h⟩
      · exact absurd hb' hb
      · exact h
    have ea := num_den a
    have rm : RepQ (qE [a, b, c]) flM (b * b * c) := rep_mul (rep_mul rb rb) rc
    have es := num_den (b * b * c)
    have key := fl_spec (a := a) (b := b) (c := c) (x := a.num * ((b * b * c).den : Int)) (D := (a.den : Int) * ((b * b * c).den : Int)) (Y := (b * b * c).num * ((b * b * c).den : Int) * ((a.den : Int) * (a.den : Int))) hb hc hs (Int.mul_pos (den_posI a) (den_posI _))
      (by simp only [castQ_mul]; rw [← ea]; grind) (by simp only [castQ_mul]; rw [← es]; grind)
    have hu := key.unique R (flN_spec R)
    have eX : flX2.den (qE [a, b, c]) = a.num * ((b * b * c).den : Int) := by
      show a.num * flM.2.den _ = _
      rw [rm.2]
    have eD : flD2.den (qE [a, b, c]) = (a.den : Int) * ((b * b * c).den : Int) := by
      show (a.den : Int) * flM.2.den _ = _
      rw [rm.2]
    have eY : flY2.den (qE [a, b, c]) = (b * b * c).num * ((b * b * c).den : Int) * ((a.den : Int) * (a.den : Int)) := by
      show flM.1.den _ * flM.2.den _ * _ = _
      rw [rm.1, rm.2]; rfl
    by_cases hn : b < 0
    · rw [decide_eq_true hn, if_pos rfl] at hh
      obtain ⟨k1, k2⟩ := lfI_out hh
      rw [if_pos hn] at hu
      have e1 : (IT.a2 4 (.a2 0 flX2 (.a1 0 (.a2 0 (.a1 2 flY2) (.lit 1)))) flD2).den (qE [a, b, c]) = flN a b c := by
        rw [← hu, ← eX, ← eD, ← eY]
        rfl
      rw [e1] at k1 k2
      exact ⟨k1, k2.mono (by omega)⟩
    · rw [decide_eq_false hn, if_neg (by decide)] at hh
      obtain ⟨k1, k2⟩ := lfI_out hh
      rw [if_neg hn] at hu
      have e1 : (IT.a2 4 (.a2 0 flX2 (.a1 2 flY2)) flD2).den (qE [a, b, c]) = flN a b c := by
        rw [← hu, ← eX, ← eD, ← eY]
        rfl
      rw [e1] at k1 k2
      exact ⟨k1, k2.mono (by omega)⟩
theorem p_floor50 (R : Rd b c) (h : IsRoot w v a b c) (l : LimR 50 a b c) : Calls Tryz.prog 40 #[v] w (Ret (fun x w' => IsInt w' x (flN a b c) ∧ Lim 1200 (flN a b c)) w) := by
  obtain ⟨ra, rb, rc⟩ := rep3 (a := a) (b := b) (c := c)
  refine (walk1 (l := [a, b, c]) (tab := []) (x := aRl 0 50) (T := .ite (zt (qv 1)) (lfI (.a2 4 (.var 0) (.var 1)) 50) (.ite (.lt (sgt (qv 1)) (.lit 0)) (lfI (.a2 4 (.a2 0 flX (.a2 1 (.lit (-1)) (.a1 2 flY))) flD) 302) (lfI (.a2 4 (.a2 0 flX (.a1 2 flY)) flD) 301)))
    Tryz.func40 (by decide +kernel) .nil no_asm (by kernel_rfl) (by decide +kernel) rfl w v (fun _ => aRl_holds h l)).mono ?_
  rintro e w' ⟨β, y, rfl, hh, ex⟩
  refine ⟨y, rfl, ?_, ex⟩
  rw [ite_pick (zt_den rb), ite_pick (ltz_den rb)] at hh
  by_cases hb : b = 0
  · rw [decide_eq_true hb, if_pos rfl] at hh
    obtain ⟨k1, k2⟩ := lfI_out hh
    have e1 : (IT.a2 4 (.var 0) (.var 1)).den (qE [a, b, c]) = flN a b c := by
      rw [fl0 R hb]
      show dq a.num (a.den : Int) = _
      rw [dq_pos (den_posI a), ← Rat.floor_def]
    rw [e1] at k1 k2
    exact ⟨k1, k2.mono (by omega)⟩
  · rw [decide_eq_false hb, if_neg (by decide)] at hh
    obtain ⟨hc, hs⟩ : 0 < c ∧ ∀ q : Rat, q * q ≠ c := by
      rcases R with ⟨hb', _⟩ | ⟨_, h⟩
      · exact absurd hb' hb
      · exact h
    have ea := num_den a
    have eb := num_den b
    have ec := num_den c
    have key := fl_spec (a := a) (b := b) (c := c) (x := a.num * ((b.den : Int) * (c.den : Int))) (D := (a.den : Int) * ((b.den : Int) * (c.den : Int))) (Y := b.num * (a.den : Int) * (b.num * (a.den : Int)) * (c.num * (c.den : Int))) hb hc hs (Int.mul_pos (den_posI a) (Int.mul_pos (den_posI b) (den_posI c)))
      (by simp only [castQ_mul]; rw [← ea]; grind) (by simp only [castQ_mul]; rw [← eb, ← ec]; grind)
    have hu := key.unique R (flN_spec R)
    by_cases hn : b < 0
    · rw [decide_eq_true hn, if_pos rfl] at hh
      obtain ⟨k1, k2⟩ := lfI_out hh
      rw [if_pos hn] at hu
      have e1 : (IT.a2 4 (.a2 0 flX (.a2 1 (.lit (-1)) (.a1 2 flY))) flD).den (qE [a, b, c]) = flN a b c := by
        rw [← hu]
        show dq (a.num * ((b.den : Int) * (c.den : Int)) + (-1 - isq (b.num * (a.den : Int) * (b.num * (a.den : Int)) * (c.num * (c.den : Int))))) ((a.den : Int) * ((b.den : Int) * (c.den : Int))) = _
        congr 2
        omega
      rw [e1] at k1 k2
      exact ⟨k1, k2.mono (by omega)⟩
    · rw [decide_eq_false hn, if_neg (by decide)] at hh
      obtain ⟨k1, k2⟩ := lfI_out hh
      rw [if_neg hn] at hu
      have e1 : (IT.a2 4 (.a2 0 flX (.a1 2 flY)) flD).den (qE [a, b, c]) = flN a b c := hu
      rw [e1] at k1 k2
      exact ⟨k1, k2.mono (by omega)⟩
theorem r_floor50 (R : Rd b c) (h : IsRoot w v a b c) (l : LimR 50 a b c) : Calls Tryz.prog 42 #[v] w (Ret (fun x w' => IsInt w' x (flN a b c) ∧ Lim 1200 (flN a b c)) w) := by
  obtain ⟨ra, rb, rc⟩ := rep3 (a := a) (b := b) (c := c)
  refine (walk1 (l := [a, b, c]) (tab := []) (x := aRl 0 50) (T := .ite (zt (qv 1)) (lfI (.a2 4 (.var 0) (.var 1)) 50) (.ite (.lt (sgt (qv 1)) (.lit 0)) (lfI (.a2 4 (.a2 0 flX2 (.a1 0 (.a2 0 (.a1 2 flY2) (.lit 1)))) flD2) 1108) (lfI (.a2 4 (.a2 0 flX2 (.a1 2 flY2)) flD2) 1107)))
    Tryz.func42 (by decide +kernel) .nil no_asm (by kernel_rfl) (by decide +kernel) rfl w v (fun _ => aRl_holds h l)).mono ?_
  rintro e w' ⟨β, y, rfl, hh, ex⟩
  refine ⟨y, rfl, ?_, ex⟩
  rw [ite_pick (zt_den rb), ite_pick (ltz_den rb)] at hh
  by_cases hb : b = 0
  · rw [decide_eq_true hb, if_pos rfl] at hh
    obtain ⟨k1, k2⟩ := lfI_out hh
    have e1 : (IT.a2 4 (.var 0) (.var 1)).den (qE [a, b, c]) = flN a b c := by
      rw [fl0 R hb]
      show dq a.num (a.den : Int) = _
      rw [dq_pos (den_posI a), ← Rat.floor_def]
    rw [e1] at k1 k2
    exact ⟨k1, k2.mono (by omega)⟩
  · rw [decide_eq_false hb, if_neg (by decide)] at hh
    obtain ⟨hc, hs⟩ : 0 < c ∧ ∀ q : Rat, q * q ≠ c := by
      rcases R with ⟨hb', _⟩ | ⟨_, h⟩
      · exact absurd hb' hb
      · exact h
    have ea := num_den a
    have rm : RepQ (qE [a, b, c]) flM (b * b * c) := rep_mul (rep_mul rb rb) rc
    have es := num_den (b * b * c)
    have key := fl_spec (a := a) (b := b) (c := c) (x := a.num * ((b * b * c).den : Int)) (D := (a.den : Int) * ((b * b * c).den : Int)) (Y := (b * b * c).num * ((b * b * c).den : Int) * ((a.den : Int) * (a.den : Int))) hb hc hs (Int.mul_pos (den_posI a) (den_posI _))
      (by simp only [castQ_mul]; rw [← ea]; grind) (by simp only [castQ_mul]; rw [← es]; grind)
    have hu := key.unique R (flN_spec R)
    have eX : flX2.den (qE [a, b, c]) = a.num * ((b * b * c).den : Int) := by
      show a.num * flM.2.den _ = _
      rw [rm.2]
    have eD : flD2.den (qE [a, b, c]) = (a.den : Int) * ((b * b * c).den : Int) := by
      show (a.den : Int) * flM.2.den _ = _
      rw [rm.2]
    have eY : flY2.den (qE [a, b, c]) = (b * b * c).num * ((b * b * c).den : Int) * ((a.den : Int) * (a.den : Int)) := by
      show flM.1.den _ * flM.2.den _ * _ = _
      rw [rm.1, rm.2]; rfl
    by_cases hn : b < 0
    · rw [decide_eq_true hn, if_pos rfl] at hh
      obtain ⟨k1, k2⟩ := lfI_out hh
      rw [if_pos hn] at hu
      have e1 : (IT.a2 4 (.a2 0 flX2 (.a1 0 (.a2 0 (.a1 2 flY2) (.lit 1)))) flD2).den (qE [a, b, c]) = flN a b c := by
        rw [← hu, ← eX, ← eD, ← eY]
        rfl
      rw [e1] at k1 k2
      exact ⟨k1, k2.mono (by omega)⟩
    · rw [decide_eq_false hn, if_neg (by decide)] at hh
      obtain ⟨k1, k2⟩ := lfI_out hh
      rw [if_neg hn] at hu
      have e1 : (IT.a2 4 (.a2 0 flX2 (.a1 2 flY2)) flD2).den (qE [a, b, c]) = flN a b c := by
        rw [← hu, ← eX, ← eD, ← eY]
        rfl
      rw [e1] at k1 k2
      exact ⟨k1, k2.mono (by omega)⟩
end
end Go.Proofs.YtdblkeeicmncfaaGreat
end

/- ---- Rti ---- -/
section
/-
  What the walker knows of roots: inverses, roundings, square roots, equality; awake.
-/
set_option maxRecDepth 100000
namespace Go.Proofs.YtdblkeeicmncfaaGreat
open Go.RowKit

def kRIv : Con
  | [x], G => match rtOf x with
    | some ((A, B, C), m) => if rdA true G B C && decide (m ≤ 300) then
        match (BT.eq (nrmT A B C).1 (.lit 0)).ev G with
        | some false => some (.tup [(true, rt (qop 11 A (nrmT A B C)) (qng (qop 11 B (nrmT A B C))) C (58 * m + 19)), (false, [.n .i64 (.lit 0)])])
        | some true => some (.tup (bad6 6))
        | none => none
      else none
    | _ => none
  | _, _ => none
theorem LimQ.nrm {m : Nat} {a b c : Rat} (l : LimR m a b c) : LimQ (28 * m + 9) (nrm a b c) := by
  have h1 := l.1.mulQ l.1
  have h2 := l.2.1.mulQ l.2.1
  obtain ⟨h3, h4⟩ := LimQ.mul h2.1 h2.2 l.2.2.1 l.2.2.2
  obtain ⟨h5, h6⟩ := LimQ.sub h1.1 h1.2 h3 h4
  exact ⟨h5.mono (by omega), h6.mono (by omega)⟩
theorem LimQ.divQ {l m : Nat} {a b : Rat} (h : LimQ l a) (k : LimQ m b) (hb : b ≠ 0) : LimQ (2 * l + 2 * m + 1) (a / b) := by
  obtain ⟨m1, m2⟩ := LimQ.div h.1 h.2 k.1 k.2
  have e2 : divD a b = ((a / b).den : Int) := by unfold divD; rw [if_neg hb]
  rw [e2] at m2
  exact ⟨m1.mono (by omega), m2.mono (by omega)⟩
theorem kRIv_ok {E : Env} (hE : QEnv E) {f : Nat} (hc : ∀ (w : World) (v : Value) (a b c : Rat), Rd b c → IsRoot w v a b c → LimR 300 a b c → Calls Tryz.prog f #[v] w (RetR w (nrm a b c ≠ 0) 6 (a / nrm a b c) (-(b / nrm a b c)) c))
    (hb : ∃ fn, Tryz.prog.funcs[f]? = some fn ∧ fn.name ≠ "runtime.NumGoroutine" ∧ fn.body.isNone = false) : ConOK Tryz.prog E f kRIv := by
  refine ⟨?_, ?_, hb⟩
  · intro args G r h hG β w vs hv hlen
    unfold kRIv at h
    split at h
    · split at h
      · rename_i x A B C m hx
        split at h
        · rename_i hcd
          simp only [Bool.and_eq_true, decide_eq_true_iff] at hcd
          obtain ⟨v, rfl, h1⟩ := args1 hv hlen
          obtain ⟨a, b, c, ra, rb, rc, ir, lr⟩ := rtOf_spec hE hx h1
          have R := rdA_spec hG rb rc hcd.1 rfl
          have key := hc w v a b c R ir (lr.mono hcd.2)
          have rn := rep_nrm ra rb rc
          split at h
          · rename_i ho
            have hz := BT.ev_spec hG ho
            rw [eq0_den rn, decide_eq_false_iff_not] at hz
            injection h with h
            subst h
            refine key.mono ?_
            rintro e w' ⟨k1, _⟩
            obtain ⟨x', rfl, hr, ex⟩ := k1 hz
            have ln := LimQ.nrm lr
            exact ⟨_, rfl, ⟨[x', .int .i64 0], rfl, x', _, rfl, (one_rt (rep_dv ra rn) (rep_ng (rep_dv rb rn)) rc).2 ⟨hr, (lr.1.divQ ln hz).mono (by omega), ((lr.2.1.divQ ln hz).negQ).mono (by omega), lr.2.2.mono (by omega)⟩, _, _, rfl, one_num.2 rfl, rfl⟩, ex⟩
          · rename_i ho
            have hz := BT.ev_spec hG ho
            rw [eq0_den rn, decide_eq_true_iff] at hz
            injection h with h
            subst h
            refine key.mono ?_
            rintro e w' ⟨_, k1⟩
            obtain ⟨x', rfl, hr, ex⟩ := k1 (fun k => k hz)
            exact ⟨_, rfl, ⟨[x', .int .i64 6], rfl, x', _, rfl, hr E, _, _, rfl, one_num.2 rfl, rfl⟩, ex⟩
          · cases h
        · cases h
      · cases h
    · cases h
  · intro args G r h x off
    unfold kRIv at h
    split at h
    · split at h
      · split at h
        · split at h
          · injection h with h; subst h; intro e; cases e
          · injection h with h; subst h; intro e; cases e
          · cases h
        · cases h
      · cases h
    · cases h
def floT (A B C : IT2) : IT := (qop 9 A (qop 7 B C)).1
theorem floT_den {E : Env} {A B C : IT2} {a b c : Rat} (hA : RepQ E A a) (hB : RepQ E B b) (hC : RepQ E C c) : (floT A B C).den E = flN a b c := by
  have r : RepQ E (qop 9 A (qop 7 B C)) (ratF 9 a (sq2 b c)) := rep_op (f := 9) (by omega) hA (rep_sq2 hB hC)
  show (qop 9 A (qop 7 B C)).1.den E = _
  rw [r.1]
  show ((flS a (sq2 b c) : Int) : Rat).num = _
  rw [Rat.num_intCast]; rfl
def kRFl : Con
  | [x], G => match rtOf x with
    | some ((A, B, C), m) => if rdA true G B C && decide (m ≤ 400) then some (.val true [.int (floT A B C) (if m ≤ 4 then 100 else if m ≤ 50 then 1200 else 9000)]) else none
    | _ => none
  | _, _ => none
theorem kRFl_ok {E : Env} (hE : QEnv E) {f : Nat} (hc4 : ∀ (w : World) (v : Value) (a b c : Rat), Rd b c → IsRoot w v a b c → LimR 4 a b c → Calls Tryz.prog f #[v] w (Ret (fun x w' => IsInt w' x (flN a b c) ∧ Lim 100 (flN a b c)) w)) (hc50 : ∀ (w : World) (v : Value) (a b c : Rat), Rd b c → IsRoot w v a b c → LimR 50 a b c → Calls Tryz.prog f #[v] w (Ret (fun x w' => IsInt w' x (flN a b c) ∧ Lim 1200 (flN a b c)) w)) (hc : ∀ (w : World) (v : Value) (a b c : Rat), Rd b c → IsRoot w v a b c → LimR 400 a b c → Calls Tryz.prog f #[v] w (Ret (fun x w' => IsInt w' x (flN a b c) ∧ Lim 9000 (flN a b c)) w))
    (hb : ∃ fn, Tryz.prog.funcs[f]? = some fn ∧ fn.name ≠ "runtime.NumGoroutine" ∧ fn.body.isNone = false) : ConOK Tryz.prog E f kRFl := by
  refine ⟨?_, ?_, hb⟩
  · intro args G r h hG β w vs hv hlen
    unfold kRFl at h
    split at h
    · split at h
      · rename_i x A B C m hx
        split at h
        · rename_i hcd
          simp only [Bool.and_eq_true, decide_eq_true_iff] at hcd
          injection h with h
          subst h
          obtain ⟨v, rfl, h1⟩ := args1 hv hlen
          obtain ⟨a, b, c, ra, rb, rc, ir, lr⟩ := rtOf_spec hE hx h1
          have R := rdA_spec hG rb rc hcd.1 rfl
          by_cases hm : m ≤ 4
          · refine (hc4 w v a b c R ir (lr.mono hm)).mono ?_
            rintro e w' ⟨x', rfl, hr, ex⟩
            refine ⟨_, rfl, one_int.2 ?_, ex⟩
            rw [floT_den ra rb rc, if_pos hm]
            exact hr
          · by_cases hm2 : m ≤ 50
            · refine (hc50 w v a b c R ir (lr.mono hm2)).mono ?_
              rintro e w' ⟨x', rfl, hr, ex⟩
              refine ⟨_, rfl, one_int.2 ?_, ex⟩
              rw [floT_den ra rb rc, if_neg hm, if_pos hm2]
              exact hr
            · refine (hc w v a b c R ir (lr.mono hcd.2)).mono ?_
              rintro e w' ⟨x', rfl, hr, ex⟩
              refine ⟨_, rfl, one_int.2 ?_, ex⟩
              rw [floT_den ra rb rc, if_neg hm, if_neg hm2]
              exact hr
        · cases h
      · cases h
    · cases h
  · intro args G r h x off
    unfold kRFl at h
    split at h
    · split at h
      · split at h
        · injection h with h; subst h; intro e; cases e
        · cases h
      · cases h
    · cases h
/-- Square roots of numbers that are known to be squares or not. -/
def sqT (x : IT) : BT := .and (.eq (.a1 3 x) (.lit 0)) (.eq (.a2 2 (.a1 2 x) (.a1 2 x)) x)
theorem sqT_den {E : Env} {x : IT} : (sqT x).den E = sqB (x.den E) := by
  show (isqE (x.den E) == 0 && (isq (x.den E) * isq (x.den E) == x.den E)) = _
  unfold sqB
  congr 1
  rw [Bool.eq_iff_iff, beq_iff_eq, beq_iff_eq]
  rcases cmpZ_cases (isq (x.den E) * isq (x.den E)) (x.den E) with ⟨h, e⟩ | ⟨h, e⟩ | ⟨h, e⟩ <;> rw [e] <;> omega
def kSqQ : Con
  | [.val true [.int x l, .int y m]], G => if decide (l ≤ 100000) && decide (m ≤ 100000) then
      match (BT.and (sqT x) (sqT y)).ev G with
      | some true => some (.tup [(true, [.int (IT.a1 2 x).fold l, .int (IT.a1 2 y).fold m]), (false, [.b (.lit true)])])
      | some false => some (.tup [(true, [.int (.lit 0) 0, .int (.lit 0) 0]), (false, [.b (.lit false)])])
      | none => none
    else none
  | _, _ => none
theorem kSqQ_ok {E : Env} {f : Nat} (hc : ∀ (w : World) (v : Value) (n d : Int), IsPair w v n d → Lim 100000 n → Lim 100000 d → Calls Tryz.prog f #[v] w (RetSqQ n d w))
    (hb : ∃ fn, Tryz.prog.funcs[f]? = some fn ∧ fn.name ≠ "runtime.NumGoroutine" ∧ fn.body.isNone = false) : ConOK Tryz.prog E f kSqQ := by
  refine ⟨?_, ?_, hb⟩
  · intro args G r h hG β w vs hv hlen
    unfold kSqQ at h
    split at h
    · rename_i x l y m
      split at h
      · rename_i hcd
        simp only [Bool.and_eq_true, decide_eq_true_iff] at hcd
        obtain ⟨v, rfl, h1⟩ := args1 hv hlen
        obtain ⟨p1, a1, a2⟩ := one_pair.1 h1
        have key := hc w v _ _ p1 (a1.mono hcd.1) (a2.mono hcd.2)
        have ed : (BT.and (sqT x) (sqT y)).den E = (sqB (x.den E) && sqB (y.den E)) := by
          show ((sqT x).den E && (sqT y).den E) = _
          rw [sqT_den, sqT_den]
        split at h
        · rename_i ho
          have hs := BT.ev_spec hG ho
          rw [ed] at hs
          injection h with h
          subst h
          refine key.mono ?_
          rintro e w' ⟨u, rfl, hp, ex⟩
          unfold sqN at hp
          rw [hs] at hp ⊢
          rw [if_pos rfl, if_pos rfl] at hp
          refine ⟨_, rfl, ⟨[u, .bool true], rfl, u, _, rfl, one_pair.2 ?_, _, _, rfl, one_bool.2 rfl, rfl⟩, ex⟩
          rw [IT.fold_den, IT.fold_den]
          exact ⟨hp, isq_lim a1, isq_lim a2⟩
        · rename_i ho
          have hs := BT.ev_spec hG ho
          rw [ed] at hs
          injection h with h
          subst h
          refine key.mono ?_
          rintro e w' ⟨u, rfl, hp, ex⟩
          unfold sqN at hp
          rw [hs] at hp ⊢
          rw [if_neg (by decide), if_neg (by decide)] at hp
          exact ⟨_, rfl, ⟨[u, .bool false], rfl, u, _, rfl, one_pair.2 ⟨hp, lim_zero, lim_zero⟩, _, _, rfl, one_bool.2 rfl, rfl⟩, ex⟩
        · cases h
      · cases h
    · cases h
  · intro args G r h x off
    unfold kSqQ at h
    split at h
    · split at h
      · split at h
        · injection h with h; subst h; intro e; cases e
        · injection h with h; subst h; intro e; cases e
        · cases h
      · cases h
    · cases h
end Go.Proofs.YtdblkeeicmncfaaGreat
end

/- ---- Rtj ---- -/
section
/-
  Any roots: which ones are valid and small.
-/
set_option maxRecDepth 100000
namespace Go.Proofs.YtdblkeeicmncfaaGreat
open Go.RowKit

abbrev RI := Bool × List Nat
/-- What Small says, for any bound. -/
def smN (n : Nat) (p q : RI) : Bool := decide (p.2.length ≤ n) && decide (q.2.length ≤ n) && okQ p.1 p.2 q.1 q.2
def rq (p q : RI) : Rat := Rat.divInt (sgn p.1 (val p.2)) (sgn q.1 (val q.2))
theorem smN_rat {n : Nat} {w : World} {v : Value} {p q : RI} (h : RawQ w v p.1 p.2 q.1 q.2) (hs : smN n p q = true) : IsRat w v (rq p q) ∧ LimQ n (rq p q) := by
  obtain ⟨s1, xs1⟩ := p
  obtain ⟨s2, xs2⟩ := q
  unfold smN okQ at hs
  simp only [Bool.and_eq_true, decide_eq_true_iff] at hs
  obtain ⟨⟨c1, c2⟩, ⟨⟨b1, b2⟩, b3⟩, b4⟩ := hs
  have hp := okQ_pair h b1 b2
  have m1 : Lim n (sgn s1 (val xs1)) := by obtain ⟨a, b, c, d, rfl, h1, h2⟩ := h; exact ok_lim h1 b1 c1
  have m2 : Lim n (sgn s2 (val xs2)) := by obtain ⟨a, b, c, d, rfl, h1, h2⟩ := h; exact ok_lim h2 b2 c2
  have hq : (rq (s1, xs1) (s2, xs2)).num = sgn s1 (val xs1) ∧ ((rq (s1, xs1) (s2, xs2)).den : Int) = sgn s2 (val xs2) := by
    unfold rq
    simp only
    generalize sgn s1 (val xs1) = n at *
    generalize sgn s2 (val xs2) = d at *
    have hd : ((d.natAbs : Nat) : Int) = d := by omega
    have e : Rat.divInt n d = ⟨n, d.natAbs, by omega, b4⟩ := by
      rw [Rat.mk_eq_divInt, hd]
    rw [e]
    exact ⟨rfl, hd⟩
  refine ⟨?_, ?_⟩
  · show IsPair w v (rq (s1, xs1) (s2, xs2)).num ((rq (s1, xs1) (s2, xs2)).den : Int)
    rw [hq.1, hq.2]; exact hp
  · refine ⟨?_, ?_⟩
    · rw [hq.1]; exact m1
    · rw [hq.2]; exact m2
def kRVN (n : Nat) : Con
  | [.val true [.raw i, .raw j]], G => if i % 2 == 0 && (j == i + 1 && (decide (n ≤ 100000) && (G.find (.le (.rlen i) (.lit (n : Int))) == some true && G.find (.le (.rlen j) (.lit (n : Int))) == some true))) then some (.val false [.b (.var (i / 2))]) else none
  | _, _ => none
theorem kRVN_ok {n : Nat} {E : Env} (hE : VEnv E) {f : Nat} (hc : ∀ (w : World) (v : Value) (s1 s2 : Bool) (xs1 xs2 : List Nat), RawQ w v s1 xs1 s2 xs2 → xs1.length ≤ 100000 → xs2.length ≤ 100000 → Calls Tryz.prog f #[v] w fun e w' => e = .returned (.bool (okQ s1 xs1 s2 xs2)) ∧ Ext w w')
    (hb : ∃ fn, Tryz.prog.funcs[f]? = some fn ∧ fn.name ≠ "runtime.NumGoroutine" ∧ fn.body.isNone = false) : ConOK Tryz.prog E f (kRVN n) := by
  refine ⟨?_, ?_, hb⟩
  · intro args As r h hG β w vs hv hlen
    unfold kRVN at h
    split at h
    · rename_i i j
      split at h
      · rename_i hlo
        injection h with h
        subst h
        simp only [Bool.and_eq_true, beq_iff_eq, decide_eq_true_iff] at hlo
        obtain ⟨hi, rfl, hn, b1, b2⟩ := hlo
        have c1 := of_decide_eq_true (Asm.find_spec hG b1)
        have c2 := of_decide_eq_true (Asm.find_spec hG b2)
        simp only [IT.den] at c1 c2
        obtain ⟨v, rfl, h1⟩ := args1 hv hlen
        refine (hc w v _ _ _ _ (one_raw2 h1) (by omega) (by omega)).mono ?_
        rintro e w' ⟨rfl, ex⟩
        exact ⟨_, rfl, one_bool.2 (by rw [← hE i hi]; rfl), ex⟩
      · cases h
    · cases h
  · intro args As r h x off
    unfold kRVN at h
    split at h
    · split at h
      · injection h with h; subst h; intro e; cases e
      · cases h
    · cases h
theorem rsmall4_calls (w : World) (v : Value) (p q : RI) (h : RawQ w v p.1 p.2 q.1 q.2) :
    Calls Tryz.prog 13 #[v, .int .i64 4] w fun e w' => e = .returned (.bool (smN 4 p q)) ∧ Ext w w' := by
  refine (fun_sound (C := cfgOf [(49, kRVN 4)]) (E := bE okQ [p, q]) (args := [argRaw 0 1, .val false [.n .i64 (.lit 4)]])
    (T := .ite (.le (.rlen 0) (.lit 4)) (.ite (.le (.rlen 1) (.lit 4)) (.leaf [(false, [.b (.var 0)])]) (.leaf [(false, [.b (.lit false)])])) (.leaf [(false, [.b (.lit false)])]))
    mixed (cfg_ok (.cons (kRVN_ok (bE_ok _) (fun w v s1 s2 xs1 xs2 h l1 l2 => rvalid_rat_calls w v s1 s2 xs1 xs2 h l1 l2) ⟨_, Tryz.func49, by decide +kernel, by kernel_rfl⟩) .nil)) no_asm Tryz.func13 (by decide +kernel) (by kernel_rfl) (by decide +kernel) rfl w [v, .int .i64 4] rfl ?_).mono ?_
  · intro i x hx
    match i, hx with
    | 0, hx => injection hx with hx; subst hx; exact ⟨fun _ => 0, v, rfl, argRaw_holds h rfl rfl⟩
    | 1, hx => injection hx with hx; subst hx; exact ⟨fun _ => 0, _, rfl, one_num.2 rfl⟩
  · rintro e w' ⟨β, u, rfl, hh, ex⟩
    have t1 : (BT.le (.rlen 0) (.lit 4)).den (bE okQ [p, q]) = decide (p.2.length ≤ 4) := by
      show decide ((p.2.length : Int) ≤ 4) = _
      rw [decide_eq_decide]; omega
    have t2 : (BT.le (.rlen 1) (.lit 4)).den (bE okQ [p, q]) = decide (q.2.length ≤ 4) := by
      show decide ((q.2.length : Int) ≤ 4) = _
      rw [decide_eq_decide]; omega
    simp only [Tree.pick, t1, t2, decide_eq_true_iff] at hh
    unfold smN
    split at hh
    · rename_i c1
      split at hh
      · rename_i c2
        have := one_bool.1 hh
        subst this
        rw [decide_eq_true c1, decide_eq_true c2]
        exact ⟨rfl, ex⟩
      · rename_i c2
        have := one_bool.1 hh
        subst this
        rw [decide_eq_false c2, Bool.and_false]
        exact ⟨rfl, ex⟩
    · rename_i c1
      have := one_bool.1 hh
      subst this
      rw [decide_eq_false c1]
      exact ⟨rfl, ex⟩
/-- Any root. -/
def RawR (w : World) (v : Value) (p1 p2 p3 p4 p5 p6 : RI) : Prop := ∃ x y z : List Value, v = .agg (x ++ (y ++ z)).toArray ∧ RawQ w (.agg x.toArray) p1.1 p1.2 p2.1 p2.2 ∧ RawQ w (.agg y.toArray) p3.1 p3.2 p4.1 p4.2 ∧ RawQ w (.agg z.toArray) p5.1 p5.2 p6.1 p6.2
def rwC (i : Nat) : List Chunk := [.raw i, .raw (i + 1), .raw (i + 2), .raw (i + 3), .raw (i + 4), .raw (i + 5)]
theorem two_raws {E : Env} {w : World} {i j : Nat} {cs : List Chunk} {vs : List Value} :
    chunks E w (.raw i :: .raw j :: cs) vs ↔ ∃ x r, vs = x ++ r ∧ RawQ w (.agg x.toArray) (E.r i).1 (E.r i).2 (E.r j).1 (E.r j).2 ∧ chunks E w cs r := by
  constructor
  · rintro ⟨u0, r0, rfl, ⟨x0, y0, rfl, i0⟩, u1, r1, rfl, ⟨x1, y1, rfl, i1⟩, h⟩
    exact ⟨[x0, y0, x1, y1], r1, rfl, ⟨x0, y0, x1, y1, rfl, i0, i1⟩, h⟩
  · rintro ⟨x, r, rfl, ⟨x0, y0, x1, y1, hx, i0, i1⟩, h⟩
    injection hx with hx
    have hx' : x = [x0, y0, x1, y1] := congrArg Array.toList hx
    subst hx'
    exact ⟨[x0, y0], [x1, y1] ++ r, rfl, ⟨x0, y0, rfl, i0⟩, [x1, y1], r, rfl, ⟨x1, y1, rfl, i1⟩, h⟩
theorem rwC_chunks {E : Env} {w : World} {i : Nat} {cs : List Chunk} {vs : List Value} : chunks E w (rwC i ++ cs) vs ↔ ∃ u r, vs = u ++ r ∧ RawR w (.agg u.toArray) (E.r i) (E.r (i + 1)) (E.r (i + 2)) (E.r (i + 3)) (E.r (i + 4)) (E.r (i + 5)) ∧ chunks E w cs r := by
  constructor
  · intro h
    obtain ⟨x, r, rfl, h1, h⟩ := two_raws.1 h
    obtain ⟨y, r, rfl, h2, h⟩ := two_raws.1 h
    obtain ⟨z, r, rfl, h3, h⟩ := two_raws.1 h
    exact ⟨x ++ (y ++ z), r, by simp, ⟨x, y, z, rfl, h1, h2, h3⟩, h⟩
  · rintro ⟨u, r, rfl, ⟨x, y, z, hu, h1, h2, h3⟩, h⟩
    injection hu with hu
    have hu' : u = x ++ (y ++ z) := congrArg Array.toList hu
    subst hu'
    exact two_raws.2 ⟨x, y ++ (z ++ r), by simp, h1, two_raws.2 ⟨y, z ++ r, rfl, h2, two_raws.2 ⟨z, r, rfl, h3, h⟩⟩⟩
theorem one_rwC {E : Env} {w : World} {i : Nat} {v : Value} : one E w (true, rwC i) v ↔ RawR w v (E.r i) (E.r (i + 1)) (E.r (i + 2)) (E.r (i + 3)) (E.r (i + 4)) (E.r (i + 5)) := by
  constructor
  · rintro ⟨vs, rfl, h⟩
    rw [show (true, rwC i).2 = rwC i ++ [] by rw [List.append_nil]] at h
    obtain ⟨u, r, rfl, h1, h2⟩ := rwC_chunks.1 h
    simp only [chunks] at h2
    subst h2
    rw [List.append_nil]; exact h1
  · rintro ⟨x, y, z, rfl, h1, h2, h3⟩
    refine ⟨x ++ (y ++ z), rfl, ?_⟩
    rw [show (true, rwC i).2 = rwC i ++ [] by rw [List.append_nil]]
    exact rwC_chunks.2 ⟨x ++ (y ++ z), [], by simp, ⟨x, y, z, rfl, h1, h2, h3⟩, rfl⟩
def smR (p1 p2 p3 p4 p5 p6 : RI) : Bool := smN 4 p1 p2 && (smN 4 p3 p4 && (smN 4 p5 p6 && Rdb (rq p3 p4) (rq p5 p6)))
theorem RawR.root {w : World} {v : Value} {p1 p2 p3 p4 p5 p6 : RI} (h : RawR w v p1 p2 p3 p4 p5 p6) {n : Nat} (h1 : smN n p1 p2 = true) (h2 : smN n p3 p4 = true) (h3 : smN n p5 p6 = true) : IsRoot w v (rq p1 p2) (rq p3 p4) (rq p5 p6) ∧ LimR n (rq p1 p2) (rq p3 p4) (rq p5 p6) := by
  obtain ⟨x, y, z, rfl, k1, k2, k3⟩ := h
  obtain ⟨i1, l1⟩ := smN_rat k1 h1
  obtain ⟨i2, l2⟩ := smN_rat k2 h2
  obtain ⟨i3, l3⟩ := smN_rat k3 h3
  exact ⟨⟨x, y, z, rfl, i1, i2, i3⟩, l1, l2, l3⟩
/-- Valid, of numbers in lowest terms. -/
def kVl : Con
  | [x], _ => match qOf x with
    | some (_, m) => if decide (m ≤ 100000) then some (.val false [.b (.lit true)]) else none
    | none => none
  | _, _ => none
theorem rat_raw {w : World} {v : Value} {q : Rat} (h : IsRat w v q) : RawQ w v (decide (q.num < 0)) (limbs q.num.natAbs) (decide ((q.den : Int) < 0)) (limbs (q.den : Int).natAbs) ∧ okQ (decide (q.num < 0)) (limbs q.num.natAbs) (decide ((q.den : Int) < 0)) (limbs (q.den : Int).natAbs) = true := by
  obtain ⟨x0, x1, x2, x3, rfl, i1, i2⟩ := h
  obtain ⟨k1, k2⟩ := int_raw i1
  obtain ⟨k3, k4⟩ := int_raw i2
  refine ⟨⟨_, _, _, _, rfl, k1, k3⟩, ?_⟩
  have e3 : sgn (decide (q.num < 0)) (val (limbs q.num.natAbs)) = q.num := by rw [val_limbs]; exact sgn_self q.num
  have e4 : sgn (decide ((q.den : Int) < 0)) (val (limbs (q.den : Int).natAbs)) = (q.den : Int) := by rw [val_limbs]; exact sgn_self (q.den : Int)
  unfold okQ
  rw [k2, k4, e3, e4, decide_eq_true (show 0 < (q.den : Int) by have := q.den_pos; omega)]
  rw [decide_eq_true (show Nat.gcd q.num.natAbs (q.den : Int).natAbs = 1 from q.reduced)]
  rfl
theorem kVl_ok {E : Env} (hE : QEnv E) {f : Nat} (hc : ∀ (w : World) (v : Value) (s1 s2 : Bool) (xs1 xs2 : List Nat), RawQ w v s1 xs1 s2 xs2 → xs1.length ≤ 100000 → xs2.length ≤ 100000 → Calls Tryz.prog f #[v] w fun e w' => e = .returned (.bool (okQ s1 xs1 s2 xs2)) ∧ Ext w w')
    (hb : ∃ fn, Tryz.prog.funcs[f]? = some fn ∧ fn.name ≠ "runtime.NumGoroutine" ∧ fn.body.isNone = false) : ConOK Tryz.prog E f kVl := by
  refine ⟨?_, ?_, hb⟩
  · intro args As r h hG β w vs hv hlen
    unfold kVl at h
    split at h
    · split at h
      · rename_i x A m hx
        split at h
        · rename_i hm
          rw [decide_eq_true_iff] at hm
          injection h with h
          subst h
          obtain ⟨v, rfl, h1⟩ := args1 hv hlen
          obtain ⟨a, ra, ia, la⟩ := qOf_spec hE hx h1
          obtain ⟨k1, k2⟩ := rat_raw ia
          refine (hc w v _ _ _ _ k1 (Nat.le_trans la.1 hm) (Nat.le_trans la.2 hm)).mono ?_
          rintro e w' ⟨rfl, ex⟩
          exact ⟨_, rfl, one_bool.2 (by rw [k2]; rfl), ex⟩
        · cases h
      · cases h
    · cases h
  · intro args As r h x off
    unfold kVl at h
    split at h
    · split at h
      · split at h
        · injection h with h; subst h; intro e; cases e
        · cases h
      · cases h
    · cases h
end Go.Proofs.YtdblkeeicmncfaaGreat
end
