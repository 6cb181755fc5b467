/-
  Texts of this seat, joined.
-/
import Derived.Test.YtllijnecmekfeaaGreatDoorP4
import Derived.Laws.FloatArith
import Derived.Laws.Externs
import Ieee.Arith
import Derived.Lay
import Derived.PinnedBridge
import Derived.Shelf.Strings.SlTrimAscii
import Derived.StillTailTactics
import Derived.IntWalk
section
set_option maxRecDepth 100000
namespace Go.Proofs.YtllijnecmekfeaaGreatDoor
open Go.RowKit
def IsRoot (w : World) (v : Value) (a b c : Rat) : Prop := ∃ x y z : List Value, v = .agg (x ++ (y ++ z)).toArray ∧ IsRat w (.agg x.toArray) a ∧ IsRat w (.agg y.toArray) b ∧ IsRat w (.agg z.toArray) c
def LimR (m : Nat) (a b c : Rat) : Prop := LimQ m a ∧ LimQ m b ∧ LimQ m c
theorem LimQ.mono {l m : Nat} {q : Rat} (h : LimQ l q) (k : l ≤ m) : LimQ m q := ⟨h.1.mono k, h.2.mono k⟩
theorem LimR.mono {l m : Nat} {a b c : Rat} (h : LimR l a b c) (k : l ≤ m) : LimR m a b c := ⟨h.1.mono k, h.2.1.mono k, h.2.2.mono k⟩
theorem IsRoot.ext {w w' : World} {v : Value} {a b c : Rat} (h : IsRoot w v a b c) (e : Ext w w') : IsRoot w' v a b c := by
  obtain ⟨x, y, z, rfl, h1, h2, h3⟩ := h
  exact ⟨x, y, z, rfl, h1.ext e, h2.ext e, h3.ext e⟩
def rt (A B C : IT2) (l : Nat) : List Chunk := [.int A.1 l, .int A.2 l, .int B.1 l, .int B.2 l, .int C.1 l, .int C.2 l]
theorem two_chunks {E : Env} {w : World} {A : IT2} {a : Rat} (hA : RepQ E A a) {l m : Nat} {cs : List Chunk} {vs : List Value} :
    chunks E w (.int A.1 l :: .int A.2 m :: cs) vs ↔ ∃ x r, vs = x ++ r ∧ (IsRat w (.agg x.toArray) a ∧ Lim l a.num ∧ Lim m (a.den : Int)) ∧ chunks E w cs r := by
  constructor
  · rintro ⟨u0, r0, rfl, ⟨x0, y0, rfl, i0, m0⟩, u1, r1, rfl, ⟨x1, y1, rfl, i1, m1⟩, h⟩
    rw [hA.1] at i0 m0
    rw [hA.2] at i1 m1
    exact ⟨[x0, y0, x1, y1], r1, rfl, ⟨⟨x0, y0, x1, y1, rfl, i0, i1⟩, m0, m1⟩, h⟩
  · rintro ⟨x, r, rfl, ⟨⟨x0, y0, x1, y1, hx, i0, i1⟩, m0, m1⟩, h⟩
    injection hx with hx
    have hx' : x = [x0, y0, x1, y1] := congrArg Array.toList hx
    subst hx'
    refine ⟨[x0, y0], [x1, y1] ++ r, rfl, ⟨x0, y0, rfl, ?_, ?_⟩, [x1, y1], r, rfl, ⟨x1, y1, rfl, ?_, ?_⟩, h⟩
    · rw [hA.1]; exact i0
    · rw [hA.1]; exact m0
    · rw [hA.2]; exact i1
    · rw [hA.2]; exact m1
theorem one_root {E : Env} {w : World} {A B C : IT2} {a b c : Rat} (hA : RepQ E A a) (hB : RepQ E B b) (hC : RepQ E C c) {l1 l2 l3 l4 l5 l6 : Nat} {v : Value} :
    one E w (true, [.int A.1 l1, .int A.2 l2, .int B.1 l3, .int B.2 l4, .int C.1 l5, .int C.2 l6]) v ↔ IsRoot w v a b c ∧ ((Lim l1 a.num ∧ Lim l2 (a.den : Int)) ∧ (Lim l3 b.num ∧ Lim l4 (b.den : Int)) ∧ (Lim l5 c.num ∧ Lim l6 (c.den : Int))) := by
  constructor
  · rintro ⟨vs, rfl, h⟩
    obtain ⟨x, r, rfl, ⟨h1, m1⟩, h⟩ := (two_chunks hA).1 h
    obtain ⟨y, r, rfl, ⟨h2, m2⟩, h⟩ := (two_chunks hB).1 h
    obtain ⟨z, r, rfl, ⟨h3, m3⟩, h⟩ := (two_chunks hC).1 h
    simp only [chunks] at h
    subst h
    rw [List.append_nil]
    exact ⟨⟨x, y, z, rfl, h1, h2, h3⟩, m1, m2, m3⟩
  · rintro ⟨⟨x, y, z, rfl, h1, h2, h3⟩, m1, m2, m3⟩
    exact ⟨x ++ (y ++ z), rfl, (two_chunks hA).2 ⟨x, y ++ z, rfl, ⟨h1, m1⟩, (two_chunks hB).2 ⟨y, z, rfl, ⟨h2, m2⟩, (two_chunks hC).2 ⟨z, [], by simp, ⟨h3, m3⟩, rfl⟩⟩⟩⟩
theorem one_rt {E : Env} {w : World} {A B C : IT2} {a b c : Rat} (hA : RepQ E A a) (hB : RepQ E B b) (hC : RepQ E C c) {l : Nat} {v : Value} : one E w (true, rt A B C l) v ↔ IsRoot w v a b c ∧ LimR l a b c := one_root hA hB hC
def rtOf : AV → Option ((IT2 × IT2 × IT2) × Nat)
  | .val true [.int x1 l1, .int x2 l2, .int x3 l3, .int x4 l4, .int x5 l5, .int x6 l6] =>
    if canon x1 x2 && (canon x3 x4 && canon x5 x6) then some (((x1, x2), (x3, x4), (x5, x6)), max l1 (max l2 (max l3 (max l4 (max l5 l6))))) else none
  | _ => none
theorem rtOf_spec {E : Env} (hE : QEnv E) {β : Nat → Nat} {w : World} {x : AV} {v : Value} {A B C : IT2} {m : Nat} (h : rtOf x = some ((A, B, C), m)) (hx : x.holds E β w v) :
    ∃ a b c, RepQ E A a ∧ RepQ E B b ∧ RepQ E C c ∧ IsRoot w v a b c ∧ LimR m a b c := by
  unfold rtOf at h
  split at h
  · rename_i x1 l1 x2 l2 x3 l3 x4 l4 x5 l5 x6 l6
    split at h
    · rename_i hc
      simp only [Bool.and_eq_true] at hc
      injection h with h
      injection h with h hm
      injection h with h1 h
      injection h with h2 h3
      subst h1 h2 h3 hm
      obtain ⟨a, a1, a2⟩ := canon_spec hE hc.1
      obtain ⟨b, b1, b2⟩ := canon_spec hE hc.2.1
      obtain ⟨c, c1, c2⟩ := canon_spec hE hc.2.2
      obtain ⟨hr, ⟨m1, m2⟩, ⟨m3, m4⟩, m5, m6⟩ := (one_root (A := (x1, x2)) (B := (x3, x4)) (C := (x5, x6)) ⟨a1, a2⟩ ⟨b1, b2⟩ ⟨c1, c2⟩).1 hx
      exact ⟨a, b, c, ⟨a1, a2⟩, ⟨b1, b2⟩, ⟨c1, c2⟩, hr, ⟨m1.mono (by omega), m2.mono (by omega)⟩, ⟨m3.mono (by omega), m4.mono (by omega)⟩, m5.mono (by omega), m6.mono (by omega)⟩
    · cases h
  · cases h
def rdT (B C : IT2) : BT := .eq (.a4 20 B.1 B.2 C.1 C.2) (.lit 1)
theorem rdT_den {E : Env} {B C : IT2} {b c : Rat} (hB : RepQ E B b) (hC : RepQ E C c) : (rdT B C).den E = Rdb b c := by
  have r : RepQ E (qop 10 B C) (ratF 10 b c) := rep_op (f := 10) (by omega) hB hC
  show ((qop 10 B C).1.den E == 1) = _
  rw [r.1]
  show ((if Rdb b c = true then (1 : Rat) else 0).num == 1) = _
  cases Rdb b c <;> rfl
theorem rdT_spec {E : Env} {G : Asm} (hG : G.holds E) {B C : IT2} {b c : Rat} (hB : RepQ E B b) (hC : RepQ E C c) (h : ((rdT B C).ev G == some true) = true) : Rd b c := by
  rw [beq_iff_eq] at h
  have := BT.ev_spec hG h
  rw [rdT_den hB hC] at this
  exact Rdb_iff.1 this
def nokT (B C B' C' : IT2) : BT := .and (.not (.eq B.1 (.lit 0))) (.and (.not (.eq B'.1 (.lit 0))) (.not (.and (.eq C.1 C'.1) (.eq C.2 C'.2))))
def Ok (b c b' c' : Rat) : Prop := b = 0 ∨ b' = 0 ∨ c = c'
theorem nokT_den {E : Env} {B C B' C' : IT2} {b c b' c' : Rat} (hB : RepQ E B b) (hC : RepQ E C c) (hB' : RepQ E B' b') (hC' : RepQ E C' c') : (nokT B C B' C').den E = false ↔ Ok b c b' c' := by
  have n1 : b.num = 0 ↔ b = 0 := Rat.num_eq_zero
  have n2 : b'.num = 0 ↔ b' = 0 := Rat.num_eq_zero
  have n3 : (c.num = c'.num ∧ (c.den : Int) = (c'.den : Int)) ↔ c = c' := ⟨fun h => Rat.ext h.1 (by have := h.2; omega), fun h => by subst h; exact ⟨rfl, rfl⟩⟩
  unfold nokT Ok
  simp only [BT.den, IT.den, hB.1, hB'.1, hC.1, hC.2, hC'.1, hC'.2]
  rw [← n1, ← n2, ← n3]
  cases h1 : (b.num == 0) <;> cases h2 : (b'.num == 0) <;> cases h3 : (c.num == c'.num) <;> cases h4 : ((c.den : Int) == (c'.den : Int)) <;> simp_all
def cmT (B C C' : IT2) : IT2 := qop 0 (qop 5 B C) (qop 6 B C')
def cm (b c c' : Rat) : Rat := rC b c + rN b c'
theorem cm_zero (c c' : Rat) : cm 0 c c' = c' := by unfold cm; rw [rC_zero, rN_zero]; grind
theorem cm_ne {b : Rat} (h : b ≠ 0) (c c' : Rat) : cm b c c' = c := by unfold cm; rw [rC_ne h, rN_ne h]; grind
theorem rep_rC {E : Env} {B C : IT2} {b c : Rat} (hB : RepQ E B b) (hC : RepQ E C c) : RepQ E (qop 5 B C) (rC b c) := rep_op (f := 5) (by omega) hB hC
theorem rep_rN {E : Env} {B C : IT2} {b c : Rat} (hB : RepQ E B b) (hC : RepQ E C c) : RepQ E (qop 6 B C) (rN b c) := rep_op (f := 6) (by omega) hB hC
theorem rep_sq2 {E : Env} {B C : IT2} {b c : Rat} (hB : RepQ E B b) (hC : RepQ E C c) : RepQ E (qop 7 B C) (sq2 b c) := rep_op (f := 7) (by omega) hB hC
theorem rep_cm {E : Env} {B C C' : IT2} {b c c' : Rat} (hB : RepQ E B b) (hC : RepQ E C c) (hC' : RepQ E C' c') : RepQ E (cmT B C C') (cm b c c') := rep_op (f := 0) (by omega) (rep_rC hB hC) (rep_rN hB hC')
theorem rep_add {E : Env} {p q : IT2} {a b : Rat} (hp : RepQ E p a) (hq : RepQ E q b) : RepQ E (qop 0 p q) (a + b) := rep_op (f := 0) (by omega) hp hq
def qng (p : IT2) : IT2 := (.a1 0 p.1, p.2)
theorem rep_ng {E : Env} {p : IT2} {a : Rat} (h : RepQ E p a) : RepQ E (qng p) (-a) := by
  constructor
  · show - p.1.den E = _
    rw [h.1, Rat.neg_num]
  · show p.2.den E = _
    rw [h.2, Rat.neg_den]
theorem rep_0 {E : Env} : RepQ E (.lit 0, .lit 1) (0 : Rat) := ⟨rfl, rfl⟩
theorem LimQ.zero {m : Nat} (h : 1 ≤ m) : LimQ m 0 := ⟨lim_zero, (lim1 (z := 1) (by decide)).mono h⟩
theorem LimQ.addQ {m : Nat} {a b : Rat} (h : LimQ m a) (k : LimQ m b) : LimQ (4 * m + 1) (a + b) := by
  obtain ⟨h1, h2⟩ := LimQ.add h.1 h.2 k.1 k.2
  exact ⟨h1.mono (by omega), h2.mono (by omega)⟩
theorem LimQ.negQ {m : Nat} {a : Rat} (h : LimQ m a) : LimQ m (-a) := by
  refine ⟨?_, ?_⟩
  · rw [Rat.neg_num]; exact h.1.natAbs_le (by omega)
  · rw [Rat.neg_den]; exact h.2
theorem LimQ.rC {m : Nat} {b c : Rat} (h : LimQ m c) (k : 1 ≤ m) : LimQ m (rC b c) := by
  unfold Proofs.YtllijnecmekfeaaGreatDoor.rC
  split
  · exact LimQ.zero k
  · exact h
theorem LimQ.cm {m : Nat} {b c c' : Rat} (h : LimQ m c) (h' : LimQ m c') : LimQ m (cm b c c') := by
  by_cases hb : b = 0
  · subst hb; rw [cm_zero]; exact h'
  · rw [cm_ne hb]; exact h
end Go.Proofs.YtllijnecmekfeaaGreatDoor
end

section
set_option maxRecDepth 100000
namespace Go.Proofs.YtllijnecmekfeaaGreatDoor
structure SimOK (ln ld hn hd : Int) (r : Int × Int) : Prop where
  p1 : 0 < r.1
  p2 : 0 < r.2
  lo : ln * r.2 < r.1 * ld
  hi : r.1 * hd < hn * r.2
  least : ∀ n d : Int, 0 < d → ln * d < n * ld → n * hd < hn * d → r.1 ≤ n ∧ r.2 ≤ d
end Go.Proofs.YtllijnecmekfeaaGreatDoor
end

section
set_option maxRecDepth 100000
namespace Go.Proofs.YtllijnecmekfeaaGreatDoor
open Go.RowKit
theorem rfloor_rat_calls (w : World) (v : Value) (a : Rat) (h : IsRat w v a) (l : LimQ 100000 a) : Calls Tryz.prog 73 #[v] w (Ret (fun v w' => IsInt w' v a.floor) w) := by
  refine (walkQ1 (T := .leaf [(true, [.int (.a2 4 (.var 0) (.var 1)) 100000])]) (tab := [(127, kDM)])
    (.cons (kDMg_ok (fun w v u a b h k l1 l2 => rdivMod_fn w v u a b h k l1 l2) ⟨_, Tryz.func127, by decide +kernel, by kernel_rfl⟩) .nil)
    Tryz.func73 (by kernel_rfl) (by decide +kernel) (by decide +kernel) h l).mono ?_
  rintro e w' ⟨β, u, rfl, hh, ex⟩
  refine ⟨u, rfl, ?_, ex⟩
  have k := (one_int.1 hh).1
  have e1 : (IT.a2 4 (.var 0) (.var 1)).den (qE [a]) = a.floor := by
    show dq a.num (a.den : Int) = _
    rw [dq_pos (by have := a.den_pos; omega), ← Rat.floor_def]
  rw [e1] at k
  exact k
theorem rover_calls (w : World) (v1 v2 : Value) (a b : Rat) (h1 : IsRat w v1 a) (h2 : IsRat w v2 b) (hb : b ≠ 0) (l1 : LimQ 100000 a) (l2 : LimQ 100000 b) :
    Calls Tryz.prog 64 #[v1, v2] w (Ret (fun v w' => IsRat w' v (a / b)) w) := by
  refine (walkQ2 (T := .leaf [(true, [.int (qop 4 (qv 0) (qv 1)).1 400001, .int (qop 4 (qv 0) (qv 1)).2 400001])])
    (tabQ_ok (qE_ok _)) Tryz.func64 (by kernel_rfl) (by decide +kernel) (by decide +kernel) h1 h2 l1 l2).mono ?_
  rintro e w' ⟨β, u, rfl, hh, ex⟩
  refine ⟨u, rfl, ?_, ex⟩
  have k := (one_pair.1 hh).1
  have ra : RepQ (qE [a, b]) (qv 0) a := rep_v (i := 0)
  have rb : RepQ (qE [a, b]) (qv 1) b := rep_v (i := 1)
  have rd := rep_div hb ra rb
  rw [rd.1, rd.2] at k
  exact k
end Go.Proofs.YtllijnecmekfeaaGreatDoor
end

section
set_option maxRecDepth 100000
namespace Go.Proofs.YtllijnecmekfeaaGreatDoor
open Go.RowKit
def kFlR : Con
  | [.val true [.int x l, .int y m]], _ => if canon x y && (ql l && ql m) then some (.val true [.int (.a2 4 x y) l]) else none
  | _, _ => none
theorem kFlR_ok {E : Env} (hE : QEnv E) : ConOK Tryz.prog E 73 kFlR := by
  refine ⟨?_, ?_, ⟨_, Tryz.func73, by decide +kernel, by kernel_rfl⟩⟩
  · intro args As r h hG β w vs hv hlen
    unfold kFlR at h
    split at h
    · split at h
      · rename_i hm
        simp only [ql, Bool.and_eq_true, decide_eq_true_iff] at hm
        obtain ⟨c1, b1, b2⟩ := hm
        injection h with h
        subst h
        obtain ⟨v, rfl, h1⟩ := args1 hv hlen
        obtain ⟨q, _, e1, e2, hq, m1, m2⟩ := one_ratQ hE c1 h1
        have hd : dq q.num (q.den : Int) = q.floor := by rw [dq_pos (by have := q.den_pos; omega), ← Rat.floor_def]
        refine (rfloor_rat_calls w v q hq ⟨m1.mono b1, m2.mono b2⟩).mono ?_
        rintro e w' ⟨u, rfl, hI, ex⟩
        refine ⟨_, rfl, one_int.2 ⟨?_, ?_⟩, ex⟩
        · show IsInt w' u (dq _ _)
          rw [e1, e2, hd]; exact hI
        · show Lim _ (dq _ _)
          rw [e1, e2]; exact m1.natAbs_le (dq_abs _ _)
      · cases h
    · cases h
  · intro args As r h x off
    unfold kFlR at h
    split at h
    · split at h
      · injection h with h; subst h; intro e; cases e
      · cases h
    · cases h
end Go.Proofs.YtllijnecmekfeaaGreatDoor
end

section
set_option maxRecDepth 100000
namespace Go.Proofs.YtllijnecmekfeaaGreatDoor
open Go.RowKit
noncomputable def tabB : List (Nat × Con) := (188, kSqI) :: (143, kSqRef) :: (73, kFlR) :: (66, kFlQ) :: (28, kIIb fun x y => .eq x y) :: (tabInt ++ (tabR2 ++ tabT))
theorem tabB_ok {E : Env} (hE : QEnv E) : TabOK Tryz.prog E tabB := by
  refine .cons kSqI_ok (.cons kSqRef_ok ?_)
  refine .cons (kFlR_ok hE) ?_ 
  exact .cons (kFlQ_ok hE) (.cons (kIIb_ok (fun x y => x == y) (fun _ _ => rfl) (fun w v1 v2 z1 z2 h1 h2 => (rsame_calls w v1 v2 z1 z2 h1 h2).mono (fun e w' h => ⟨by rw [h.1]; by_cases hz : z1 = z2 <;> simp [hz], h.2⟩)) ⟨_, Tryz.func28, by decide +kernel, by kernel_rfl⟩) (TabOK.app tabInt_ok (TabOK.app tabR2_ok (tabT_ok hE))))
noncomputable def pL1 : List (Nat × Func) := (187, Tryz.f187) :: (138, Tryz.f138) :: (136, Tryz.f136) :: (186, Tryz.f186) :: (139, Tryz.f139) :: (103, Tryz.f103) ::  (142, Tryz.f142) ::  []
noncomputable def pL2 : List (Nat × Func) := (137, Tryz.f137) :: (134, Tryz.f134) :: (140, Tryz.f140) :: (52, Tryz.f52) :: (147, Tryz.f147) :: []
noncomputable def pL3 : List (Nat × Func) := (135, Tryz.f135) :: (84, Tryz.f84) :: (102, Tryz.f102) :: []
theorem pL1_ok : InlOK Tryz.prog pL1 :=
  .cons Tryz.func187 (by decide +kernel) (by kernel_rfl) <|
  .cons Tryz.func138 (by decide +kernel) (by kernel_rfl) <|
  .cons Tryz.func136 (by decide +kernel) (by kernel_rfl) <|
  .cons Tryz.func186 (by decide +kernel) (by kernel_rfl) <|
  .cons Tryz.func139 (by decide +kernel) (by kernel_rfl) <|
  .cons Tryz.func103 (by decide +kernel) (by kernel_rfl) <|
  
  .cons Tryz.func142 (by decide +kernel) (by kernel_rfl) <|
   .nil
theorem pL2_ok : InlOK Tryz.prog pL2 :=
  .cons Tryz.func137 (by decide +kernel) (by kernel_rfl) <|
  .cons Tryz.func134 (by decide +kernel) (by kernel_rfl) <|
  .cons Tryz.func140 (by decide +kernel) (by kernel_rfl) <|
  .cons Tryz.func52 (by decide +kernel) (by kernel_rfl) <|
  .cons Tryz.func147 (by decide +kernel) (by kernel_rfl) <| .nil
theorem pL3_ok : InlOK Tryz.prog pL3 :=
  .cons Tryz.func135 (by decide +kernel) (by kernel_rfl) <|
  .cons Tryz.func84 (by decide +kernel) (by kernel_rfl) <|
  .cons Tryz.func102 (by decide +kernel) (by kernel_rfl) <| .nil
noncomputable def cR (tab : List (Nat × Con)) : Cfg := cfgT3 (tab ++ tabB) pL1 pL2 pL3
theorem cR_ok {E : Env} (hE : QEnv E) {tab : List (Nat × Con)} (h : TabOK Tryz.prog E tab) : CfgOK Tryz.prog E (cR tab) := cfgT3_ok mixed (TabOK.app h (tabB_ok hE)) pL1_ok pL2_ok pL3_ok
def aRl (i l : Nat) : AV := .val true (rt (qv i) (qv (i + 1)) (qv (i + 2)) l)
def aR (i : Nat) : AV := aRl i 3000
theorem aRl_holds {l : List Rat} {β : Nat → Nat} {w : World} {v : Value} {i m : Nat} (h : IsRoot w v (l.getD i 0) (l.getD (i + 1) 0) (l.getD (i + 2) 0)) (k : LimR m (l.getD i 0) (l.getD (i + 1) 0) (l.getD (i + 2) 0)) : (aRl i m).holds (qE l) β w v := (one_rt rep_v rep_v rep_v).2 ⟨h, k⟩
theorem aR_holds {l : List Rat} {β : Nat → Nat} {w : World} {v : Value} {i : Nat} (h : IsRoot w v (l.getD i 0) (l.getD (i + 1) 0) (l.getD (i + 2) 0)) (k : LimR 3000 (l.getD i 0) (l.getD (i + 1) 0) (l.getD (i + 2) 0)) : (aR i).holds (qE l) β w v := (one_rt rep_v rep_v rep_v).2 ⟨h, k⟩
theorem walk1 {f : Nat} {fn : Func} {tab : List (Nat × Con)} {T : Tree} {G : Asm} {x : AV} {l : List Rat} (hf : Tryz.prog.funcs[f]? = some fn) (h4 : fn.results.toList.length ≤ 4) (htab : TabOK Tryz.prog (qE l) tab) (hG : G.holds (qE l)) (hT : funE (cR tab) fn G [x] = some T) (hn : 1 ≤ fn.ntmps) (hnp : [x].all noPtr = true)
    (w : World) (v : Value) (hv : ∀ β, x.holds (qE l) β w v) : Calls Tryz.prog f #[v] w fun e w' => ∃ β y, e = .returned y ∧ (toAV (T.pick (qE l))).holds (qE l) β w' y ∧ Ext w w' := by
  refine fun_sound mixed (cR_ok (qE_ok _) htab) hG hf h4 hT hn hnp w [v] rfl ?_
  intro i y hy
  match i, hy with
  | 0, hy => injection hy with hy; subst hy; exact ⟨fun _ => 0, v, rfl, hv _⟩
theorem walk2 {f : Nat} {fn : Func} {tab : List (Nat × Con)} {T : Tree} {G : Asm} {x z : AV} {l : List Rat} (hf : Tryz.prog.funcs[f]? = some fn) (h4 : fn.results.toList.length ≤ 4) (htab : TabOK Tryz.prog (qE l) tab) (hG : G.holds (qE l)) (hT : funE (cR tab) fn G [x, z] = some T) (hn : 2 ≤ fn.ntmps) (hnp : [x, z].all noPtr = true)
    (w : World) (v u : Value) (hv : ∀ β, x.holds (qE l) β w v) (hu : ∀ β, z.holds (qE l) β w u) : Calls Tryz.prog f #[v, u] w fun e w' => ∃ β y, e = .returned y ∧ (toAV (T.pick (qE l))).holds (qE l) β w' y ∧ Ext w w' := by
  refine fun_sound mixed (cR_ok (qE_ok _) htab) hG hf h4 hT hn hnp w [v, u] rfl ?_
  intro i y hy
  match i, hy with
  | 0, hy => injection hy with hy; subst hy; exact ⟨fun _ => 0, v, rfl, hv _⟩
  | 1, hy => injection hy with hy; subst hy; exact ⟨fun _ => 0, u, rfl, hu _⟩
def q0 : IT2 := (.lit 0, .lit 1)
def zt (p : IT2) : BT := .eq (.a2 3 p.1 (.lit 0)) (.lit 0)
theorem zt_den {E : Env} {p : IT2} {q : Rat} (h : RepQ E p q) : (zt p).den E = decide (q = 0) := by
  show (cmpZ (p.1.den E) 0 == 0) = _
  rw [h.1, Bool.eq_iff_iff, beq_iff_eq, decide_eq_true_iff, ← Rat.num_eq_zero]
  rcases cmpZ_cases q.num 0 with ⟨h, e⟩ | ⟨h, e⟩ | ⟨h, e⟩ <;> rw [e] <;> omega
def rt6 (A B C : IT2) (l m k : Nat) : List Chunk := [.int A.1 l, .int A.2 l, .int B.1 m, .int B.2 m, .int C.1 k, .int C.2 k]
def lf (A B C : IT2) (l m k : Nat) : Tree := .leaf [(true, rt6 A B C l m k)]
def lf2 (A B C : IT2) (l m k : Nat) : Tree := .leaf [(true, rt6 A B C l m k), (false, [.n .i64 (.lit 0)])]
def bad6 (z : Int) : List (Bool × List Chunk) := [(true, [.int (.lit 0) 0, .int (.lit 0) 0, .int (.lit 0) 0, .int (.lit 0) 0, .int (.lit 0) 0, .int (.lit 0) 0]), (false, [.n .i64 (.lit z)])]
theorem lf_out {E : Env} {β : Nat → Nat} {w : World} {v : Value} {A B C : IT2} {a b c : Rat} {l m k : Nat} (hA : RepQ E A a) (hB : RepQ E B b) (hC : RepQ E C c) (h : (toAV ((lf A B C l m k).pick E)).holds E β w v) : IsRoot w v a b c := ((one_root hA hB hC).1 h).1
theorem lf2_out {E : Env} {β : Nat → Nat} {w : World} {v : Value} {A B C : IT2} {a b c : Rat} {l m k : Nat} (hA : RepQ E A a) (hB : RepQ E B b) (hC : RepQ E C c) (h : (toAV ((lf2 A B C l m k).pick E)).holds E β w v) : ∃ x, v = .tuple #[x, .int .i64 0] ∧ IsRoot w x a b c := by
  obtain ⟨vs, rfl, u1, r1, rfl, k1, u2, r2, rfl, k2, hn⟩ := h
  simp only [tupAll] at hn
  subst hn
  have k2' := one_num.1 k2
  subst k2'
  exact ⟨u1, rfl, ((one_root hA hB hC).1 k1).1⟩
def Zero6 (w : World) (v : Value) : Prop := ∀ E, one E w (true, [.int (.lit 0) 0, .int (.lit 0) 0, .int (.lit 0) 0, .int (.lit 0) 0, .int (.lit 0) 0, .int (.lit 0) 0]) v
theorem zero6_of {E : Env} {w : World} {v : Value} (h : one E w (true, [.int (.lit 0) 0, .int (.lit 0) 0, .int (.lit 0) 0, .int (.lit 0) 0, .int (.lit 0) 0, .int (.lit 0) 0]) v) : Zero6 w v := fun _ => h
theorem bad6_out {E : Env} {β : Nat → Nat} {w : World} {v : Value} {z : Int} (h : (toAV ((Tree.leaf (bad6 z)).pick E)).holds E β w v) : ∃ x, v = .tuple #[x, .int .i64 z] ∧ Zero6 w x := by
  obtain ⟨vs, rfl, u1, r1, rfl, k1, u2, r2, rfl, k2, hn⟩ := h
  simp only [tupAll] at hn
  subst hn
  have k2' := one_num.1 k2
  subst k2'
  exact ⟨u1, rfl, zero6_of k1⟩
section
variable {w : World} {v u : Value} {a b c a' b' c' k : Rat}
end
end Go.Proofs.YtllijnecmekfeaaGreatDoor
end

section
set_option maxRecDepth 100000
namespace Go.Proofs.YtllijnecmekfeaaGreatDoor
open Go.RowKit
def RetR (w : World) (ok : Prop) (err : Int) (p q r : Rat) (e : Ending) (w' : World) : Prop :=
  (ok → ∃ x, e = .returned (.tuple #[x, .int .i64 0]) ∧ IsRoot w' x p q r ∧ Ext w w') ∧ (¬ ok → ∃ x, e = .returned (.tuple #[x, .int .i64 err]) ∧ Zero6 w' x ∧ Ext w w')
theorem ite_pick {E : Env} {b : BT} {t e : Tree} {p : Bool} (h : b.den E = p) : (Tree.ite b t e).pick E = if p then t.pick E else e.pick E := by
  simp only [Tree.pick, h]
def endP (A B C : IT2) : Tree := .ite (zt B) (lf2 A q0 q0 12001 3 3) (lf2 A B C 12001 12001 3000)
theorem endP_out {E : Env} {β : Nat → Nat} {w : World} {v : Value} {A B C : IT2} {a b c : Rat} (hA : RepQ E A a) (hB : RepQ E B b) (hC : RepQ E C c) (h : (toAV ((endP A B C).pick E)).holds E β w v) : ∃ x, v = .tuple #[x, .int .i64 0] ∧ IsRoot w x a b (rC b c) := by
  unfold endP at h
  rw [ite_pick (zt_den hB)] at h
  by_cases hz : b = 0
  · rw [decide_eq_true hz, if_pos rfl] at h
    rw [hz, rC_zero]
    exact lf2_out hA rep_0 rep_0 h
  · rw [decide_eq_false hz, if_neg (by decide)] at h
    rw [rC_ne hz]
    exact lf2_out hA hB hC h
def eqPT : BT := .eq (.a2 3 (.var 4) (.var 10)) (.lit 0)
def eqPT2 : BT := .eq (.a2 3 (.var 5) (.var 11)) (.lit 0)
theorem cmp0 (x y : Int) : (cmpZ x y == 0) = decide (x = y) := by
  rw [Bool.eq_iff_iff, beq_iff_eq, decide_eq_true_iff]
  rcases cmpZ_cases x y with ⟨h, e⟩ | ⟨h, e⟩ | ⟨h, e⟩ <;> rw [e] <;> omega
theorem rat_eq_parts {c c' : Rat} : c = c' ↔ c.num = c'.num ∧ (c.den : Int) = (c'.den : Int) := ⟨fun h => by subst h; exact ⟨rfl, rfl⟩, fun h => Rat.ext h.1 (by have := h.2; omega)⟩
def comP (x y : Tree) : Tree := .ite (zt (qv 1)) y (.ite (zt (qv 4)) x (.ite eqPT (.ite eqPT2 x (.leaf (bad6 1))) (.leaf (bad6 1))))
section
variable {a b c a' b' c' : Rat} {x y : Tree} {E : Env} {β : Nat → Nat} {w w' : World} {v : Value}
theorem rep6 : RepQ (qE [a, b, c, a', b', c']) (qv 0) a ∧ RepQ (qE [a, b, c, a', b', c']) (qv 1) b ∧ RepQ (qE [a, b, c, a', b', c']) (qv 2) c ∧ RepQ (qE [a, b, c, a', b', c']) (qv 3) a' ∧ RepQ (qE [a, b, c, a', b', c']) (qv 4) b' ∧ RepQ (qE [a, b, c, a', b', c']) (qv 5) c' :=
  ⟨rep_v (i := 0), rep_v (i := 1), rep_v (i := 2), rep_v (i := 3), rep_v (i := 4), rep_v (i := 5)⟩
theorem comP_out (h : (toAV ((comP x y).pick (qE [a, b, c, a', b', c']))).holds (qE [a, b, c, a', b', c']) β w' v) :
    (Ok b c b' c' ∧ ((b = 0 ∧ (toAV (y.pick (qE [a, b, c, a', b', c']))).holds (qE [a, b, c, a', b', c']) β w' v) ∨ (b ≠ 0 ∧ (toAV (x.pick (qE [a, b, c, a', b', c']))).holds (qE [a, b, c, a', b', c']) β w' v))) ∨ (¬ Ok b c b' c' ∧ ∃ z, v = .tuple #[z, .int .i64 1] ∧ Zero6 w' z) := by
  obtain ⟨ra, rb, rc, ra', rb', rc'⟩ := rep6 (a := a) (b := b) (c := c) (a' := a') (b' := b') (c' := c')
  have e1 : eqPT.den (qE [a, b, c, a', b', c']) = decide (c.num = c'.num) := cmp0 _ _
  have e2 : eqPT2.den (qE [a, b, c, a', b', c']) = decide ((c.den : Int) = (c'.den : Int)) := cmp0 _ _
  unfold comP at h
  rw [ite_pick (zt_den rb), ite_pick (zt_den rb'), ite_pick e1, ite_pick e2] at h
  unfold Ok
  by_cases hb : b = 0
  · rw [decide_eq_true hb, if_pos rfl] at h
    exact .inl ⟨.inl hb, .inl ⟨hb, h⟩⟩
  · rw [decide_eq_false hb, if_neg (by decide)] at h
    by_cases hb' : b' = 0
    · rw [decide_eq_true hb', if_pos rfl] at h
      exact .inl ⟨.inr (.inl hb'), .inr ⟨hb, h⟩⟩
    · rw [decide_eq_false hb', if_neg (by decide)] at h
      by_cases h1 : c.num = c'.num
      · rw [decide_eq_true h1, if_pos rfl] at h
        by_cases h2 : (c.den : Int) = (c'.den : Int)
        · rw [decide_eq_true h2, if_pos rfl] at h
          exact .inl ⟨.inr (.inr (rat_eq_parts.2 ⟨h1, h2⟩)), .inr ⟨hb, h⟩⟩
        · rw [decide_eq_false h2, if_neg (by decide)] at h
          refine .inr ⟨?_, bad6_out h⟩
          rintro (k | k | k)
          · exact hb k
          · exact hb' k
          · exact h2 (rat_eq_parts.1 k).2
      · rw [decide_eq_false h1, if_neg (by decide)] at h
        refine .inr ⟨?_, bad6_out h⟩
        rintro (k | k | k)
        · exact hb k
        · exact hb' k
        · exact h1 (rat_eq_parts.1 k).1
end
theorem RetR.of {w : World} {ok : Prop} {err : Int} {p q r : Rat} {v : Value} {w' : World} (ex : Ext w w') (h : (ok ∧ ∃ x, v = .tuple #[x, .int .i64 0] ∧ IsRoot w' x p q r) ∨ (¬ ok ∧ ∃ z, v = .tuple #[z, .int .i64 err] ∧ Zero6 w' z)) : RetR w ok err p q r (.returned v) w' := by
  rcases h with ⟨h, x, rfl, hx⟩ | ⟨h, x, rfl, hx⟩
  · exact ⟨fun _ => ⟨x, rfl, hx, ex⟩, fun k => absurd h k⟩
  · exact ⟨fun k => absurd k h, fun _ => ⟨x, rfl, hx, ex⟩⟩
section
variable {w : World} {v u : Value} {a b c a' b' c' k : Rat}
theorem Rd.c0 (R : Rd b c) (h : b ≠ 0) : c ≠ 0 := by
  rcases R with ⟨rfl, _⟩ | ⟨_, h1, _⟩
  · exact absurd rfl h
  · grind
theorem p_add (h : IsRoot w v a b c) (hu : IsRoot w u a' b' c') (l : LimR 3000 a b c) (l' : LimR 3000 a' b' c') : Calls Tryz.prog 83 #[v, u] w (RetR w (Ok b c b' c') 1 (a + a') (b + b') (rC (b + b') (cm b c c'))) := by
  refine (walk2 (l := [a, b, c, a', b', c']) (tab := []) (x := aR 0) (z := aR 3) (T := comP (endP (qop 0 (qv 0) (qv 3)) (qop 0 (qv 1) (qv 4)) (qv 2)) (endP (qop 0 (qv 0) (qv 3)) (qop 0 (qv 1) (qv 4)) (qv 5)))
    Tryz.func83 (by decide +kernel) .nil no_asm (by kernel_rfl) (by decide +kernel) rfl w v u (fun _ => aR_holds h l) (fun _ => aR_holds hu l')).mono ?_
  rintro e w' ⟨β, y, rfl, hh, ex⟩
  obtain ⟨ra, rb, rc, ra', rb', rc'⟩ := rep6 (a := a) (b := b) (c := c) (a' := a') (b' := b') (c' := c')
  refine RetR.of ex ?_
  rcases comP_out hh with ⟨ho, ⟨hb, hh⟩ | ⟨hb, hh⟩⟩ | hno
  · refine .inl ⟨ho, ?_⟩
    rw [show cm b c c' = c' by rw [hb, cm_zero]]
    exact endP_out (rep_add ra ra') (rep_add rb rb') rc' hh
  · refine .inl ⟨ho, ?_⟩
    rw [cm_ne hb]
    exact endP_out (rep_add ra ra') (rep_add rb rb') rc hh
  · exact .inr hno
theorem p_neg (R : Rd b c) (h : IsRoot w v a b c) (l : LimR 3000 a b c) : Calls Tryz.prog 88 #[v] w (Ret (fun x w' => IsRoot w' x (-a) (-b) c) w) := by
  refine (walk1 (l := [a, b, c]) (tab := []) (x := aR 0) (T := .ite (zt (qng (qv 1))) (lf (qng (qv 0)) q0 q0 3000 3 3) (lf (qng (qv 0)) (qng (qv 1)) (qv 2) 3000 3000 3000))
    Tryz.func88 (by decide +kernel) .nil no_asm (by kernel_rfl) (by decide +kernel) rfl w v (fun _ => aR_holds h l)).mono ?_
  rintro e w' ⟨β, y, rfl, hh, ex⟩
  have ra : RepQ (qE [a, b, c]) (qv 0) a := rep_v (i := 0)
  have rb : RepQ (qE [a, b, c]) (qv 1) b := rep_v (i := 1)
  have rc : RepQ (qE [a, b, c]) (qv 2) c := rep_v (i := 2)
  refine ⟨y, rfl, ?_, ex⟩
  rw [ite_pick (zt_den (rep_ng rb))] at hh
  by_cases hz : -b = 0
  · rw [decide_eq_true hz, if_pos rfl] at hh
    have hb : b = 0 := by grind
    have hc : c = 0 := by
      rcases R with ⟨_, h⟩ | ⟨h, _⟩
      · exact h
      · exact absurd hb h
    rw [hz, hc]
    exact lf_out (rep_ng ra) rep_0 rep_0 hh
  · rw [decide_eq_false hz, if_neg (by decide)] at hh
    exact lf_out (rep_ng ra) (rep_ng rb) rc hh
def sgt (p : IT2) : IT := .a2 3 p.1 (.lit 0)
theorem sgt_den {E : Env} {p : IT2} {q : Rat} (h : RepQ E p q) : (sgt p).den E = sgQ q := by
  show cmpZ (p.1.den E) 0 = _
  rw [h.1]; rfl
end
end Go.Proofs.YtllijnecmekfeaaGreatDoor
end

section
set_option maxRecDepth 100000
namespace Go.Proofs.YtllijnecmekfeaaGreatDoor
open Go.RowKit
def rdA (rd : Bool) (G : Asm) (B C : IT2) : Bool := !rd || (rdT B C).ev G == some true
theorem rdA_spec {E : Env} {G : Asm} (hG : G.holds E) {B C : IT2} {b c : Rat} (hB : RepQ E B b) (hC : RepQ E C c) {rd : Bool} (h : rdA rd G B C = true) : rd = true → Rd b c := by
  intro hr
  subst hr
  exact rdT_spec hG hB hC (by simpa [rdA] using h)
def kRNg (rd : Bool) : Con
  | [x], G => match rtOf x with
    | some ((A, B, C), m) => if rdA rd G B C && decide (m ≤ 3000) then some (.val true (rt (qng A) (qng B) C m)) else none
    | _ => none
  | _, _ => none
theorem kRNg_ok {E : Env} (hE : QEnv E) {f : Nat} {rd : Bool} (hc : ∀ (w : World) (v : Value) (a b c : Rat), (rd = true → Rd b c) → IsRoot w v a b c → LimR 3000 a b c → Calls Tryz.prog f #[v] w (Ret (fun x w' => IsRoot w' x (-a) (-b) c) w))
    (hb : ∃ fn, Tryz.prog.funcs[f]? = some fn ∧ fn.name ≠ "runtime.NumGoroutine" ∧ fn.body.isNone = false) : ConOK Tryz.prog E f (kRNg rd) := by
  refine ⟨?_, ?_, hb⟩
  · intro args G r h hG β w vs hv hlen
    unfold kRNg at h
    split at h
    · split at h
      · rename_i x A B C m hx
        split at h
        · rename_i hcd
          simp only [Bool.and_eq_true, decide_eq_true_iff] at hcd
          injection h with h
          subst h
          obtain ⟨v, rfl, h1⟩ := args1 hv hlen
          obtain ⟨a, b, c, ra, rb, rc, ir, lr⟩ := rtOf_spec hE hx h1
          refine (hc w v a b c (rdA_spec hG rb rc hcd.1) ir (lr.mono hcd.2)).mono ?_
          rintro e w' ⟨x', rfl, hr, ex⟩
          exact ⟨x', rfl, (one_rt (rep_ng ra) (rep_ng rb) rc).2 ⟨hr, lr.1.negQ, lr.2.1.negQ, lr.2.2⟩, ex⟩
        · cases h
      · cases h
    · cases h
  · intro args G r h x off
    unfold kRNg at h
    split at h
    · split at h
      · split at h
        · injection h with h; subst h; intro e; cases e
        · cases h
      · cases h
    · cases h
def kRR (rd : Bool) (p q : IT2 × IT2 × IT2 → IT2 × IT2 × IT2 → IT2) (g : Nat → Nat) : Con
  | [x, y], G => match rtOf x, rtOf y with
    | some ((A, B, C), m), some ((A', B', C'), j) => if rdA rd G B C && (rdA rd G B' C' && (decide (m ≤ 3000) && decide (j ≤ 3000))) then
        match (nokT B C B' C').ev G with
        | some false => some (.tup [(true, rt (p (A, B, C) (A', B', C')) (q (A, B, C) (A', B', C')) (qop 5 (q (A, B, C) (A', B', C')) (cmT B C C')) (g (max m j))), (false, [.n .i64 (.lit 0)])])
        | some true => some (.tup (bad6 1))
        | none => none
      else none
    | _, _ => none
  | _, _ => none
theorem kRR_ok {E : Env} (hE : QEnv E) {f : Nat} {rd : Bool} {p q : IT2 × IT2 × IT2 → IT2 × IT2 × IT2 → IT2} {g : Nat → Nat} (P Q : Rat → Rat → Rat → Rat → Rat → Rat → Rat)
    (hp : ∀ A B C A' B' C' a b c a' b' c', RepQ E A a → RepQ E B b → RepQ E C c → RepQ E A' a' → RepQ E B' b' → RepQ E C' c' → RepQ E (p (A, B, C) (A', B', C')) (P a b c a' b' c') ∧ RepQ E (q (A, B, C) (A', B', C')) (Q a b c a' b' c'))
    (hg : ∀ m a b c a' b' c', LimR m a b c → LimR m a' b' c' → LimQ (g m) (P a b c a' b' c') ∧ LimQ (g m) (Q a b c a' b' c')) (hm : ∀ m, m ≤ g m ∧ 1 ≤ g m)
    (hc : ∀ (w : World) (v u : Value) (a b c a' b' c' : Rat), (rd = true → Rd b c) → (rd = true → Rd b' c') → IsRoot w v a b c → IsRoot w u a' b' c' → LimR 3000 a b c → LimR 3000 a' b' c' → Calls Tryz.prog f #[v, u] w (RetR w (Ok b c b' c') 1 (P a b c a' b' c') (Q a b c a' b' c') (rC (Q a b c a' b' c') (cm b c c'))))
    (hb : ∃ fn, Tryz.prog.funcs[f]? = some fn ∧ fn.name ≠ "runtime.NumGoroutine" ∧ fn.body.isNone = false) : ConOK Tryz.prog E f (kRR rd p q g) := by
  refine ⟨?_, ?_, hb⟩
  · intro args G r h hG β w vs hv hlen
    unfold kRR at h
    split at h
    · split at h
      · rename_i x y A B C m A' B' C' j hx hy
        split at h
        · rename_i hcd
          simp only [Bool.and_eq_true, decide_eq_true_iff] at hcd
          obtain ⟨v, u, rfl, h1, h2⟩ := args2 hv hlen
          obtain ⟨a, b, c, ra, rb, rc, ir, lr⟩ := rtOf_spec hE hx h1
          obtain ⟨a', b', c', ra', rb', rc', ir', lr'⟩ := rtOf_spec hE hy h2
          have key := hc w v u a b c a' b' c' (rdA_spec hG rb rc hcd.1) (rdA_spec hG rb' rc' hcd.2.1) ir ir' (lr.mono hcd.2.2.1) (lr'.mono hcd.2.2.2)
          split at h
          · rename_i ho
            have hok : Ok b c b' c' := (nokT_den rb rc rb' rc').1 (BT.ev_spec hG ho)
            injection h with h
            subst h
            refine key.mono ?_
            rintro e w' ⟨k1, _⟩
            obtain ⟨x', rfl, hr, ex⟩ := k1 hok
            have l1 := lr.mono (Nat.le_max_left m j)
            have l2 := lr'.mono (Nat.le_max_right m j)
            obtain ⟨r1, r2⟩ := hp A B C A' B' C' a b c a' b' c' ra rb rc ra' rb' rc'
            obtain ⟨g1, g2⟩ := hg _ a b c a' b' c' l1 l2
            have hmm := hm (max m j)
            exact ⟨_, rfl, ⟨[x', .int .i64 0], rfl, x', _, rfl, (one_rt r1 r2 (rep_rC r2 (rep_cm rb rc rc'))).2 ⟨hr, g1, g2, LimQ.rC ((LimQ.cm l1.2.2 l2.2.2).mono hmm.1) hmm.2⟩, _, _, rfl, one_num.2 rfl, rfl⟩, ex⟩
          · rename_i ho
            have hok : ¬ Ok b c b' c' := fun k => by
              have := BT.ev_spec hG ho
              rw [(nokT_den rb rc rb' rc').2 k] at this
              cases this
            injection h with h
            subst h
            refine key.mono ?_
            rintro e w' ⟨_, k1⟩
            obtain ⟨x', rfl, hr, ex⟩ := k1 hok
            exact ⟨_, rfl, ⟨[x', .int .i64 1], rfl, x', _, rfl, hr E, _, _, rfl, one_num.2 rfl, rfl⟩, ex⟩
          · cases h
        · cases h
      · cases h
    · cases h
  · intro args G r h x off
    unfold kRR at h
    split at h
    · split at h
      · split at h
        · split at h
          · injection h with h; subst h; intro e; cases e
          · injection h with h; subst h; intro e; cases e
          · cases h
        · cases h
      · cases h
    · cases h
def addA (r s : IT2 × IT2 × IT2) : IT2 := qop 0 r.1 s.1
def addB (r s : IT2 × IT2 × IT2) : IT2 := qop 0 r.2.1 s.2.1
def kRAd (rd : Bool) : Con := kRR rd addA addB (fun m => 4 * m + 1)
theorem kRAd_ok {E : Env} (hE : QEnv E) {f : Nat} {rd : Bool}
    (hc : ∀ (w : World) (v u : Value) (a b c a' b' c' : Rat), (rd = true → Rd b c) → (rd = true → Rd b' c') → IsRoot w v a b c → IsRoot w u a' b' c' → LimR 3000 a b c → LimR 3000 a' b' c' → Calls Tryz.prog f #[v, u] w (RetR w (Ok b c b' c') 1 (a + a') (b + b') (rC (b + b') (cm b c c'))))
    (hb : ∃ fn, Tryz.prog.funcs[f]? = some fn ∧ fn.name ≠ "runtime.NumGoroutine" ∧ fn.body.isNone = false) : ConOK Tryz.prog E f (kRAd rd) :=
  kRR_ok hE (fun a _ _ a' _ _ => a + a') (fun _ b _ _ b' _ => b + b') (fun _ _ _ _ _ _ _ _ _ _ _ _ ra rb _ ra' rb' _ => ⟨rep_add ra ra', rep_add rb rb'⟩) (fun _ _ _ _ _ _ _ l l' => ⟨l.1.addQ l'.1, l.2.1.addQ l'.2.1⟩) (fun m => ⟨by omega, by omega⟩) hc hb
end Go.Proofs.YtllijnecmekfeaaGreatDoor
end

section
set_option maxRecDepth 100000
namespace Go.Proofs.YtllijnecmekfeaaGreatDoor
open Go.RowKit
section
variable {a b c a' b' c' : Rat} {x x' y : Tree} {β : Nat → Nat} {w w' : World} {v u : Value}
end
end Go.Proofs.YtllijnecmekfeaaGreatDoor
end

section
set_option maxRecDepth 100000
namespace Go.Proofs.YtllijnecmekfeaaGreatDoor
open Go.RowKit
section
variable {w : World} {v u : Value} {a b c : Rat}
theorem rep3 : RepQ (qE [a, b, c]) (qv 0) a ∧ RepQ (qE [a, b, c]) (qv 1) b ∧ RepQ (qE [a, b, c]) (qv 2) c := ⟨rep_v (i := 0), rep_v (i := 1), rep_v (i := 2)⟩
def flN (a b c : Rat) : Int := flS a (sq2 b c)
theorem num_den (q : Rat) : q * ((q.den : Int) : Rat) = (q.num : Rat) := by
  have h := Rat.num_divInt_den q
  have hd : ((q.den : Int) : Rat) ≠ 0 := fun e => by
    have := Rat.intCast_eq_zero_iff.1 e
    have := q.den_pos
    omega
  have h2 : q = (q.num : Rat) / ((q.den : Int) : Rat) := by rw [← Rat.divInt_eq_div, h]
  have := Rat.div_mul_cancel (a := (q.num : Rat)) hd
  rw [← h2] at this
  exact this
theorem den_posI (q : Rat) : (0 : Int) < (q.den : Int) := by have := q.den_pos; omega
theorem flN_spec (R : Rd b c) : IsFl a b c (flN a b c) := by
  unfold flN flS
  rcases R with ⟨rfl, rfl⟩ | ⟨hb, hc, hs⟩
  · have e : sq2 0 0 = 0 := by unfold sq2; rw [if_neg (by decide)]; grind
    rw [e, if_pos (show (0 : Rat).num = 0 from rfl), dq_pos (den_posI a), ← Rat.floor_def]
    exact IsFl.zero
  · have hbc := Rat.mul_pos (sq_pos hb) hc
    have hnz : (sq2 b c).num ≠ 0 := by
      rw [ne_eq, Rat.num_eq_zero]
      unfold sq2
      split <;> grind
    rw [if_neg hnz]
    have hn := num_pos_iff b
    have hbn : (sq2 b c).num < 0 ↔ b < 0 := by
      have h1 := num_pos_iff (sq2 b c)
      have h2 := num_pos_iff (b * b * c)
      have hn2 : b.num = 0 ↔ b = 0 := Rat.num_eq_zero
      unfold sq2 at *
      by_cases h : b.num < 0
      · rw [if_pos h] at *
        rw [Rat.neg_num]
        have := h2.2 hbc
        constructor
        · intro _; grind
        · intro _; omega
      · rw [if_neg h] at *
        have := h2.2 hbc
        constructor
        · intro k; omega
        · intro k; grind
    have habs : ((sq2 b c).num.natAbs : Int) = (b * b * c).num ∧ ((sq2 b c).den : Int) = ((b * b * c).den : Int) := by
      have := (num_pos_iff (b * b * c)).2 hbc
      unfold sq2
      split
      · rw [Rat.neg_num, Rat.neg_den]; omega
      · exact ⟨by omega, rfl⟩
    rw [habs.1, habs.2]
    have e : (if (sq2 b c).num < 0 then -(isq ((b * b * c).num * ((b * b * c).den : Int) * ((a.den : Int) * (a.den : Int))) + 1) else isq ((b * b * c).num * ((b * b * c).den : Int) * ((a.den : Int) * (a.den : Int)))) = (if b < 0 then -(isq ((b * b * c).num * ((b * b * c).den : Int) * ((a.den : Int) * (a.den : Int))) + 1) else isq ((b * b * c).num * ((b * b * c).den : Int) * ((a.den : Int) * (a.den : Int)))) := by
      by_cases h : b < 0
      · rw [if_pos h, if_pos (hbn.2 h)]
      · rw [if_neg h, if_neg (fun k => h (hbn.1 k))]
    rw [e]
    have ea := num_den a
    have es := num_den (b * b * c)
    refine fl_spec hb hc hs (Int.mul_pos (den_posI a) (den_posI _)) ?_ ?_
    · simp only [castQ_mul]
      rw [← ea]; grind
    · simp only [castQ_mul]
      rw [← es]; grind
def flX : IT := .a2 2 (.var 0) (.a2 2 (.var 3) (.var 5))
def flD : IT := .a2 2 (.var 1) (.a2 2 (.var 3) (.var 5))
def flY : IT := .a2 2 (.a2 2 (.a2 2 (.var 2) (.var 1)) (.a2 2 (.var 2) (.var 1))) (.a2 2 (.var 4) (.var 5))
def lfI (t : IT) (l : Nat) : Tree := .leaf [(true, [.int t l])]
theorem lfI_out {E : Env} {β : Nat → Nat} {w : World} {v : Value} {t : IT} {l : Nat} (h : (toAV ((lfI t l).pick E)).holds E β w v) : IsInt w v (t.den E) ∧ Lim l (t.den E) := one_int.1 h
theorem ltz_den {E : Env} {p : IT2} {q : Rat} (h : RepQ E p q) : (BT.lt (sgt p) (.lit 0)).den E = decide (q < 0) := by
  show decide ((sgt p).den E < 0) = _
  rw [sgt_den h, Bool.eq_iff_iff, decide_eq_true_iff, decide_eq_true_iff]
  rcases sgQ_cases q with ⟨k, e⟩ | ⟨k, e⟩ | ⟨k, e⟩ <;> rw [e] <;> constructor <;> intro j <;> first | omega | grind
theorem fl0 (R : Rd b c) (hb : b = 0) : flN a b c = a.floor := by
  have hc : c = 0 := by
    rcases R with ⟨_, hc⟩ | ⟨hb', _⟩
    · exact hc
    · exact absurd hb hb'
  subst hb hc
  exact (flN_spec R).unique R IsFl.zero
theorem p_floor (R : Rd b c) (h : IsRoot w v a b c) (l : LimR 400 a b c) : Calls Tryz.prog 85 #[v] w (Ret (fun x w' => IsInt w' x (flN a b c) ∧ Lim 9000 (flN a b c)) w) := by
  obtain ⟨ra, rb, rc⟩ := rep3 (a := a) (b := b) (c := c)
  refine (walk1 (l := [a, b, c]) (tab := []) (x := aRl 0 400) (T := .ite (zt (qv 1)) (lfI (.a2 4 (.var 0) (.var 1)) 400) (.ite (.lt (sgt (qv 1)) (.lit 0)) (lfI (.a2 4 (.a2 0 flX (.a2 1 (.lit (-1)) (.a1 2 flY))) flD) 2402) (lfI (.a2 4 (.a2 0 flX (.a1 2 flY)) flD) 2401)))
    Tryz.func85 (by decide +kernel) .nil no_asm (by kernel_rfl) (by decide +kernel) rfl w v (fun _ => aRl_holds h l)).mono ?_
  rintro e w' ⟨β, y, rfl, hh, ex⟩
  refine ⟨y, rfl, ?_, ex⟩
  rw [ite_pick (zt_den rb), ite_pick (ltz_den rb)] at hh
  by_cases hb : b = 0
  · rw [decide_eq_true hb, if_pos rfl] at hh
    obtain ⟨k1, k2⟩ := lfI_out hh
    have e1 : (IT.a2 4 (.var 0) (.var 1)).den (qE [a, b, c]) = flN a b c := by
      rw [fl0 R hb]
      show dq a.num (a.den : Int) = _
      rw [dq_pos (den_posI a), ← Rat.floor_def]
    rw [e1] at k1 k2
    exact ⟨k1, k2.mono (by omega)⟩
  · rw [decide_eq_false hb, if_neg (by decide)] at hh
    obtain ⟨hc, hs⟩ : 0 < c ∧ ∀ q : Rat, q * q ≠ c := by
      rcases R with ⟨hb', _⟩ | ⟨_, h⟩
      · exact absurd hb' hb
      · exact h
    have ea := num_den a
    have eb := num_den b
    have ec := num_den c
    have key := fl_spec (a := a) (b := b) (c := c) (x := a.num * ((b.den : Int) * (c.den : Int))) (D := (a.den : Int) * ((b.den : Int) * (c.den : Int))) (Y := b.num * (a.den : Int) * (b.num * (a.den : Int)) * (c.num * (c.den : Int))) hb hc hs (Int.mul_pos (den_posI a) (Int.mul_pos (den_posI b) (den_posI c)))
      (by simp only [castQ_mul]; rw [← ea]; grind) (by simp only [castQ_mul]; rw [← eb, ← ec]; grind)
    have hu := key.unique R (flN_spec R)
    by_cases hn : b < 0
    · rw [decide_eq_true hn, if_pos rfl] at hh
      obtain ⟨k1, k2⟩ := lfI_out hh
      rw [if_pos hn] at hu
      have e1 : (IT.a2 4 (.a2 0 flX (.a2 1 (.lit (-1)) (.a1 2 flY))) flD).den (qE [a, b, c]) = flN a b c := by
        rw [← hu]
        show dq (a.num * ((b.den : Int) * (c.den : Int)) + (-1 - isq (b.num * (a.den : Int) * (b.num * (a.den : Int)) * (c.num * (c.den : Int))))) ((a.den : Int) * ((b.den : Int) * (c.den : Int))) = _
        congr 2
        omega
      rw [e1] at k1 k2
      exact ⟨k1, k2.mono (by omega)⟩
    · rw [decide_eq_false hn, if_neg (by decide)] at hh
      obtain ⟨k1, k2⟩ := lfI_out hh
      rw [if_neg hn] at hu
      have e1 : (IT.a2 4 (.a2 0 flX (.a1 2 flY)) flD).den (qE [a, b, c]) = flN a b c := hu
      rw [e1] at k1 k2
      exact ⟨k1, k2.mono (by omega)⟩
theorem p_floor4 (R : Rd b c) (h : IsRoot w v a b c) (l : LimR 4 a b c) : Calls Tryz.prog 85 #[v] w (Ret (fun x w' => IsInt w' x (flN a b c) ∧ Lim 100 (flN a b c)) w) := by
  obtain ⟨ra, rb, rc⟩ := rep3 (a := a) (b := b) (c := c)
  refine (walk1 (l := [a, b, c]) (tab := []) (x := aRl 0 4) (T := .ite (zt (qv 1)) (lfI (.a2 4 (.var 0) (.var 1)) 4) (.ite (.lt (sgt (qv 1)) (.lit 0)) (lfI (.a2 4 (.a2 0 flX (.a2 1 (.lit (-1)) (.a1 2 flY))) flD) 26) (lfI (.a2 4 (.a2 0 flX (.a1 2 flY)) flD) 25)))
    Tryz.func85 (by decide +kernel) .nil no_asm (by kernel_rfl) (by decide +kernel) rfl w v (fun _ => aRl_holds h l)).mono ?_
  rintro e w' ⟨β, y, rfl, hh, ex⟩
  refine ⟨y, rfl, ?_, ex⟩
  rw [ite_pick (zt_den rb), ite_pick (ltz_den rb)] at hh
  by_cases hb : b = 0
  · rw [decide_eq_true hb, if_pos rfl] at hh
    obtain ⟨k1, k2⟩ := lfI_out hh
    have e1 : (IT.a2 4 (.var 0) (.var 1)).den (qE [a, b, c]) = flN a b c := by
      rw [fl0 R hb]
      show dq a.num (a.den : Int) = _
      rw [dq_pos (den_posI a), ← Rat.floor_def]
    rw [e1] at k1 k2
    exact ⟨k1, k2.mono (by omega)⟩
  · rw [decide_eq_false hb, if_neg (by decide)] at hh
    obtain ⟨hc, hs⟩ : 0 < c ∧ ∀ q : Rat, q * q ≠ c := by
      rcases R with ⟨hb', _⟩ | ⟨_, h⟩
      · exact absurd hb' hb
      · exact h
    have ea := num_den a
    have eb := num_den b
    have ec := num_den c
    have key := fl_spec (a := a) (b := b) (c := c) (x := a.num * ((b.den : Int) * (c.den : Int))) (D := (a.den : Int) * ((b.den : Int) * (c.den : Int))) (Y := b.num * (a.den : Int) * (b.num * (a.den : Int)) * (c.num * (c.den : Int))) hb hc hs (Int.mul_pos (den_posI a) (Int.mul_pos (den_posI b) (den_posI c)))
      (by simp only [castQ_mul]; rw [← ea]; grind) (by simp only [castQ_mul]; rw [← eb, ← ec]; grind)
    have hu := key.unique R (flN_spec R)
    by_cases hn : b < 0
    · rw [decide_eq_true hn, if_pos rfl] at hh
      obtain ⟨k1, k2⟩ := lfI_out hh
      rw [if_pos hn] at hu
      have e1 : (IT.a2 4 (.a2 0 flX (.a2 1 (.lit (-1)) (.a1 2 flY))) flD).den (qE [a, b, c]) = flN a b c := by
        rw [← hu]
        show dq (a.num * ((b.den : Int) * (c.den : Int)) + (-1 - isq (b.num * (a.den : Int) * (b.num * (a.den : Int)) * (c.num * (c.den : Int))))) ((a.den : Int) * ((b.den : Int) * (c.den : Int))) = _
        congr 2
        omega
      rw [e1] at k1 k2
      exact ⟨k1, k2.mono (by omega)⟩
    · rw [decide_eq_false hn, if_neg (by decide)] at hh
      obtain ⟨k1, k2⟩ := lfI_out hh
      rw [if_neg hn] at hu
      have e1 : (IT.a2 4 (.a2 0 flX (.a1 2 flY)) flD).den (qE [a, b, c]) = flN a b c := hu
      rw [e1] at k1 k2
      exact ⟨k1, k2.mono (by omega)⟩
theorem p_floor50 (R : Rd b c) (h : IsRoot w v a b c) (l : LimR 50 a b c) : Calls Tryz.prog 85 #[v] w (Ret (fun x w' => IsInt w' x (flN a b c) ∧ Lim 1200 (flN a b c)) w) := by
  obtain ⟨ra, rb, rc⟩ := rep3 (a := a) (b := b) (c := c)
  refine (walk1 (l := [a, b, c]) (tab := []) (x := aRl 0 50) (T := .ite (zt (qv 1)) (lfI (.a2 4 (.var 0) (.var 1)) 50) (.ite (.lt (sgt (qv 1)) (.lit 0)) (lfI (.a2 4 (.a2 0 flX (.a2 1 (.lit (-1)) (.a1 2 flY))) flD) 302) (lfI (.a2 4 (.a2 0 flX (.a1 2 flY)) flD) 301)))
    Tryz.func85 (by decide +kernel) .nil no_asm (by kernel_rfl) (by decide +kernel) rfl w v (fun _ => aRl_holds h l)).mono ?_
  rintro e w' ⟨β, y, rfl, hh, ex⟩
  refine ⟨y, rfl, ?_, ex⟩
  rw [ite_pick (zt_den rb), ite_pick (ltz_den rb)] at hh
  by_cases hb : b = 0
  · rw [decide_eq_true hb, if_pos rfl] at hh
    obtain ⟨k1, k2⟩ := lfI_out hh
    have e1 : (IT.a2 4 (.var 0) (.var 1)).den (qE [a, b, c]) = flN a b c := by
      rw [fl0 R hb]
      show dq a.num (a.den : Int) = _
      rw [dq_pos (den_posI a), ← Rat.floor_def]
    rw [e1] at k1 k2
    exact ⟨k1, k2.mono (by omega)⟩
  · rw [decide_eq_false hb, if_neg (by decide)] at hh
    obtain ⟨hc, hs⟩ : 0 < c ∧ ∀ q : Rat, q * q ≠ c := by
      rcases R with ⟨hb', _⟩ | ⟨_, h⟩
      · exact absurd hb' hb
      · exact h
    have ea := num_den a
    have eb := num_den b
    have ec := num_den c
    have key := fl_spec (a := a) (b := b) (c := c) (x := a.num * ((b.den : Int) * (c.den : Int))) (D := (a.den : Int) * ((b.den : Int) * (c.den : Int))) (Y := b.num * (a.den : Int) * (b.num * (a.den : Int)) * (c.num * (c.den : Int))) hb hc hs (Int.mul_pos (den_posI a) (Int.mul_pos (den_posI b) (den_posI c)))
      (by simp only [castQ_mul]; rw [← ea]; grind) (by simp only [castQ_mul]; rw [← eb, ← ec]; grind)
    have hu := key.unique R (flN_spec R)
    by_cases hn : b < 0
    · rw [decide_eq_true hn, if_pos rfl] at hh
      obtain ⟨k1, k2⟩ := lfI_out hh
      rw [if_pos hn] at hu
      have e1 : (IT.a2 4 (.a2 0 flX (.a2 1 (.lit (-1)) (.a1 2 flY))) flD).den (qE [a, b, c]) = flN a b c := by
        rw [← hu]
        show dq (a.num * ((b.den : Int) * (c.den : Int)) + (-1 - isq (b.num * (a.den : Int) * (b.num * (a.den : Int)) * (c.num * (c.den : Int))))) ((a.den : Int) * ((b.den : Int) * (c.den : Int))) = _
        congr 2
        omega
      rw [e1] at k1 k2
      exact ⟨k1, k2.mono (by omega)⟩
    · rw [decide_eq_false hn, if_neg (by decide)] at hh
      obtain ⟨k1, k2⟩ := lfI_out hh
      rw [if_neg hn] at hu
      have e1 : (IT.a2 4 (.a2 0 flX (.a1 2 flY)) flD).den (qE [a, b, c]) = flN a b c := hu
      rw [e1] at k1 k2
      exact ⟨k1, k2.mono (by omega)⟩
end
end Go.Proofs.YtllijnecmekfeaaGreatDoor
end

section
set_option maxRecDepth 100000
namespace Go.Proofs.YtllijnecmekfeaaGreatDoor
open Go.RowKit
def floT (A B C : IT2) : IT := (qop 9 A (qop 7 B C)).1
theorem floT_den {E : Env} {A B C : IT2} {a b c : Rat} (hA : RepQ E A a) (hB : RepQ E B b) (hC : RepQ E C c) : (floT A B C).den E = flN a b c := by
  have r : RepQ E (qop 9 A (qop 7 B C)) (ratF 9 a (sq2 b c)) := rep_op (f := 9) (by omega) hA (rep_sq2 hB hC)
  show (qop 9 A (qop 7 B C)).1.den E = _
  rw [r.1]
  show ((flS a (sq2 b c) : Int) : Rat).num = _
  rw [Rat.num_intCast]; rfl
def kRFl : Con
  | [x], G => match rtOf x with
    | some ((A, B, C), m) => if rdA true G B C && decide (m ≤ 400) then some (.val true [.int (floT A B C) (if m ≤ 4 then 100 else if m ≤ 50 then 1200 else 9000)]) else none
    | _ => none
  | _, _ => none
theorem kRFl_ok {E : Env} (hE : QEnv E) {f : Nat} (hc4 : ∀ (w : World) (v : Value) (a b c : Rat), Rd b c → IsRoot w v a b c → LimR 4 a b c → Calls Tryz.prog f #[v] w (Ret (fun x w' => IsInt w' x (flN a b c) ∧ Lim 100 (flN a b c)) w)) (hc50 : ∀ (w : World) (v : Value) (a b c : Rat), Rd b c → IsRoot w v a b c → LimR 50 a b c → Calls Tryz.prog f #[v] w (Ret (fun x w' => IsInt w' x (flN a b c) ∧ Lim 1200 (flN a b c)) w)) (hc : ∀ (w : World) (v : Value) (a b c : Rat), Rd b c → IsRoot w v a b c → LimR 400 a b c → Calls Tryz.prog f #[v] w (Ret (fun x w' => IsInt w' x (flN a b c) ∧ Lim 9000 (flN a b c)) w))
    (hb : ∃ fn, Tryz.prog.funcs[f]? = some fn ∧ fn.name ≠ "runtime.NumGoroutine" ∧ fn.body.isNone = false) : ConOK Tryz.prog E f kRFl := by
  refine ⟨?_, ?_, hb⟩
  · intro args G r h hG β w vs hv hlen
    unfold kRFl at h
    split at h
    · split at h
      · rename_i x A B C m hx
        split at h
        · rename_i hcd
          simp only [Bool.and_eq_true, decide_eq_true_iff] at hcd
          injection h with h
          subst h
          obtain ⟨v, rfl, h1⟩ := args1 hv hlen
          obtain ⟨a, b, c, ra, rb, rc, ir, lr⟩ := rtOf_spec hE hx h1
          have R := rdA_spec hG rb rc hcd.1 rfl
          by_cases hm : m ≤ 4
          · refine (hc4 w v a b c R ir (lr.mono hm)).mono ?_
            rintro e w' ⟨x', rfl, hr, ex⟩
            refine ⟨_, rfl, one_int.2 ?_, ex⟩
            rw [floT_den ra rb rc, if_pos hm]
            exact hr
          · by_cases hm2 : m ≤ 50
            · refine (hc50 w v a b c R ir (lr.mono hm2)).mono ?_
              rintro e w' ⟨x', rfl, hr, ex⟩
              refine ⟨_, rfl, one_int.2 ?_, ex⟩
              rw [floT_den ra rb rc, if_neg hm, if_pos hm2]
              exact hr
            · refine (hc w v a b c R ir (lr.mono hcd.2)).mono ?_
              rintro e w' ⟨x', rfl, hr, ex⟩
              refine ⟨_, rfl, one_int.2 ?_, ex⟩
              rw [floT_den ra rb rc, if_neg hm, if_neg hm2]
              exact hr
        · cases h
      · cases h
    · cases h
  · intro args G r h x off
    unfold kRFl at h
    split at h
    · split at h
      · split at h
        · injection h with h; subst h; intro e; cases e
        · cases h
      · cases h
    · cases h
def sqT (x : IT) : BT := .and (.eq (.a1 3 x) (.lit 0)) (.eq (.a2 2 (.a1 2 x) (.a1 2 x)) x)
theorem sqT_den {E : Env} {x : IT} : (sqT x).den E = sqB (x.den E) := by
  show (isqE (x.den E) == 0 && (isq (x.den E) * isq (x.den E) == x.den E)) = _
  unfold sqB
  congr 1
  rw [Bool.eq_iff_iff, beq_iff_eq, beq_iff_eq]
  rcases cmpZ_cases (isq (x.den E) * isq (x.den E)) (x.den E) with ⟨h, e⟩ | ⟨h, e⟩ | ⟨h, e⟩ <;> rw [e] <;> omega
def kSqQ : Con
  | [.val true [.int x l, .int y m]], G => if decide (l ≤ 100000) && decide (m ≤ 100000) then
      match (BT.and (sqT x) (sqT y)).ev G with
      | some true => some (.tup [(true, [.int (IT.a1 2 x).fold l, .int (IT.a1 2 y).fold m]), (false, [.b (.lit true)])])
      | some false => some (.tup [(true, [.int (.lit 0) 0, .int (.lit 0) 0]), (false, [.b (.lit false)])])
      | none => none
    else none
  | _, _ => none
theorem kSqQ_ok {E : Env} {f : Nat} (hc : ∀ (w : World) (v : Value) (n d : Int), IsPair w v n d → Lim 100000 n → Lim 100000 d → Calls Tryz.prog f #[v] w (RetSqQ n d w))
    (hb : ∃ fn, Tryz.prog.funcs[f]? = some fn ∧ fn.name ≠ "runtime.NumGoroutine" ∧ fn.body.isNone = false) : ConOK Tryz.prog E f kSqQ := by
  refine ⟨?_, ?_, hb⟩
  · intro args G r h hG β w vs hv hlen
    unfold kSqQ at h
    split at h
    · rename_i x l y m
      split at h
      · rename_i hcd
        simp only [Bool.and_eq_true, decide_eq_true_iff] at hcd
        obtain ⟨v, rfl, h1⟩ := args1 hv hlen
        obtain ⟨p1, a1, a2⟩ := one_pair.1 h1
        have key := hc w v _ _ p1 (a1.mono hcd.1) (a2.mono hcd.2)
        have ed : (BT.and (sqT x) (sqT y)).den E = (sqB (x.den E) && sqB (y.den E)) := by
          show ((sqT x).den E && (sqT y).den E) = _
          rw [sqT_den, sqT_den]
        split at h
        · rename_i ho
          have hs := BT.ev_spec hG ho
          rw [ed] at hs
          injection h with h
          subst h
          refine key.mono ?_
          rintro e w' ⟨u, rfl, hp, ex⟩
          unfold sqN at hp
          rw [hs] at hp ⊢
          rw [if_pos rfl, if_pos rfl] at hp
          refine ⟨_, rfl, ⟨[u, .bool true], rfl, u, _, rfl, one_pair.2 ?_, _, _, rfl, one_bool.2 rfl, rfl⟩, ex⟩
          rw [IT.fold_den, IT.fold_den]
          exact ⟨hp, isq_lim a1, isq_lim a2⟩
        · rename_i ho
          have hs := BT.ev_spec hG ho
          rw [ed] at hs
          injection h with h
          subst h
          refine key.mono ?_
          rintro e w' ⟨u, rfl, hp, ex⟩
          unfold sqN at hp
          rw [hs] at hp ⊢
          rw [if_neg (by decide), if_neg (by decide)] at hp
          exact ⟨_, rfl, ⟨[u, .bool false], rfl, u, _, rfl, one_pair.2 ⟨hp, lim_zero, lim_zero⟩, _, _, rfl, one_bool.2 rfl, rfl⟩, ex⟩
        · cases h
      · cases h
    · cases h
  · intro args G r h x off
    unfold kSqQ at h
    split at h
    · split at h
      · split at h
        · injection h with h; subst h; intro e; cases e
        · injection h with h; subst h; intro e; cases e
        · cases h
      · cases h
    · cases h
end Go.Proofs.YtllijnecmekfeaaGreatDoor
end

section
set_option maxRecDepth 100000
namespace Go.Proofs.YtllijnecmekfeaaGreatDoor
open Go.RowKit
abbrev RI := Bool × List Nat
def smN (n : Nat) (p q : RI) : Bool := decide (p.2.length ≤ n) && decide (q.2.length ≤ n) && okQ p.1 p.2 q.1 q.2
def rq (p q : RI) : Rat := Rat.divInt (sgn p.1 (val p.2)) (sgn q.1 (val q.2))
def smR (p1 p2 p3 p4 p5 p6 : RI) : Bool := smN 4 p1 p2 && (smN 4 p3 p4 && (smN 4 p5 p6 && Rdb (rq p3 p4) (rq p5 p6)))
theorem rat_raw {w : World} {v : Value} {q : Rat} (h : IsRat w v q) : RawQ w v (decide (q.num < 0)) (limbs q.num.natAbs) (decide ((q.den : Int) < 0)) (limbs (q.den : Int).natAbs) ∧ okQ (decide (q.num < 0)) (limbs q.num.natAbs) (decide ((q.den : Int) < 0)) (limbs (q.den : Int).natAbs) = true := by
  obtain ⟨x0, x1, x2, x3, rfl, i1, i2⟩ := h
  obtain ⟨k1, k2⟩ := int_raw i1
  obtain ⟨k3, k4⟩ := int_raw i2
  refine ⟨⟨_, _, _, _, rfl, k1, k3⟩, ?_⟩
  have e3 : sgn (decide (q.num < 0)) (val (limbs q.num.natAbs)) = q.num := by rw [val_limbs]; exact sgn_self q.num
  have e4 : sgn (decide ((q.den : Int) < 0)) (val (limbs (q.den : Int).natAbs)) = (q.den : Int) := by rw [val_limbs]; exact sgn_self (q.den : Int)
  unfold okQ
  rw [k2, k4, e3, e4, decide_eq_true (show 0 < (q.den : Int) by have := q.den_pos; omega)]
  rw [decide_eq_true (show Nat.gcd q.num.natAbs (q.den : Int).natAbs = 1 from q.reduced)]
  rfl
end Go.Proofs.YtllijnecmekfeaaGreatDoor
end

section
set_option maxRecDepth 100000
namespace Go.Proofs.YtllijnecmekfeaaGreatDoor
open Go.RowKit
section
variable {w : World} {v : Value} {a b c : Rat}
end
section
variable {w : World} {v : Value} {p1 p2 p3 p4 p5 p6 : RI}
end
end Go.Proofs.YtllijnecmekfeaaGreatDoor
end

section
set_option maxRecDepth 100000
namespace Go.Proofs.YtllijnecmekfeaaGreatDoor
open Go.RowKit
def roE (l : List RI) : Env := ⟨fun _ => 0, fun q => smR (l.getD (6 * q) (false, [])) (l.getD (6 * q + 1) (false, [])) (l.getD (6 * q + 2) (false, [])) (l.getD (6 * q + 3) (false, [])) (l.getD (6 * q + 4) (false, [])) (l.getD (6 * q + 5) (false, [])), fun i => l.getD i (false, []), fun _ => []⟩
end Go.Proofs.YtllijnecmekfeaaGreatDoor
end

section
set_option maxRecDepth 100000
namespace Go.Proofs.YtllijnecmekfeaaGreatDoor
open Go.RowKit
def rawsOf (a b c : Rat) : List RI := rawOf a ++ (rawOf b ++ rawOf c)
theorem smN_rawOf {w : World} {v : Value} {q : Rat} (h : IsRat w v q) (l : LimQ 4 q) : smN 4 (decide (q.num < 0), limbs q.num.natAbs) (decide ((q.den : Int) < 0), limbs (q.den : Int).natAbs) = true := by
  unfold smN
  have l1 : (limbs q.num.natAbs).length ≤ 4 := l.1
  have l2 : (limbs (q.den : Int).natAbs).length ≤ 4 := l.2
  rw [(rat_raw h).2, decide_eq_true l1, decide_eq_true l2]
  rfl
theorem rq_rawOf (q : Rat) : rq (decide (q.num < 0), limbs q.num.natAbs) (decide ((q.den : Int) < 0), limbs (q.den : Int).natAbs) = q := by
  have e3 : sgn (decide (q.num < 0)) (val (limbs q.num.natAbs)) = q.num := by rw [val_limbs]; exact sgn_self q.num
  have e4 : sgn (decide ((q.den : Int) < 0)) (val (limbs (q.den : Int).natAbs)) = (q.den : Int) := by rw [val_limbs]; exact sgn_self (q.den : Int)
  show Rat.divInt _ _ = _
  rw [e3, e4]
  exact Rat.num_divInt_den q
structure SmRt (w : World) (v : Value) (a b c : Rat) : Prop where
  is : IsRoot w v a b c
  lim : LimR 4 a b c
  rd : Rd b c
theorem SmRt.sm {w : World} {v : Value} {a b c : Rat} (h : SmRt w v a b c) {l : List RI} {k : Nat} (e : ∀ i, i < 6 → l.getD (6 * k + i) (false, []) = (rawsOf a b c).getD i (false, [])) : (roE l).b k = true := by
  obtain ⟨⟨x, y, z, rfl, h1, h2, h3⟩, ⟨l1, l2, l3⟩, R⟩ := h
  show smR _ _ _ _ _ _ = true
  have e0 := e 0 (by omega)
  have e1 := e 1 (by omega)
  have e2 := e 2 (by omega)
  have e3 := e 3 (by omega)
  have e4 := e 4 (by omega)
  have e5 := e 5 (by omega)
  rw [Nat.add_zero] at e0
  rw [e0, e1, e2, e3, e4, e5]
  unfold smR
  have k1 := smN_rawOf h1 l1
  have k2 := smN_rawOf h2 l2
  have k3 := smN_rawOf h3 l3
  have k4 := rq_rawOf b
  have k5 := rq_rawOf c
  show (smN 4 (decide (a.num < 0), limbs a.num.natAbs) (decide ((a.den : Int) < 0), limbs (a.den : Int).natAbs) && (smN 4 (decide (b.num < 0), limbs b.num.natAbs) (decide ((b.den : Int) < 0), limbs (b.den : Int).natAbs) && (smN 4 (decide (c.num < 0), limbs c.num.natAbs) (decide ((c.den : Int) < 0), limbs (c.den : Int).natAbs) && Rdb (rq (decide (b.num < 0), limbs b.num.natAbs) (decide ((b.den : Int) < 0), limbs (b.den : Int).natAbs)) (rq (decide (c.num < 0), limbs c.num.natAbs) (decide ((c.den : Int) < 0), limbs (c.den : Int).natAbs))))) = true
  rw [k1, k2, k3, k4, k5, Rdb_iff.2 R]
  rfl
end Go.Proofs.YtllijnecmekfeaaGreatDoor
end

section
set_option maxRecDepth 100000
namespace Go.Proofs.YtllijnecmekfeaaGreatDoor
open Go.RowKit
theorem Ok.symm {b c b' c' : Rat} (h : Ok b c b' c') : Ok b' c' b c := by
  rcases h with h | h | h
  · exact .inr (.inl h)
  · exact .inl h
  · exact .inr (.inr h.symm)
theorem asm_nil {E : Env} : Asm.holds E [] := no_asm
theorem asm_and {E : Env} {t : BT} {b : Bool} {G : Asm} (h : t.den E = b) (k : G.holds E) : Asm.holds E ((t, b) :: G) := fun p hp => by
  rcases List.mem_cons.1 hp with rfl | hp
  · exact h
  · exact k p hp
def g2 (n m : Bool) : Asm := [(rdT (qv 1) (qv 2), true), (rdT (qv 4) (qv 5), true), (nokT (qv 1) (qv 2) (qv 4) (qv 5), n), (nokT (qv 4) (qv 5) (qv 1) (qv 2), m)]
section
variable {w : World} {v u : Value} {a b c a' b' c' : Rat}
end
end Go.Proofs.YtllijnecmekfeaaGreatDoor
end

section
set_option maxRecDepth 100000
namespace Go.Proofs.YtllijnecmekfeaaGreatDoor
open Go.RowKit Go.Shelf
theorem kInlW_ok {P : Program} (hm : P.follows .mixedOrders = true) {E : Env} {W : World → Prop} (hW : ∀ w w', W w → Ext w w' → W w') {C : Cfg} (hC : CfgOK P E C) (hw : ∀ w, W w → C.wok w) {f : Nat} {fn : Func} (hf : P.funcs[f]? = some fn) (h1 : fn.name ≠ "runtime.NumGoroutine") (h2 : fn.body.isNone = false) : ConW P W E f (kInl C fn) := by
  refine ⟨?_, ?_, fn, hf, h1, h2⟩
  · intro args G r h hG β w vs hWw hv hlen
    unfold kInl at h
    split at h
    · rename_i hc
      simp only [Bool.and_eq_true, decide_eq_true_iff] at hc
      split at h
      · rename_i l hl
        injection h with h
        subst h
        refine (fun_sound hm hC hG hf hc.2.2 hl hc.2.1 hc.1 w vs hlen (fun i x hx => ⟨β, hv i x hx⟩) (fun w' e => hw w' (hW w w' hWw e))).mono ?_
        rintro e w' ⟨β', v, rfl, hh, ex⟩
        exact ⟨v, rfl, toAV_beta hh, ex⟩
      · cases h
    · cases h
  · intro args G r h x off
    unfold kInl at h
    split at h
    · split at h
      · injection h with h; subst h; exact toAV_nptr
      · cases h
    · cases h
def kWpL : Con
  | [.val false [.str t _], .val false [.n .i64 d]], _ => match t.cl, d.cl with
    | some s, some z => if decide (s.length ≤ 100000) && (decide (0 ≤ z) && decide (z ≤ 1000)) then some (.val false [.str (.lit (wpL s z.toNat)) (wpL s z.toNat).length]) else none
    | _, _ => none
  | _, _ => none
theorem kWpL_ok {E : Env} : ConOK Tryz.prog E 70 kWpL := by
  refine ⟨?_, ?_, ⟨_, Tryz.func70, by decide +kernel, by kernel_rfl⟩⟩
  · intro args G r h hG β w vs hv hlen
    unfold kWpL at h
    split at h
    · rename_i t l d
      split at h
      · rename_i s z hs hz
        split at h
        · rename_i hcd
          simp only [Bool.and_eq_true, decide_eq_true_iff] at hcd
          injection h with h
          subst h
          obtain ⟨v, u, rfl, h1, h2⟩ := args2 hv hlen
          obtain ⟨rfl, _⟩ := one_str.1 h1
          have h2' := one_num.1 h2
          subst h2'
          rw [ST.cl_spec hs, IT.cl_spec hz]
          obtain ⟨n, rfl⟩ : ∃ n : Nat, z = (n : Int) := ⟨z.toNat, by omega⟩
          refine (withPoint_calls w ⟨s.toArray⟩ n (by omega) (by show s.toArray.size ≤ _; rw [List.size_toArray]; exact hcd.1)).mono ?_
          rintro e w' ⟨rfl, ex⟩
          exact ⟨_, rfl, one_str.2 ⟨rfl, Nat.le_refl _⟩, ex⟩
        · cases h
      · cases h
    · cases h
  · intro args G r h x off
    unfold kWpL at h
    split at h
    · split at h
      · split at h
        · injection h with h; subst h; intro e; cases e
        · cases h
      · cases h
    · cases h
def kShL : Con
  | [.val false [.str t _]], _ => match t.cl with
    | some s => if decide (s.length ≤ 1000000) then some (.val false [.str (.lit (shL s)) (shL s).length]) else none
    | none => none
  | _, _ => none
theorem kShL_ok {E : Env} : ConOK Tryz.prog E 81 kShL := by
  refine ⟨?_, ?_, ⟨_, Tryz.func81, by decide +kernel, by kernel_rfl⟩⟩
  · intro args G r h hG β w vs hv hlen
    unfold kShL at h
    split at h
    · rename_i t l
      split at h
      · rename_i s hs
        split at h
        · rename_i hcd
          rw [decide_eq_true_iff] at hcd
          injection h with h
          subst h
          obtain ⟨v, rfl, h1⟩ := args1 hv hlen
          obtain ⟨rfl, _⟩ := one_str.1 h1
          rw [ST.cl_spec hs]
          refine (shortest_calls w ⟨s.toArray⟩ (by show s.toArray.size ≤ _; rw [List.size_toArray]; exact hcd)).mono ?_
          rintro e w' ⟨rfl, rfl⟩
          exact ⟨_, rfl, one_str.2 ⟨rfl, Nat.le_refl _⟩, Ext.refl _⟩
        · cases h
      · cases h
    · cases h
  · intro args G r h x off
    unfold kShL at h
    split at h
    · split at h
      · split at h
        · injection h with h; subst h; intro e; cases e
        · cases h
      · cases h
    · cases h
theorem decDigits_len : ∀ (k u : Nat), u < 10 ^ (k + 1) → (Lib.decDigits u).length ≤ k + 1 := fun k u h => by
  rw [Lib.decDigits_length]
  exact nDigits_le k u h
theorem itoa64_len {n : Int} (h0 : -9223372036854775808 ≤ n) (h1 : n ≤ 9223372036854775807) : (Lib.itoa n).length ≤ 20 := by
  unfold Lib.itoa
  split
  · have := decDigits_len 18 n.natAbs (by omega)
    simp only [List.length_cons]; omega
  · have := decDigits_len 18 n.toNat (by omega)
    omega
def kFI6 : Con
  | [.val false [.n .i64 x], .val false [.n .i64 (.lit z)]], G => if inR G x && z == 10 then some (.val false [.str (.fmt x) 20]) else none
  | _, _ => none
theorem kFI6_ok {E : Env} : ConW Tryz.prog WQ E 95 kFI6 := by
  refine ⟨?_, ?_, ⟨_, Tryz.func95, by decide +kernel, by kernel_rfl⟩⟩
  · intro args G r h hG β w vs hW hv hlen
    unfold kFI6 at h
    split at h
    · rename_i x z
      split at h
      · rename_i hcd
        simp only [Bool.and_eq_true, beq_iff_eq] at hcd
        obtain ⟨hr, rfl⟩ := hcd
        injection h with h
        subst h
        have hx := inR_spec hG hr
        obtain ⟨v, u, rfl, h1, h2⟩ := args2 hv hlen
        have h1' := one_num.1 h1
        have h2' := one_num.1 h2
        subst h1' h2'
        refine (formatInt_calls w hW.2 _ hx.1 hx.2).mono ?_
        rintro e w' ⟨rfl, ex⟩
        exact ⟨_, rfl, one_str.2 ⟨rfl, itoa64_len hx.1 hx.2⟩, ex⟩
      · cases h
    · cases h
  · intro args G r h x off
    unfold kFI6 at h
    split at h
    · split at h
      · injection h with h; subst h; intro e; cases e
      · cases h
    · cases h
noncomputable def tabRo : List (Nat × Con) := [(88, kRNg true), (83, kRAd false), (85, kRFl)]
theorem tabRo_ok {E : Env} (hE : QEnv E) : TabOK Tryz.prog E tabRo :=
  .cons (kRNg_ok hE (fun w v a b c h hr hl => p_neg (h rfl) hr hl) ⟨_, Tryz.func88, by decide +kernel, by kernel_rfl⟩) <|
  .cons (kRAd_ok hE (fun _ _ _ _ _ _ _ _ _ _ _ h hu l l' => p_add h hu l l') ⟨_, Tryz.func83, by decide +kernel, by kernel_rfl⟩) <|
  .cons (kRFl_ok hE (fun _ _ _ _ _ R h l => p_floor4 R h l) (fun _ _ _ _ _ R h l => p_floor50 R h l) (fun _ _ _ _ _ R h l => p_floor R h l) ⟨_, Tryz.func85, by decide +kernel, by kernel_rfl⟩) .nil
end Go.Proofs.YtllijnecmekfeaaGreatDoor
end

section
set_option maxRecDepth 100000
namespace Go.Proofs.YtllijnecmekfeaaGreatDoor
open Go.RowKit Go.Shelf
noncomputable def tabPw : List (Nat × Con) := (61, kInl (cfgOf tabInt) Tryz.f61) :: (tabInt ++ tabT)
theorem tabPw_ok {E : Env} (hE : QEnv E) : TabOK Tryz.prog E tabPw := .cons (kInl_ok mixed (cfg_ok tabInt_ok) (fun _ => trivial) Tryz.func61 (by decide +kernel) (by kernel_rfl)) (TabOK.app tabInt_ok (tabT_ok hE))
noncomputable def tabD0 : List (Nat × Con) := (70, kWpL) :: (81, kShL) :: (68, kInl (cfgOf tabPw) Tryz.f68) :: (66, kFlQ) :: (tabInt ++ tabT)
theorem tabD0_ok {E : Env} (hE : QEnv E) : TabOK Tryz.prog E tabD0 :=
  .cons kWpL_ok (.cons kShL_ok (.cons (kInl_ok mixed (cfg_ok (tabPw_ok hE)) (fun _ => trivial) Tryz.func68 (by decide +kernel) (by kernel_rfl)) (.cons (kFlQ_ok hE) (TabOK.app tabInt_ok (tabT_ok hE)))))
noncomputable def tabDf : List (Nat × Con) := (71, kFmt) :: (95, kFI6) :: tabD0
theorem tabDf_ok {E : Env} (hE : QEnv E) : TabW Tryz.prog WQ E tabDf := .cons kFmt_ok (.cons kFI6_ok (tabD0_ok hE).toW)
noncomputable def cDf : Cfg := cfgW WQ tabDf
theorem cDf_ok {E : Env} (hE : QEnv E) : CfgOK Tryz.prog E cDf := cfgW_ok (tabDf_ok hE)
theorem wq_ext : ∀ w w', WQ w → Ext w w' → WQ w' := fun _ _ h e => h.ext e
noncomputable def tabSq6 : List (Nat × Con) := [(101, kSqQ)]
theorem tabSq6_ok {E : Env} : TabOK Tryz.prog E tabSq6 := .cons (kSqQ_ok (fun w v n d h l m => rsqrtQ_calls w v n d h l m) ⟨_, Tryz.func101, by decide +kernel, by kernel_rfl⟩) .nil
noncomputable def tabA6 : List (Nat × Con) :=
  (29, kInl (cR tabRo) Tryz.f29) :: (31, kInl (cR tabRo) Tryz.f31) :: (33, kInl (cR tabRo) Tryz.f33) ::
  (49, kInl (cR tabSq6) Tryz.f49) :: (52, kInl (cR []) Tryz.f52) :: (51, kInl (cR []) Tryz.f51) :: (tabInt ++ tabT)
theorem tabA6_ok {E : Env} (hE : QEnv E) : TabOK Tryz.prog E tabA6 :=
  .cons (kInl_ok mixed (cR_ok hE (tabRo_ok hE)) (fun _ => trivial) Tryz.func29 (by decide +kernel) (by kernel_rfl)) <|
  .cons (kInl_ok mixed (cR_ok hE (tabRo_ok hE)) (fun _ => trivial) Tryz.func31 (by decide +kernel) (by kernel_rfl)) <|
  .cons (kInl_ok mixed (cR_ok hE (tabRo_ok hE)) (fun _ => trivial) Tryz.func33 (by decide +kernel) (by kernel_rfl)) <|
  .cons (kInl_ok mixed (cR_ok hE tabSq6_ok) (fun _ => trivial) Tryz.func49 (by decide +kernel) (by kernel_rfl)) <|
  .cons (kInl_ok mixed (cR_ok hE .nil) (fun _ => trivial) Tryz.func52 (by decide +kernel) (by kernel_rfl)) <|
  .cons (kInl_ok mixed (cR_ok hE .nil) (fun _ => trivial) Tryz.func51 (by decide +kernel) (by kernel_rfl)) (TabOK.app tabInt_ok (tabT_ok hE))
noncomputable def tabAw6 : List (Nat × Con) :=
  (17, kInl cDf Tryz.f17) :: (25, kInl cDf Tryz.f25) :: (42, kInl cDf Tryz.f42) :: tabA6
theorem tabAw6_ok {E : Env} (hE : QEnv E) : TabW Tryz.prog WQ E tabAw6 :=
  .cons (kInlW_ok mixed wq_ext (cDf_ok hE) (fun _ h => h) Tryz.func17 (by decide +kernel) (by kernel_rfl)) <|
  .cons (kInlW_ok mixed wq_ext (cDf_ok hE) (fun _ h => h) Tryz.func25 (by decide +kernel) (by kernel_rfl)) <|
  .cons (kInlW_ok mixed wq_ext (cDf_ok hE) (fun _ h => h) Tryz.func42 (by decide +kernel) (by kernel_rfl)) (tabA6_ok hE).toW
end Go.Proofs.YtllijnecmekfeaaGreatDoor
end

section
set_option maxRecDepth 100000
namespace Go.Proofs.YtllijnecmekfeaaGreatDoor
abbrev Sq := Nat → Rat
def Null (f : Sq) : Prop := ∀ e : Rat, 0 < e → ∃ K, ∀ k, K ≤ k → -e ≤ f k ∧ f k ≤ e
def PosS (f : Sq) : Prop := ∃ e : Rat, 0 < e ∧ ∃ K, ∀ k, K ≤ k → e ≤ f k
def Bdd (f : Sq) : Prop := ∃ b : Rat, 0 < b ∧ ∀ k, -b ≤ f k ∧ f k ≤ b
def HasSg (f : Sq) (s : Int) : Prop := (s = 1 ∧ PosS f) ∨ (s = 0 ∧ Null f) ∨ (s = -1 ∧ PosS fun k => - f k)
theorem le_tot (a b : Rat) : a ≤ b ∨ b ≤ a := Rat.le_total
theorem mul_le {a b x y : Rat} (ha : 0 ≤ a) (hx : a ≤ x) (hb : 0 ≤ b) (hy : b ≤ y) : a * b ≤ x * y := by
  have h1 : 0 ≤ (x - a) * y := Rat.mul_nonneg (by grind) (by grind)
  have h2 : 0 ≤ a * (y - b) := Rat.mul_nonneg ha (by grind)
  grind
theorem half_pos {e : Rat} (h : 0 < e) : 0 < e / 2 := by grind
theorem null_congr {f g : Sq} (h : ∀ k, f k = g k) (n : Null f) : Null g := by
  obtain rfl : f = g := funext h
  exact n
theorem pos_congr {f g : Sq} (h : ∀ k, f k = g k) (n : PosS f) : PosS g := by
  obtain rfl : f = g := funext h
  exact n
theorem null_neg {f : Sq} (h : Null f) : Null fun n => - f n := by
  intro e he
  obtain ⟨K, hK⟩ := h e he
  exact ⟨K, fun n hn => by have := hK n hn; grind⟩
theorem abs_mul_le {b e x y : Rat} (_ : 0 < b) (_ : 0 < e) (h1 : -b ≤ x) (h2 : x ≤ b) (h3 : -e ≤ y) (h4 : y ≤ e) : -(b * e) ≤ x * y ∧ x * y ≤ b * e := by
  have k1 : 0 ≤ (b - x) * (e + y) := Rat.mul_nonneg (by grind) (by grind)
  have k2 : 0 ≤ (b + x) * (e - y) := Rat.mul_nonneg (by grind) (by grind)
  have k3 : 0 ≤ (b - x) * (e - y) := Rat.mul_nonneg (by grind) (by grind)
  have k4 : 0 ≤ (b + x) * (e + y) := Rat.mul_nonneg (by grind) (by grind)
  grind
theorem div_pos' {e b : Rat} (he : 0 < e) (hb : 0 < b) : 0 < e / b := by
  rw [Rat.div_def]
  exact Rat.mul_pos he (Rat.inv_pos.2 hb)
theorem mul_div' {e b : Rat} (hb : 0 < b) : b * (e / b) = e := by
  have : b ≠ 0 := by grind
  grind
theorem null_mul {f g : Sq} (h : Bdd f) (k : Null g) : Null fun n => f n * g n := by
  intro e he
  obtain ⟨b, hb, hf⟩ := h
  obtain ⟨K, hK⟩ := k (e / b) (div_pos' he hb)
  refine ⟨K, fun n hn => ?_⟩
  have h1 := hK n hn
  have h2 := hf n
  have := abs_mul_le hb (div_pos' he hb) h2.1 h2.2 h1.1 h1.2
  rw [mul_div' hb] at this
  exact this
theorem pos_add_null {f g : Sq} (h : PosS f) (k : Null g) : PosS fun n => f n + g n := by
  obtain ⟨e, he, K, hK⟩ := h
  obtain ⟨L, hL⟩ := k (e / 2) (half_pos he)
  refine ⟨e / 2, half_pos he, max K L, fun n hn => ?_⟩
  have := hK n (by omega)
  have := hL n (by omega)
  grind
theorem pos_mul {f g : Sq} (h : PosS f) (k : PosS g) : PosS fun n => f n * g n := by
  obtain ⟨e, he, K, hK⟩ := h
  obtain ⟨e', he', L, hL⟩ := k
  refine ⟨e * e', Rat.mul_pos he he', max K L, fun n hn => ?_⟩
  exact mul_le (by grind) (hK n (by omega)) (by grind) (hL n (by omega))
theorem not_pos_null {f : Sq} (h : PosS f) (k : Null f) : False := by
  obtain ⟨e, he, K, hK⟩ := h
  obtain ⟨L, hL⟩ := k (e / 2) (half_pos he)
  have := hK (max K L) (by omega)
  have := hL (max K L) (by omega)
  grind
theorem not_pos_neg {f : Sq} (h : PosS f) (k : PosS fun n => - f n) : False := by
  obtain ⟨e, he, K, hK⟩ := h
  obtain ⟨e', he', L, hL⟩ := k
  have := hK (max K L) (by omega)
  have := hL (max K L) (by omega)
  grind
theorem not_negp_null {f : Sq} (h : PosS fun n => - f n) (k : Null f) : False := not_pos_null h (null_neg k)
theorem HasSg.unique {f : Sq} {s t : Int} (h : HasSg f s) (k : HasSg f t) : s = t := by
  rcases h with ⟨rfl, h⟩ | ⟨rfl, h⟩ | ⟨rfl, h⟩ <;> rcases k with ⟨rfl, k⟩ | ⟨rfl, k⟩ | ⟨rfl, k⟩ <;> first | rfl | exact (not_pos_null h k).elim | exact (not_pos_null k h).elim | exact (not_pos_neg h k).elim | exact (not_pos_neg k h).elim | exact (not_negp_null h k).elim | exact (not_negp_null k h).elim
theorem HasSg.neg {f : Sq} {s : Int} (h : HasSg f s) : HasSg (fun n => - f n) (-s) := by
  rcases h with ⟨rfl, h⟩ | ⟨rfl, h⟩ | ⟨rfl, h⟩
  · exact .inr (.inr ⟨rfl, pos_congr (fun k => by grind) h⟩)
  · exact .inr (.inl ⟨rfl, null_neg h⟩)
  · exact .inl ⟨rfl, h⟩
theorem HasSg.range {f : Sq} {s : Int} (h : HasSg f s) : s = 1 ∨ s = 0 ∨ s = -1 := by
  rcases h with ⟨rfl, h⟩ | ⟨rfl, h⟩ | ⟨rfl, h⟩ <;> simp
theorem HasSg.mul {f g : Sq} {s t : Int} (h : HasSg f s) (k : HasSg g t) (bf : Bdd f) (bg : Bdd g) : HasSg (fun n => f n * g n) (s * t) := by
  rcases h with ⟨rfl, h⟩ | ⟨rfl, h⟩ | ⟨rfl, h⟩
  · rcases k with ⟨rfl, k⟩ | ⟨rfl, k⟩ | ⟨rfl, k⟩
    · exact .inl ⟨rfl, pos_mul h k⟩
    · exact .inr (.inl ⟨rfl, null_mul bf k⟩)
    · exact .inr (.inr ⟨rfl, pos_congr (fun n => by grind) (pos_mul h k)⟩)
  · exact .inr (.inl ⟨by omega, null_congr (fun n => by grind) (null_mul bg h)⟩)
  · rcases k with ⟨rfl, k⟩ | ⟨rfl, k⟩ | ⟨rfl, k⟩
    · exact .inr (.inr ⟨rfl, pos_congr (fun n => by grind) (pos_mul h k)⟩)
    · exact .inr (.inl ⟨rfl, null_mul bf k⟩)
    · exact .inl ⟨rfl, pos_congr (fun n => by grind) (pos_mul h k)⟩
structure IsRt (c : Rat) (m : Sq) : Prop where
  nn : ∀ k, 0 ≤ m k
  le : ∀ k, m k * m k ≤ c
  lim : Null fun k => c - m k * m k
  low : ∀ (j : Nat), (j : Rat) * (j : Rat) ≤ c * (65536 * 65536) → ∀ k, (j : Rat) ≤ m k * 65536
theorem IsRt.zero {m : Sq} (h : IsRt 0 m) : ∀ k, m k = 0 := by
  intro k
  have h1 := h.le k
  have h2 := h.nn k
  by_cases e : m k = 0
  · exact e
  · have : 0 < m k * m k := Rat.mul_pos (by grind) (by grind)
    grind
theorem IsRt.pos {c : Rat} {m : Sq} (hc : 0 < c) (h : IsRt c m) : PosS m := by
  have h1 : PosS fun k => m k * m k := by
    have := pos_add_null (f := fun _ => c) ⟨c, hc, 0, fun _ _ => Rat.le_refl⟩ (null_neg h.lim)
    exact pos_congr (fun k => by grind) this
  obtain ⟨e, he, K, hK⟩ := h1
  refine ⟨e / (c + 1), div_pos' he (by grind), K, fun k hk => ?_⟩
  have h2 := hK k hk
  have h3 := h.nn k
  have h4 : m k ≤ c + 1 := by
    have := h.le k
    rcases le_tot (m k) (c + 1) with q | q
    · exact q
    · have := mul_le (show 0 ≤ c + 1 by grind) q (show 0 ≤ c + 1 by grind) q
      have : 0 < c * c := Rat.mul_pos hc hc
      grind
  have h5 : (c + 1) * (e / (c + 1)) = e := mul_div' (by grind)
  have h6 : 0 ≤ m k * (c + 1 - m k) := Rat.mul_nonneg h3 (by grind)
  rcases le_tot (e / (c + 1)) (m k) with q | q
  · exact q
  · by_cases e0 : e / (c + 1) = m k
    · grind
    · have : 0 < (c + 1) * (e / (c + 1) - m k) := Rat.mul_pos (by grind) (by grind)
      grind
end Go.Proofs.YtllijnecmekfeaaGreatDoor
end

section
set_option maxRecDepth 100000
namespace Go.Proofs.YtllijnecmekfeaaGreatDoor
def IvIn (l h : Int) (f : Sq) : Prop := ∀ k, (l : Rat) ≤ f k * 65536 ∧ f k * 65536 ≤ (h : Rat)
theorem IvIn.add {l h l' h' : Int} {f g : Sq} (a : IvIn l h f) (b : IvIn l' h' g) : IvIn (l + l') (h + h') fun k => f k + g k := fun k => by
  have := a k
  have := b k
  rw [Rat.intCast_add, Rat.intCast_add]
  grind
theorem IvIn.neg {l h : Int} {f : Sq} (a : IvIn l h f) : IvIn (-h) (-l) fun k => - f k := fun k => by
  have := a k
  rw [Rat.intCast_neg, Rat.intCast_neg]
  grind
theorem mul_between {a b c d x y : Rat} (h1 : a ≤ x) (h2 : x ≤ b) (h3 : c ≤ y) (h4 : y ≤ d) {lo : Rat} (l1 : lo ≤ a * c) (l2 : lo ≤ a * d) (l3 : lo ≤ b * c) (l4 : lo ≤ b * d) : lo ≤ x * y := by
  have hy : lo ≤ x * c ∧ lo ≤ x * d := by
    constructor
    · rcases le_tot 0 c with q | q
      · have : 0 ≤ (x - a) * c := Rat.mul_nonneg (by grind) q
        grind
      · have : 0 ≤ (b - x) * (-c) := Rat.mul_nonneg (by grind) (by grind)
        grind
    · rcases le_tot 0 d with q | q
      · have : 0 ≤ (x - a) * d := Rat.mul_nonneg (by grind) q
        grind
      · have : 0 ≤ (b - x) * (-d) := Rat.mul_nonneg (by grind) (by grind)
        grind
  rcases le_tot 0 x with q | q
  · have : 0 ≤ (y - c) * x := Rat.mul_nonneg (by grind) q
    grind
  · have : 0 ≤ (d - y) * (-x) := Rat.mul_nonneg (by grind) (by grind)
    grind
def fl16 (p : Int) : Int := p / 65536
def cl16 (p : Int) : Int := -((-p) / 65536)
theorem fl16_le (p : Int) : (fl16 p : Rat) * 65536 ≤ (p : Rat) := by
  have : fl16 p * 65536 ≤ p := by unfold fl16; omega
  have h := Rat.intCast_le_intCast.2 this
  rw [Rat.intCast_mul] at h
  exact h
theorem le_cl16 (p : Int) : (p : Rat) ≤ (cl16 p : Rat) * 65536 := by
  have : p ≤ cl16 p * 65536 := by unfold cl16; omega
  have h := Rat.intCast_le_intCast.2 this
  rw [Rat.intCast_mul] at h
  exact h
def mulLo (a b c d : Int) : Int := min (min (fl16 (a * c)) (fl16 (a * d))) (min (fl16 (b * c)) (fl16 (b * d)))
def mulHi (a b c d : Int) : Int := max (max (cl16 (a * c)) (cl16 (a * d))) (max (cl16 (b * c)) (cl16 (b * d)))
theorem mulLo_spec {a b c d p : Int} {q : Rat} (h : mulLo a b c d ≤ fl16 p) (hq : q = (p : Rat)) : (mulLo a b c d : Rat) * 65536 ≤ q := by
  have h1 := fl16_le p
  have h2 := Rat.intCast_le_intCast.2 h
  grind
theorem mulHi_spec {a b c d p : Int} {q : Rat} (h : cl16 p ≤ mulHi a b c d) (hq : q = (p : Rat)) : q ≤ (mulHi a b c d : Rat) * 65536 := by
  have h1 := le_cl16 p
  have h2 := Rat.intCast_le_intCast.2 h
  grind
theorem mulLo_le (a b c d : Int) : mulLo a b c d ≤ fl16 (a * c) ∧ mulLo a b c d ≤ fl16 (a * d) ∧ mulLo a b c d ≤ fl16 (b * c) ∧ mulLo a b c d ≤ fl16 (b * d) := by
  unfold mulLo; omega
theorem le_mulHi (a b c d : Int) : cl16 (a * c) ≤ mulHi a b c d ∧ cl16 (a * d) ≤ mulHi a b c d ∧ cl16 (b * c) ≤ mulHi a b c d ∧ cl16 (b * d) ≤ mulHi a b c d := by
  unfold mulHi; omega
theorem IvIn.mul {a b c d : Int} {f g : Sq} (h : IvIn a b f) (k : IvIn c d g) : IvIn (mulLo a b c d) (mulHi a b c d) fun i => f i * g i := fun i => by
  obtain ⟨h1, h2⟩ := h i
  obtain ⟨k1, k2⟩ := k i
  obtain ⟨l1, l2, l3, l4⟩ := mulLo_le a b c d
  obtain ⟨u1, u2, u3, u4⟩ := le_mulHi a b c d
  have e1 := mul_between h1 h2 k1 k2 (mulLo_spec l1 (Rat.intCast_mul a c).symm) (mulLo_spec l2 (Rat.intCast_mul a d).symm) (mulLo_spec l3 (Rat.intCast_mul b c).symm) (mulLo_spec l4 (Rat.intCast_mul b d).symm)
  have e2 := mul_between (a := -(b : Rat)) (b := -(a : Rat)) (x := -(f i * 65536)) (lo := -((mulHi a b c d : Rat) * 65536)) (by grind) (by grind) k1 k2 (by have := mulHi_spec u3 (Rat.intCast_mul b c).symm; grind) (by have := mulHi_spec u4 (Rat.intCast_mul b d).symm; grind) (by have := mulHi_spec u1 (Rat.intCast_mul a c).symm; grind) (by have := mulHi_spec u2 (Rat.intCast_mul a d).symm; grind)
  constructor <;> grind
def flR (a : Rat) : Int := (a * 65536).floor
def clR (a : Rat) : Int := -(-(a * 65536)).floor
theorem IvIn.const (a : Rat) : IvIn (flR a) (clR a) fun _ => a := fun _ => by
  have h1 := Rat.floor_le (a * 65536)
  have h2 := Rat.floor_le (-(a * 65536))
  unfold flR clR
  rw [Rat.intCast_neg]
  constructor
  · exact h1
  · grind
end Go.Proofs.YtllijnecmekfeaaGreatDoor
end

section
set_option maxRecDepth 100000
namespace Go.Proofs.YtllijnecmekfeaaGreatDoor
end Go.Proofs.YtllijnecmekfeaaGreatDoor
end

section
set_option maxRecDepth 100000
namespace Go.Proofs.YtllijnecmekfeaaGreatDoor
open Go.RowKit
end Go.Proofs.YtllijnecmekfeaaGreatDoor
end

section
set_option maxRecDepth 100000
namespace Go.Proofs.YtllijnecmekfeaaGreatDoor
open Go.RowKit
abbrev C6 (h : Nat) (a b c d e f : Value) (w : World) : Prop :=
  w.cell? ⟨h, 0, none⟩ = some a ∧ w.cell? ⟨h, 1, none⟩ = some b ∧ w.cell? ⟨h + 1, 0, none⟩ = some c ∧ w.cell? ⟨h + 1, 1, none⟩ = some d ∧ w.cell? ⟨h + 2, 0, none⟩ = some e ∧ w.cell? ⟨h + 2, 1, none⟩ = some f
theorem C6.ext {h : Nat} {a b c d e f : Value} {w w' : World} (k : C6 h a b c d e f w) (x : Ext w w') : C6 h a b c d e f w' :=
  ⟨x.cell k.1, x.cell k.2.1, x.cell k.2.2.1, x.cell k.2.2.2.1, x.cell k.2.2.2.2.1, x.cell k.2.2.2.2.2⟩

end Go.Proofs.YtllijnecmekfeaaGreatDoor
end

section
set_option maxRecDepth 100000
namespace Go.Proofs.YtllijnecmekfeaaGreatDoor
open Go.RowKit
end Go.Proofs.YtllijnecmekfeaaGreatDoor
end

section
set_option maxRecDepth 100000
namespace Go.Proofs.YtllijnecmekfeaaGreatDoor
open Go.RowKit
end Go.Proofs.YtllijnecmekfeaaGreatDoor
end

section
set_option maxRecDepth 100000
namespace Go.Proofs.YtllijnecmekfeaaGreatDoor
open Go.RowKit
end Go.Proofs.YtllijnecmekfeaaGreatDoor
end

section
set_option maxRecDepth 100000
namespace Go.Proofs.YtllijnecmekfeaaGreatDoor
open Go.RowKit
end Go.Proofs.YtllijnecmekfeaaGreatDoor
end

section
set_option maxRecDepth 100000
namespace Go.Proofs.YtllijnecmekfeaaGreatDoor
open Go.RowKit
end Go.Proofs.YtllijnecmekfeaaGreatDoor
end

section
set_option maxRecDepth 100000
namespace Go.Proofs.YtllijnecmekfeaaGreatDoor
open Go.RowKit
end Go.Proofs.YtllijnecmekfeaaGreatDoor
end

section
set_option maxRecDepth 100000
namespace Go.Proofs.YtllijnecmekfeaaGreatDoor
open Go.RowKit
end Go.Proofs.YtllijnecmekfeaaGreatDoor
end

section
set_option maxRecDepth 100000
namespace Go.Proofs.YtllijnecmekfeaaGreatDoor
open Go.RowKit
def IsT (w : World) (e : Ending) (w' : World) : Prop := e = .returned (.bool true) ∧ Ext w w'
end Go.Proofs.YtllijnecmekfeaaGreatDoor
end

section
set_option maxRecDepth 100000
namespace Go.Proofs.YtllijnecmekfeaaGreatDoor
open Go.RowKit
def lM : IT := .lit (-2305843009213693952)
def lP : IT := .lit 2305843009213693952
end Go.Proofs.YtllijnecmekfeaaGreatDoor
end

section
set_option maxRecDepth 100000
namespace Go.Proofs.YtllijnecmekfeaaGreatDoor
open Go.RowKit
end Go.Proofs.YtllijnecmekfeaaGreatDoor
end

section
set_option maxRecDepth 100000
namespace Go.Proofs.YtllijnecmekfeaaGreatDoor
open Ieee
end Go.Proofs.YtllijnecmekfeaaGreatDoor
end

section
set_option maxRecDepth 100000
namespace Go.Proofs.YtllijnecmekfeaaGreatDoor
end Go.Proofs.YtllijnecmekfeaaGreatDoor
end

section
set_option maxRecDepth 100000
namespace Go.Proofs.YtllijnecmekfeaaGreatDoor
open Go.RowKit
end Go.Proofs.YtllijnecmekfeaaGreatDoor
end

section
set_option maxRecDepth 100000
namespace Go.Proofs.YtllijnecmekfeaaGreatDoor
open Go.RowKit
end Go.Proofs.YtllijnecmekfeaaGreatDoor
end

section
set_option maxRecDepth 100000
namespace Go.Proofs.YtllijnecmekfeaaGreatDoor
open Go.RowKit
def exT (x y : IT) : BT := .and (.le x y) (.and (.le lM x) (.le y lP))
end Go.Proofs.YtllijnecmekfeaaGreatDoor
end

section
set_option maxRecDepth 100000
namespace Go.Proofs.YtllijnecmekfeaaGreatDoor
open Go.RowKit
end Go.Proofs.YtllijnecmekfeaaGreatDoor
end

section
set_option maxRecDepth 100000
namespace Go.Proofs.YtllijnecmekfeaaGreatDoor
open Go.RowKit
end Go.Proofs.YtllijnecmekfeaaGreatDoor
end

section
set_option maxRecDepth 100000
namespace Go.Proofs.YtllijnecmekfeaaGreatDoor
open Go.RowKit
end Go.Proofs.YtllijnecmekfeaaGreatDoor
end

section
set_option maxRecDepth 100000
namespace Go.Proofs.YtllijnecmekfeaaGreatDoor
open Go.RowKit
end Go.Proofs.YtllijnecmekfeaaGreatDoor
end

section
set_option maxRecDepth 100000
namespace Go.Proofs.YtllijnecmekfeaaGreatDoor
open Go.RowKit
end Go.Proofs.YtllijnecmekfeaaGreatDoor
end

section
set_option maxRecDepth 100000
namespace Go.Proofs.YtllijnecmekfeaaGreatDoor
open Go.RowKit
end Go.Proofs.YtllijnecmekfeaaGreatDoor
end

section
set_option maxRecDepth 100000
namespace Go.Proofs.YtllijnecmekfeaaGreatDoor
open Go.RowKit
end Go.Proofs.YtllijnecmekfeaaGreatDoor
end

section
set_option maxRecDepth 100000
namespace Go.Proofs.YtllijnecmekfeaaGreatDoor
open Go.RowKit
end Go.Proofs.YtllijnecmekfeaaGreatDoor
end

section
set_option maxRecDepth 100000
namespace Go.Proofs.YtllijnecmekfeaaGreatDoor
open Go.RowKit
end Go.Proofs.YtllijnecmekfeaaGreatDoor
end

section
set_option maxRecDepth 100000
namespace Go.Proofs.YtllijnecmekfeaaGreatDoor
open Go.RowKit
end Go.Proofs.YtllijnecmekfeaaGreatDoor
end

section
set_option maxRecDepth 100000
namespace Go.Proofs.YtllijnecmekfeaaGreatDoor
open Go.RowKit
end Go.Proofs.YtllijnecmekfeaaGreatDoor
end

section
set_option maxRecDepth 100000
namespace Go.Proofs.YtllijnecmekfeaaGreatDoor
open Go.RowKit
end Go.Proofs.YtllijnecmekfeaaGreatDoor
end

section
set_option maxRecDepth 100000
namespace Go.Proofs.YtllijnecmekfeaaGreatDoor
open Go.RowKit
end Go.Proofs.YtllijnecmekfeaaGreatDoor
end

section
set_option maxRecDepth 100000
namespace Go.Proofs.YtllijnecmekfeaaGreatDoor
open Go.RowKit
end Go.Proofs.YtllijnecmekfeaaGreatDoor
end

section
set_option maxRecDepth 100000
namespace Go.Proofs.YtllijnecmekfeaaGreatDoor
open Go.RowKit
def bools : List Bool := [true, false]
theorem bools_mem (b : Bool) : b ∈ bools := by cases b <;> decide
end Go.Proofs.YtllijnecmekfeaaGreatDoor
end

section
set_option maxRecDepth 100000
namespace Go.Proofs.YtllijnecmekfeaaGreatDoor
open Go.RowKit
end Go.Proofs.YtllijnecmekfeaaGreatDoor
end

section
set_option maxRecDepth 100000
namespace Go.Proofs.YtllijnecmekfeaaGreatDoor
open Go.RowKit
end Go.Proofs.YtllijnecmekfeaaGreatDoor
end

section
set_option maxRecDepth 100000
namespace Go.Proofs.YtllijnecmekfeaaGreatDoor
open Go.RowKit
end Go.Proofs.YtllijnecmekfeaaGreatDoor
end

section
set_option maxRecDepth 100000
namespace Go.Proofs.YtllijnecmekfeaaGreatDoor
open Go.RowKit
def qI (i : Nat) : IT2 := (.var i, .var (i + 1))
end Go.Proofs.YtllijnecmekfeaaGreatDoor
end

section
set_option maxRecDepth 100000
namespace Go.Proofs.YtllijnecmekfeaaGreatDoor
open Go.RowKit
end Go.Proofs.YtllijnecmekfeaaGreatDoor
end

section
set_option maxRecDepth 100000
namespace Go.Proofs.YtllijnecmekfeaaGreatDoor
open Go.RowKit
end Go.Proofs.YtllijnecmekfeaaGreatDoor
end

section
set_option maxRecDepth 100000
namespace Go.Proofs.YtllijnecmekfeaaGreatDoor
open Go.RowKit
end Go.Proofs.YtllijnecmekfeaaGreatDoor
end

section
set_option maxRecDepth 100000
namespace Go.Proofs.YtllijnecmekfeaaGreatDoor
open Go.RowKit
end Go.Proofs.YtllijnecmekfeaaGreatDoor
end

section
set_option maxRecDepth 100000
namespace Go.Proofs.YtllijnecmekfeaaGreatDoor
open Go.RowKit
end Go.Proofs.YtllijnecmekfeaaGreatDoor
end

section
set_option maxRecDepth 100000
namespace Go.Proofs.YtllijnecmekfeaaGreatDoor
open Go.RowKit
end Go.Proofs.YtllijnecmekfeaaGreatDoor
end

section
set_option maxRecDepth 100000
namespace Go.Proofs.YtllijnecmekfeaaGreatDoor
open Go.RowKit
end Go.Proofs.YtllijnecmekfeaaGreatDoor
end

section
set_option maxRecDepth 100000
namespace Go.Proofs.YtllijnecmekfeaaGreatDoor
open Go.RowKit
def kKq (chk : List AV → Bool) (r : AV) (k : Con) : Con := fun args G => if chk args then some r else k args G
structure KnownQ (E : Env) (f : Nat) (chk : List AV → Bool) (r : AV) : Prop where
  calls : ∀ args, chk args = true → ∀ (β : Nat → Nat) (w : World) (vs : List Value), (∀ (i : Nat) (x : AV), args[i]? = some x → ∃ v, vs[i]? = some v ∧ x.holds E β w v) → vs.length = args.length → Calls Tryz.prog f vs.toArray w fun e w' => ∃ v, e = .returned v ∧ (∀ β w', r.holds E β w' v) ∧ Ext w w'
  np : ∀ x off, r ≠ .ptr x off
def kNoQ : Con := fun _ _ => none
theorem kNoQ_ok {E : Env} {f : Nat} (hb : ∃ fn, Tryz.prog.funcs[f]? = some fn ∧ fn.name ≠ "runtime.NumGoroutine" ∧ fn.body.isNone = false) : ConOK Tryz.prog E f kNoQ := by
  refine ⟨?_, ?_, hb⟩
  · intro args G r h
    cases h
  · intro args G r h
    cases h
end Go.Proofs.YtllijnecmekfeaaGreatDoor
end

section
set_option maxRecDepth 100000
namespace Go.Proofs.YtllijnecmekfeaaGreatDoor
open Go.RowKit
end Go.Proofs.YtllijnecmekfeaaGreatDoor
end

section
set_option maxRecDepth 100000
namespace Go.Proofs.YtllijnecmekfeaaGreatDoor
open Go.RowKit
end Go.Proofs.YtllijnecmekfeaaGreatDoor
end

section
set_option maxRecDepth 100000
namespace Go.Proofs.YtllijnecmekfeaaGreatDoor
open Go.RowKit
end Go.Proofs.YtllijnecmekfeaaGreatDoor
end

section
set_option maxRecDepth 100000
namespace Go.Proofs.YtllijnecmekfeaaGreatDoor
open Go.RowKit
def t6 : List IT2 → List Chunk → Bool
  | [], [] => true
  | t :: ts, .int x _ :: .int y _ :: cs => x.beq t.1 && (y.beq t.2 && t6 ts cs)
  | _, _ => false
def c6 (ts : List IT2) : List AV → Bool
  | [.val true cs] => t6 ts cs
  | _ => false
end Go.Proofs.YtllijnecmekfeaaGreatDoor
end

section
set_option maxRecDepth 100000
namespace Go.Proofs.YtllijnecmekfeaaGreatDoor
open Go.RowKit
end Go.Proofs.YtllijnecmekfeaaGreatDoor
end

section
set_option maxRecDepth 100000
namespace Go.Proofs.YtllijnecmekfeaaGreatDoor
open Go.RowKit
end Go.Proofs.YtllijnecmekfeaaGreatDoor
end

section
set_option maxRecDepth 100000
namespace Go.Proofs.YtllijnecmekfeaaGreatDoor
open Go.RowKit
end Go.Proofs.YtllijnecmekfeaaGreatDoor
end

section
set_option maxRecDepth 100000
namespace Go.Proofs.YtllijnecmekfeaaGreatDoor
open Go.RowKit
structure KnownR (E : Env) (f : Nat) (chk : List AV → Bool) (r : AV) : Prop where
  calls : ∀ args, chk args = true → ∀ (β : Nat → Nat) (w : World) (vs : List Value), (∀ (i : Nat) (x : AV), args[i]? = some x → ∃ v, vs[i]? = some v ∧ x.holds E β w v) → vs.length = args.length → Calls Tryz.prog f vs.toArray w fun e w' => ∃ v, e = .returned v ∧ (∀ β, r.holds E β w' v) ∧ Ext w w'
  np : ∀ x off, r ≠ .ptr x off
theorem kKr_ok {E : Env} {f : Nat} {chk : List AV → Bool} {r : AV} {k : Con} (h : KnownR E f chk r) (hk : ConOK Tryz.prog E f k) : ConOK Tryz.prog E f (kKq chk r k) := by
  refine ⟨?_, ?_, hk.body⟩
  · intro args G s hs hG β w vs hv hl
    unfold kKq at hs
    split at hs
    · rename_i hc
      injection hs with hs
      subst hs
      refine (h.calls args hc β w vs hv hl).mono ?_
      rintro e w' ⟨v, rfl, h1, h2⟩
      exact ⟨v, rfl, h1 _, h2⟩
    · exact hk.calls args G s hs hG β w vs hv hl
  · intro args G s hs x off
    unfold kKq at hs
    split at hs
    · injection hs with hs
      subst hs
      exact h.np x off
    · exact hk.nptr args G s hs x off
end Go.Proofs.YtllijnecmekfeaaGreatDoor
end

section
set_option maxRecDepth 100000
namespace Go.Proofs.YtllijnecmekfeaaGreatDoor
open Go.RowKit
end Go.Proofs.YtllijnecmekfeaaGreatDoor
end

section
set_option maxRecDepth 100000
namespace Go.Proofs.YtllijnecmekfeaaGreatDoor
open Go.RowKit
end Go.Proofs.YtllijnecmekfeaaGreatDoor
end

section
set_option maxRecDepth 100000
namespace Go.Proofs.YtllijnecmekfeaaGreatDoor
open Go.RowKit
end Go.Proofs.YtllijnecmekfeaaGreatDoor
end

section
set_option maxRecDepth 100000
namespace Go.Proofs.YtllijnecmekfeaaGreatDoor
open Go.RowKit
end Go.Proofs.YtllijnecmekfeaaGreatDoor
end

section
set_option maxRecDepth 100000
namespace Go.Proofs.YtllijnecmekfeaaGreatDoor
open Go.RowKit
structure Rts (E : Env) (a b c a' b' c' : Rat) : Prop where
  r1 : RepQ E (qI 0) a
  r2 : RepQ E (qI 2) b
  r3 : RepQ E (qI 4) c
  r4 : RepQ E (qI 6) a'
  r5 : RepQ E (qI 8) b'
  r6 : RepQ E (qI 10) c'
end Go.Proofs.YtllijnecmekfeaaGreatDoor
end

section
set_option maxRecDepth 100000
namespace Go.Proofs.YtllijnecmekfeaaGreatDoor
open Go.RowKit
theorem lim_le {m : Nat} {x y : Int} (h : Lim m y) (h1 : 0 ≤ x) (h2 : x ≤ y) : Lim m x := h.natAbs_le (by omega)
theorem SimOK.lim {ln ld hn hd : Int} {r : Int × Int} (h : SimOK ln ld hn hd r) (_h1 : 0 ≤ ln) (h2 : 0 < ld) (_h3 : 0 < hn) (h4 : 0 ≤ hd) (hlt : ln * hd < hn * ld) (a1 : Lim 6 ln) (a2 : Lim 6 ld) (a3 : Lim 6 hn) (a4 : Lim 6 hd) : Lim 7 r.1 ∧ Lim 7 r.2 := by
  obtain ⟨j1, j2⟩ := h.least (ln + hn) (ld + hd) (by omega) (by rw [Int.mul_add, Int.add_mul]; omega) (by rw [Int.mul_add, Int.add_mul]; omega)
  have p1 := h.p1
  have p2 := h.p2
  exact ⟨lim_le (a1.add2 a3) (by omega) j1, lim_le (a2.add2 a4) (by omega) j2⟩
structure SmEnv (a b F T y G H : Rat) : Prop where
  hF : F = 1 / (b - (a.floor : Rat))
  hB : b - (a.floor : Rat) ≠ 0
  hG : G = 1 / ((F.floor : Rat) + 1)
  hG0 : (F.floor : Rat) + 1 ≠ 0
  lF : LimQ 8 F
  lG : LimQ 8 G
  ne : ¬ ((a.floor : Rat) + 1 < b) → a ≠ (a.floor : Rat) → T = 1 / (a - (a.floor : Rat)) ∧ LimQ 8 T ∧ H = 1 / y ∧ y ≠ 0 ∧ LimQ 8 H ∧ LimQ 8 y
end Go.Proofs.YtllijnecmekfeaaGreatDoor
end

section
set_option maxRecDepth 100000
namespace Go.Proofs.YtllijnecmekfeaaGreatDoor
open Go.RowKit
end Go.Proofs.YtllijnecmekfeaaGreatDoor
end

section
set_option maxRecDepth 100000
namespace Go.Proofs.YtllijnecmekfeaaGreatDoor
open Go.RowKit
end Go.Proofs.YtllijnecmekfeaaGreatDoor
end

section
set_option maxRecDepth 100000
namespace Go.Proofs.YtllijnecmekfeaaGreatDoor
open Go.RowKit
end Go.Proofs.YtllijnecmekfeaaGreatDoor
end

section
set_option maxRecDepth 100000
namespace Go.Proofs.YtllijnecmekfeaaGreatDoor
open Go.RowKit
end Go.Proofs.YtllijnecmekfeaaGreatDoor
end

section
set_option maxRecDepth 100000
namespace Go.Proofs.YtllijnecmekfeaaGreatDoor
open Go.RowKit
def foldC : Chunk → Chunk
  | .int t l => .int t.fold l
  | .n k t => .n k t.fold
  | c => c
def foldAV : AV → AV
  | .val b cs => .val b (cs.map foldC)
  | .tup l => .tup (l.map fun p => (p.1, p.2.map foldC))
  | x => x
theorem foldC_holds {E : Env} {w : World} {c : Chunk} {vs : List Value} (h : c.holds E w vs) : (foldC c).holds E w vs := by
  cases c with
  | int t l =>
    obtain ⟨x, y, rfl, h1, h2⟩ := h
    exact ⟨x, y, rfl, by rw [IT.fold_den]; exact h1, by rw [IT.fold_den]; exact h2⟩
  | n k t =>
    show vs = [.int k (t.fold.den E)]
    rw [IT.fold_den]
    exact h
  | _ => exact h
theorem foldCs_holds {E : Env} {w : World} : ∀ {cs : List Chunk} {vs : List Value}, chunks E w cs vs → chunks E w (cs.map foldC) vs
  | [], _, h => h
  | _ :: _, _, ⟨l, r, e, h1, h2⟩ => ⟨l, r, e, foldC_holds h1, foldCs_holds h2⟩
theorem foldO_holds {E : Env} {w : World} {b : Bool} {cs : List Chunk} {v : Value} (h : one E w (b, cs) v) : one E w (b, cs.map foldC) v := by
  cases b with
  | true =>
    obtain ⟨vs, rfl, h1⟩ := h
    exact ⟨vs, rfl, foldCs_holds h1⟩
  | false => exact ⟨foldCs_holds h.1, h.2⟩
theorem foldT_holds {E : Env} {w : World} : ∀ {l : List (Bool × List Chunk)} {vs : List Value}, tupAll E w l vs → tupAll E w (l.map fun p => (p.1, p.2.map foldC)) vs
  | [], _, h => h
  | _ :: _, _, ⟨v, r, e, h1, h2⟩ => ⟨v, r, e, foldO_holds h1, foldT_holds h2⟩
theorem foldAV_holds {E : Env} {β : Nat → Nat} {w : World} {x : AV} {v : Value} (h : x.holds E β w v) : (foldAV x).holds E β w v := by
  cases x with
  | val b cs => exact foldO_holds h
  | tup l =>
    obtain ⟨vs, rfl, h1⟩ := h
    exact ⟨vs, rfl, foldT_holds h1⟩
  | ptr x off => exact h
  | bad => exact h
def kFold (k : Con) : Con := fun args G => (k args G).map foldAV
theorem kFold_ok {P : Program} {E : Env} {f : Nat} {k : Con} (h : ConOK P E f k) : ConOK P E f (kFold k) := by
  refine ⟨?_, ?_, h.body⟩
  · intro args G r hr hG β w vs hv hl
    obtain ⟨y, hy, rfl⟩ := Option.map_eq_some_iff.1 hr
    refine (h.calls args G y hy hG β w vs hv hl).mono ?_
    rintro e w' ⟨v, rfl, hh, ex⟩
    exact ⟨v, rfl, foldAV_holds hh, ex⟩
  · intro args G r hr x off e
    obtain ⟨y, hy, rfl⟩ := Option.map_eq_some_iff.1 hr
    have := h.nptr args G y hy x off
    cases y with
    | ptr a b => exact this e
    | _ => cases e
def lq (q : Rat) : IT2 := (.lit q.num, .lit (q.den : Int))
end Go.Proofs.YtllijnecmekfeaaGreatDoor
end

section
set_option maxRecDepth 100000
namespace Go.Proofs.YtllijnecmekfeaaGreatDoor
open Go.RowKit
end Go.Proofs.YtllijnecmekfeaaGreatDoor
end

section
set_option maxRecDepth 100000
namespace Go.Proofs.YtllijnecmekfeaaGreatDoor
open Go.RowKit
end Go.Proofs.YtllijnecmekfeaaGreatDoor
end

section
set_option maxRecDepth 100000
namespace Go.Proofs.YtllijnecmekfeaaGreatDoor
open Go.RowKit
end Go.Proofs.YtllijnecmekfeaaGreatDoor
end

section
set_option maxRecDepth 100000
namespace Go.Proofs.YtllijnecmekfeaaGreatDoor
open Go.RowKit
end Go.Proofs.YtllijnecmekfeaaGreatDoor
end

section
set_option maxRecDepth 100000
namespace Go.Proofs.YtllijnecmekfeaaGreatDoor
open Go.RowKit Go.Shelf
def allL6 : Tree → Bool
  | .leaf [(false, [.b t])] => t.ev [] == some true
  | .leaf _ => false
  | .ite _ x y => allL6 x && allL6 y
theorem allL6_out {E : Env} {β : Nat → Nat} {w : World} {v : Value} : ∀ {T : Tree}, allL6 T = true → (toAV (T.pick E)).holds E β w v → v = .bool true := by
  intro T
  induction T with
  | leaf l =>
    intro h hh
    unfold allL6 at h
    split at h
    · rename_i t e
      injection e with e
      subst e
      rw [one_bool.1 hh, BT.ev_spec (E := E) no_asm (beq_iff_eq.1 h)]
    · cases h
    · rename_i e
      cases e
  | ite b x y ihx ihy =>
    intro h hh
    simp only [allL6, Bool.and_eq_true] at h
    simp only [Tree.pick] at hh
    split at hh
    · exact ihx h.1 hh
    · exact ihy h.2 hh
def okL6 : Option Tree → Bool
  | some T => allL6 T
  | none => false
theorem okL6_spec {o : Option Tree} (h : okL6 o = true) : ∃ T, o = some T ∧ allL6 T = true := by
  cases o with
  | none => cases h
  | some T => exact ⟨T, rfl, h⟩
theorem aw6_walk : okL6 (funE (cfgW WQ tabAw6) Tryz.f11 [] []) = true := by kernel_rfl
theorem awake6_calls (w : World) (hW : WQ w) : Calls Tryz.prog 11 #[] w (IsT w) := by
  obtain ⟨T, hT, hall⟩ := okL6_spec aw6_walk
  refine (fun_sound (E := qE []) mixed (cfgW_ok (tabAw6_ok (qE_ok _))) no_asm Tryz.func11 (by decide +kernel) hT (by decide +kernel) rfl w [] rfl (fun i x hx => by simp at hx) (fun w' e => hW.ext e)).mono ?_
  rintro e w' ⟨β, u, rfl, hh, ex⟩
  rw [allL6_out hall hh]
  exact ⟨rfl, ex⟩
def kAw6 : Con
  | [], _ => some (.val false [.b (.lit true)])
  | _, _ => none
theorem kAw6_ok {E : Env} : ConW Tryz.prog WQ E 11 kAw6 := by
  refine ⟨?_, ?_, ⟨_, Tryz.func11, by decide +kernel, by kernel_rfl⟩⟩
  · intro args G r h hG β w vs hW hv hlen
    unfold kAw6 at h
    split at h
    · injection h with h
      subst h
      obtain rfl : vs = [] := by simpa using hlen
      refine (awake6_calls w hW).mono ?_
      rintro e w' ⟨rfl, ex⟩
      exact ⟨_, rfl, one_bool.2 rfl, ex⟩
    · cases h
  · intro args G r h x off
    unfold kAw6 at h
    split at h
    · injection h with h; subst h; intro e; cases e
    · cases h
end Go.Proofs.YtllijnecmekfeaaGreatDoor
end

section
set_option maxRecDepth 100000
namespace Go.Proofs.YtllijnecmekfeaaGreatDoor
open Go.RowKit Go.Shelf
structure SurdOK (A B C D E F : Int) : Prop where
  a : -32768 ≤ A ∧ A ≤ 32767
  b : -32768 ≤ B ∧ B ≤ 32767
  c : 0 ≤ C ∧ C ≤ 65535
  d : 0 ≤ D ∧ D ≤ 255
  e : 0 ≤ E ∧ E ≤ 255
  f : 0 ≤ F ∧ F ≤ 255
end Go.Proofs.YtllijnecmekfeaaGreatDoor
end

section
set_option maxRecDepth 100000
namespace Go.Proofs.YtllijnecmekfeaaGreatDoor
open Go.RowKit Go.Shelf
theorem law6_calls {E : Env} {tab : List (Nat × Con)} (hT : TabW Tryz.prog WQ E tab) {G : Asm} (hG : G.holds E) {f : FuncId} {fn : Func} (hf : Tryz.prog.funcs[f]? = some fn) (h4 : fn.results.toList.length ≤ 4) {args : List AV} (hW : okL6 (funE (cfgW WQ tab) fn G args) = true) (hn : args.length ≤ fn.ntmps) (hp : args.all noPtr = true) (w : World) (hw : WQ w) (vs : List Value) (hl : vs.length = args.length)
    (hv : ∀ (i : Nat) (x : AV), args[i]? = some x → ∃ v, vs[i]? = some v ∧ ∀ β, x.holds E β w v) : Calls Tryz.prog f vs.toArray w (IsT w) := by
  obtain ⟨T, hT', hall⟩ := okL6_spec hW
  refine (fun_sound mixed (cfgW_ok hT) hG hf h4 hT' hn hp w vs hl (fun i x hx => ?_) (fun w' e => hw.ext e)).mono ?_
  · obtain ⟨v, h1, h2⟩ := hv i x hx
    exact ⟨fun _ => 0, v, h1, h2 _⟩
  · rintro e w' ⟨β, v, rfl, hh, ex⟩
    rw [allL6_out hall hh]
    exact ⟨rfl, ex⟩
def hf : Rat := Rat.divInt 1 2
theorem Rd.neg {b c : Rat} (R : Rd b c) : Rd (-b) c := by
  rcases R with ⟨h1, h2⟩ | ⟨h1, h2⟩
  · exact .inl ⟨by rw [h1]; rfl, h2⟩
  · exact .inr ⟨fun h => h1 (by grind), h2⟩
section
variable {E : Env} {a b c : Rat}
end
end Go.Proofs.YtllijnecmekfeaaGreatDoor
end

section
set_option maxRecDepth 100000
namespace Go.Proofs.YtllijnecmekfeaaGreatDoor
open Go.RowKit Go.Shelf
end Go.Proofs.YtllijnecmekfeaaGreatDoor
end

section
set_option maxRecDepth 100000
namespace Go.Proofs.YtllijnecmekfeaaGreatDoor
open Go.RowKit Go.Shelf
end Go.Proofs.YtllijnecmekfeaaGreatDoor
end

section
set_option maxRecDepth 100000
namespace Go.Proofs.YtllijnecmekfeaaGreatDoor
open Go.ChangeShapes Go.WideShapes Go.ChangeAt Go.RowKit Go.Joins
def laidL6 : List (String × DataW Unit) := [("math/bits.deBruijn32tab", Rows.laid_math_bits_deBruijn32tab), ("math/bits.deBruijn64tab", Rows.laid_math_bits_deBruijn64tab), ("internal/strconv.uint64pow10", Rows.laid_internal_strconv_uint64pow10), ("unicode/utf8.acceptRanges", Rows.laid_unicode_utf8_acceptRanges), ("unicode/utf8.first", Rows.laid_unicode_utf8_first)]
theorem WT.laid6 {W : World} (h : laidMetH Tryz.prog laidL6 W) : WT W := by
  rw [MakeChecks.laidMetH_plain _ _ _ (by kernel_rfl)] at h
  have h2 := h.tail.tail
  rw [pow10_eq] at h2
  exact Lib.tabIs_of_head (g := 1) (by kernel_rfl) (t := 187) (by kernel_rfl) (n := 20) (e := 109) Tryz.underlying187 Tryz.underlying109 (by kernel_rfl) (by kernel_rfl) h2
theorem WQ.laid6 {W : World} (h : laidMetH Tryz.prog laidL6 W) (hs : W.ShapedOpen Tryz.prog) : WQ W := ⟨WM.shaped hs, WT.laid6 h⟩
theorem all_met (os : Os) (args : Array Value) : laidMetH Tryz.prog laidL6 ((World.laidAll Tryz.prog os laidL6).forCall (fun _ _ => 0) ⟨#[], args, []⟩).memory := by
  rw [MakeChecks.laidMetH_plain _ _ _ (by kernel_rfl)]
  exact laidMet_laidAll _ (by kernel_rfl) (by kernel_rfl)
end Go.Proofs.YtllijnecmekfeaaGreatDoor
end

section
set_option maxRecDepth 100000
namespace Go.Proofs.YtllijnecmekfeaaGreatDoor
open Go.RowKit Go.Shelf
def lays161_ren : Go.Shelf.Ren := ⟨fun | 161 => 107 | 231 => 154 | 227 => 155 | 233 => 156 | 235 => 157 | 228 => 199 | 197 => 200 | 151 => 201 | 260 => 222 | 152 => 223 | 137 => 237 | 119 => 238 | 224 => 197 | 225 => 196 | 217 => 195 | 266 => 220 | n => n, fun | 9 => 9 | 4 => 4 | 3 => 3 | 5 => 5 | 117 => 139 | 116 => 138 | 0 => 0 | 124 => 142 | 105 => 173 | 21 => 21 | 119 => 204 | 46 => 148 | 139 => 207 | 138 => 206 | n => n, fun | 3 => 2 | 4 => 3 | n => n⟩
theorem lays161 : Go.Proofs.Lays.n161 Tryz.prog lays161_ren := {
  mixed := by kernel_rfl
  f119 := Tryz.func238.trans (congrArg some (by kernel_rfl))
  f137 := Tryz.func237.trans (congrArg some (by kernel_rfl))
  f151 := Tryz.func201.trans (congrArg some (by kernel_rfl))
  f152 := Tryz.func223.trans (congrArg some (by kernel_rfl))
  f161 := Tryz.func107.trans (congrArg some (by kernel_rfl))
  f197 := Tryz.func200.trans (congrArg some (by kernel_rfl))
  f217 := Tryz.func195.trans (congrArg some (by kernel_rfl))
  f224 := Tryz.func197.trans (congrArg some (by kernel_rfl))
  f225 := Tryz.func196.trans (congrArg some (by kernel_rfl))
  f227 := Tryz.func155.trans (congrArg some (by kernel_rfl))
  f228 := Tryz.func199.trans (congrArg some (by kernel_rfl))
  f231 := Tryz.func154.trans (congrArg some (by kernel_rfl))
  f233 := Tryz.func156.trans (congrArg some (by kernel_rfl))
  f235 := Tryz.func157.trans (congrArg some (by kernel_rfl))
  f260 := Tryz.func222.trans (congrArg some (by kernel_rfl))
  f266 := Tryz.func220.trans (congrArg some (by kernel_rfl))
  t0 := Tryz.underlying0
  a0 := Tryz.isAgg0
  z0 := Tryz.sizeOf0
  v0 := Tryz.zeroValue0
  t3 := Tryz.underlying3
  a3 := Tryz.isAgg3
  z3 := Tryz.sizeOf3
  v3 := Tryz.zeroValue3
  t4 := Tryz.underlying4
  a4 := Tryz.isAgg4
  z4 := Tryz.sizeOf4
  v4 := Tryz.zeroValue4
  t5 := Tryz.underlying5
  a5 := Tryz.isAgg5
  z5 := Tryz.sizeOf5
  v5 := Tryz.zeroValue5
  t9 := Tryz.underlying9
  a9 := Tryz.isAgg9
  z9 := Tryz.sizeOf9
  v9 := Tryz.zeroValue9
  t21 := Tryz.underlying21
  a21 := Tryz.isAgg21
  z21 := Tryz.sizeOf21
  v21 := Tryz.zeroValue21
  t46 := Tryz.underlying148
  a46 := Tryz.isAgg148
  z46 := Tryz.sizeOf148
  v46 := Tryz.zeroValue148
  t105 := Tryz.underlying173
  a105 := Tryz.isAgg173
  z105 := Tryz.sizeOf173
  v105 := Tryz.zeroValue173
  t116 := Tryz.underlying138
  a116 := Tryz.isAgg138
  z116 := Tryz.sizeOf138
  t117 := Tryz.underlying139
  a117 := Tryz.isAgg139
  z117 := Tryz.sizeOf139
  v117 := Tryz.zeroValue139
  t119 := Tryz.underlying204
  a119 := Tryz.isAgg204
  z119 := Tryz.sizeOf204
  t124 := Tryz.underlying142
  a124 := Tryz.isAgg142
  z124 := Tryz.sizeOf142
  v124 := Tryz.zeroValue142
  t138 := Tryz.underlying206
  a138 := Tryz.isAgg206
  z138 := Tryz.sizeOf206
  v138 := Tryz.zeroValue206
  t139 := Tryz.underlying207
  a139 := Tryz.isAgg207
  z139 := Tryz.sizeOf207
  v139 := Tryz.zeroValue207
  g3 := by kernel_rfl
  g4 := by kernel_rfl }
def digs : List UInt8 := [48, 49, 50, 51, 52, 53, 54, 55, 56, 57]
theorem digs_iff (c : UInt8) : digs.contains c = digB c := by
  have h : ∀ n : Fin 256, digs.contains (UInt8.ofNat n.val) = digB (UInt8.ofNat n.val) := by decide +kernel
  have := h ⟨c.toNat, c.toNat_lt⟩
  rwa [UInt8.ofNat_toNat] at this
theorem trimDig_calls (w : World) (s : ByteArray) : Calls Tryz.prog 107 #[.string s, .string ⟨#[48, 49, 50, 51, 52, 53, 54, 55, 56, 57]⟩] w fun e w' => e = .returned (.string ⟨(s.data.toList.dropWhile digB).toArray⟩) ∧ Ext w w' := by
  refine (Any.strings_TrimLeft_laid lays161 (by kernel_rfl) s ⟨#[48, 49, 50, 51, 52, 53, 54, 55, 56, 57]⟩ w (by decide) (ascii_of_all (by decide))).mono ?_
  rintro e w' ⟨rfl, ex⟩
  refine ⟨?_, ex⟩
  show Ending.returned (.string ⟨(s.data.toList.dropWhile (digs.contains ·)).toArray⟩) = _
  rw [show (fun c => digs.contains c) = digB from funext digs_iff]
theorem trimZero_calls (w : World) (s : ByteArray) : Calls Tryz.prog 107 #[.string s, .string ⟨#[48]⟩] w fun e w' => e = .returned (.string ⟨(Lib.trimLeftB s.data.toList 48).toArray⟩) ∧ w' = w :=
  Any.strings_TrimLeft_one lays161 s 48 (by decide) w
theorem dropWhile_nil {l : List UInt8} {p : UInt8 → Bool} : l.dropWhile p = [] ↔ l.all p = true := by
  induction l with
  | nil => simp
  | cons a l ih =>
    rw [List.dropWhile_cons, List.all_cons]
    cases h : p a <;> simp [ih]
def dgB (l : List UInt8) : Bool := !l.isEmpty && l.all digB
theorem isDigits_calls (w : World) (s : ByteArray) : Calls Tryz.prog 106 #[.string s] w fun e w' => e = .returned (.bool (dgB s.data.toList)) ∧ Ext w w' := by
  cases hl : s.data.toList with
  | nil =>
    have e1 : s.toList = [] := by rw [ByteArray.toList_eq, hl]
    have e2 : s.toList.isEmpty = true := by rw [e1]; rfl
    clear hl
    go_enter Tryz.func106, Tryz.ntmps106
    go_wp2
    go_ret
    exact ⟨rfl, Ext.refl w⟩
  | cons c r =>
    have hne : s.toList.isEmpty = false := by rw [ByteArray.toList_eq, hl]; rfl
    have hne2 : (!s.toList.isEmpty) = true := by rw [hne]; rfl
    have hne3 : ¬ s.toList = [] := by intro e; rw [e] at hne; cases hne
    have ht := trimDig_calls w s
    rw [hl] at ht
    clear hl
    go_enter Tryz.func106, Tryz.ntmps106
    go_wp2_with fail
    refine ht.mono ?_
    rintro e w' ⟨rfl, ex⟩
    cases hd : (c :: r).all digB with
    | true =>
      have hd' : (c :: r).dropWhile digB = [] := dropWhile_nil.2 hd
      rw [hd']
      go_wp2
      go_ret
      refine ⟨?_, ex⟩
      unfold dgB
      rw [hd]
      rfl
    | false =>
      obtain ⟨x, t, hx⟩ : ∃ x t, (c :: r).dropWhile digB = x :: t := by
        cases hh : (c :: r).dropWhile digB with
        | nil => rw [dropWhile_nil.1 hh] at hd; cases hd
        | cons x t => exact ⟨x, t, rfl⟩
      rw [hx]
      obtain ⟨T, hT⟩ : ∃ T : ByteArray, T = ⟨(x :: t).toArray⟩ := ⟨_, rfl⟩
      have tne : T.toList.isEmpty = false := by rw [ByteArray.toList_eq, hT]; rfl
      have tne2 : (!T.toList.isEmpty) = true := by rw [tne]; rfl
      have tne3 : ¬ T.toList = [] := by intro e; rw [e] at tne; cases tne
      rw [← hT]
      clear hT hx
      go_wp2
      go_ret
      refine ⟨?_, ex⟩
      unfold dgB
      rw [hd]
      simp
theorem isFraction_calls (w : World) (s : ByteArray) (hs : s.size ≤ 65536) : Calls Tryz.prog 56 #[.string s] w fun e w' => e = .returned (.bool (dgB s.data.toList && decide (s.size ≤ 30))) ∧ Ext w w' := by
  go_enter Tryz.func56, Tryz.ntmps56
  go_wp2_with fail
  refine (isDigits_calls w s).mono ?_
  rintro e w' ⟨rfl, ex⟩
  cases hd : dgB s.data.toList with
  | false =>
    go_wp2
    go_ret
    exact ⟨by rw [hd]; rfl, ex⟩
  | true =>
    go_wp2
    go_ret
    refine ⟨?_, ex⟩
    rw [hd, Bool.true_and]
    exact congrArg (fun b => Ending.returned (.bool b)) (decide_eq_decide.2 (by omega))
theorem numB_eq (l : List UInt8) : numB l = (l == [48] || (dgB l && !(l.headD 0 == 48))) := by
  unfold numB dgB
  match l with
  | [] => rfl
  | [c] =>
    by_cases hc : c = 48
    · subst hc; rfl
    · have h1 : (c == 48) = false := beq_eq_false_iff_ne.2 hc
      have h2 : (([c] : List UInt8) == [48]) = false := beq_eq_false_iff_ne.2 (fun e => hc (by injection e))
      simp [h1, h2, Bool.and_comm]
  | c :: d :: r =>
    have h2 : ((c :: d :: r) == [48]) = false := beq_eq_false_iff_ne.2 (fun e => by injection e with _ e; cases e)
    simp [h2, Bool.and_comm]
theorem isWhole_calls (w : World) (s : ByteArray) : Calls Tryz.prog 55 #[.string s] w fun e w' => e = .returned (.bool (numB s.data.toList)) ∧ Ext w w' := by
  by_cases hz : s.data.toList = [48]
  · have e1 : s.toList = [48] := by rw [ByteArray.toList_eq, hz]
    have e2 : (s.toList == [48]) = true := by rw [e1]; rfl
    have hn : numB s.data.toList = true := by rw [hz]; rfl
    go_enter Tryz.func55, Tryz.ntmps55
    go_wp2
    go_ret
    exact ⟨by rw [hn]; rfl, Ext.refl w⟩
  · have e1 : ¬ s.toList = [48] := by rw [ByteArray.toList_eq]; exact hz
    have e2 : (s.toList == [48]) = false := beq_eq_false_iff_ne.2 e1
    have hq : (s.data.toList == [48]) = false := beq_eq_false_iff_ne.2 hz
    have hn := numB_eq s.data.toList
    rw [hq, Bool.false_or] at hn
    clear hq hz
    go_enter Tryz.func55, Tryz.ntmps55
    go_wp2_with fail
    refine (isDigits_calls w s).mono ?_
    rintro e w' ⟨rfl, ex⟩
    cases hd : dgB s.data.toList with
    | false =>
      go_wp2
      go_ret
      exact ⟨by rw [hn, hd]; rfl, ex⟩
    | true =>
      obtain ⟨c, r, hl⟩ : ∃ c r, s.data.toList = c :: r := by
        cases hh : s.data.toList with
        | nil => rw [hh] at hd; cases hd
        | cons c r => exact ⟨c, r, rfl⟩
      have hsz : 0 < s.size := by rw [← bytes_len, hl]; simp
      have hx0 : s[0] = c := by
        have : s.data.toList[0]'(by rw [hl]; simp) = c := by simp [hl]
        exact this
      rw [hd, hl, Bool.true_and] at hn
      have hl0 := hl
      clear hd hl
      go_wp2
      go_ret
      refine ⟨?_, ex⟩
      rw [hl0, hn]
      refine congrArg (fun b => Ending.returned (.bool b)) ?_
      show (((c.toNat : Nat) : Int) != 48) = !(c == 48)
      by_cases hc : c = 48
      · subst hc; rfl
      · have h1 : ((c.toNat : Nat) : Int) ≠ 48 := fun e => hc (UInt8.toNat_inj.1 (by show c.toNat = 48; omega))
        rw [bne_iff_ne.2 h1, beq_eq_false_iff_ne.2 hc]
        rfl
def cStr (i : Nat) : List AV → Bool
  | [.val false [.str (.var j) _]] => i == j
  | _ => false
def cStrL (i : Nat) (l : List UInt8) : List AV → Bool
  | [.val false [.str (.var j) _], .val false [.str (.lit m) _]] => i == j && l == m
  | _ => false
theorem str1_known {E : Env} {f i : Nat} {r : AV} (np : ∀ x off, r ≠ .ptr x off) (h : ∀ w, Calls Tryz.prog f #[.string ⟨(E.s i).toArray⟩] w fun e w' => ∃ x, e = .returned x ∧ (∀ β, r.holds E β w' x) ∧ Ext w w') : KnownR E f (cStr i) r := by
  refine ⟨?_, np⟩
  intro args hc β w vs hv hl
  unfold cStr at hc
  split at hc
  · rw [beq_iff_eq] at hc
    subst hc
    obtain ⟨v, rfl, h1⟩ := args1 hv hl
    rw [(one_str.1 h1).1]
    exact h w
  · cases hc
theorem str2_known {E : Env} {f i : Nat} {l : List UInt8} {r : AV} (np : ∀ x off, r ≠ .ptr x off) (h : ∀ w, Calls Tryz.prog f #[.string ⟨(E.s i).toArray⟩, .string ⟨l.toArray⟩] w fun e w' => ∃ x, e = .returned x ∧ (∀ β, r.holds E β w' x) ∧ Ext w w') : KnownR E f (cStrL i l) r := by
  refine ⟨?_, np⟩
  intro args hc β w vs hv hl
  unfold cStrL at hc
  split at hc
  · rw [Bool.and_eq_true, beq_iff_eq, beq_iff_eq] at hc
    obtain ⟨rfl, rfl⟩ := hc
    obtain ⟨v, u, rfl, h1, h2⟩ := args2 hv hl
    rw [(one_str.1 h1).1, (one_str.1 h2).1]
    exact h w
  · cases hc
def tzL (l : List UInt8) : List UInt8 := Lib.trimLeftB l 48
def vO (l : List UInt8) : Int := if tzL l = [] then 0 else pZ (tzL l)
noncomputable def tabVo : List (Nat × Con) := [(107, kKq (cStrL 0 [48]) (.val false [.str (.var 1) 65536]) kNoQ), (108, kKq (cStr 1) (.tup [(true, [.int (.var 0) 7282]), (false, [.n .i64 (.var 1)])]) kNoQ)]
def isVo : Option Tree → Bool
  | some (.ite (.seq (.var 1) (.lit [])) (.leaf [(true, [.int (.lit 0) _])]) (.leaf [(true, [.int (.var 0) _])])) => true
  | _ => false
theorem vo_walk : isVo (funE (cfgOf tabVo) Tryz.f57 [] [.val false [.str (.var 0) 65536]]) = true := by kernel_rfl
theorem tzL_len (l : List UInt8) : (tzL l).length ≤ l.length := by
  unfold tzL Lib.trimLeftB
  exact List.Sublist.length_le (List.dropWhile_sublist _)
theorem dv_zero (l : List UInt8) : dv (48 :: l) = dv l := rfl
theorem dv_tz : ∀ l : List UInt8, dv (tzL l) = dv l
  | [] => rfl
  | c :: l => by
    unfold tzL Lib.trimLeftB
    rw [List.dropWhile_cons]
    split
    · rename_i h
      have hc : c = 48 := by simpa using h
      subst hc
      rw [dv_zero]
      exact dv_tz l
    · rfl
theorem tz_head : ∀ (l : List UInt8) (c : UInt8) (r : List UInt8), tzL l = c :: r → c ≠ 48
  | [], c, r, h => by cases h
  | a :: l, c, r, h => by
    unfold tzL Lib.trimLeftB at h
    rw [List.dropWhile_cons] at h
    split at h
    · exact tz_head l c r h
    · rename_i hne
      injection h with h1 h2
      subst h1
      simpa using hne
theorem tz_all : ∀ (l : List UInt8), l.all digB = true → (tzL l).all digB = true
  | [], h => h
  | a :: l, h => by
    unfold tzL Lib.trimLeftB
    rw [List.dropWhile_cons]
    split
    · rw [List.all_cons, Bool.and_eq_true] at h
      exact tz_all l h.2
    · exact h
theorem vO_dv {l : List UInt8} (hl : l.length ≤ 65536) (h : l.all digB = true) : vO l = dv l := by
  unfold vO
  split
  · rename_i h0
    have := dv_tz l
    rw [h0] at this
    rw [← this]
    rfl
  · rename_i h0
    cases hh : tzL l with
    | nil => exact absurd hh h0
    | cons c r =>
      have hc := tz_head l c r hh
      have ha := tz_all l h
      rw [hh] at ha
      have hl2 := tzL_len l
      rw [hh] at hl2
      have hd : digB c = true := by rw [List.all_cons, Bool.and_eq_true] at ha; exact ha.1
      have hc45 : c ≠ 45 := by rintro rfl; revert hd; decide
      have hneg : negL (c :: r) = false := by
        unfold negL Lib.hasPrefix
        have h45 : ((45 : UInt8) == c) = false := beq_eq_false_iff_ne.2 (fun e => hc45 e.symm)
        simp only [List.isPrefixOf, h45, Bool.false_and]
      have hdig : digL (c :: r) = c :: r := by
        unfold digL Lib.trimPrefix
        have h2 : Lib.hasPrefix (c :: r) [45] = false := hneg
        rw [h2]; rfl
      have hn : numB (c :: r) = true := by
        rw [numB_eq]
        have e1 : ((c :: r).headD 0 == 48) = false := beq_eq_false_iff_ne.2 hc
        rw [e1]
        unfold dgB
        rw [ha]
        cases ((c :: r) == [48]) <;> rfl
      have hok : parseOK (c :: r) = true := by
        unfold parseOK
        rw [hneg, hdig, hn, decide_eq_true (by omega)]
        rfl
      unfold pZ parseV
      rw [if_pos hok, hneg, hdig, ← hh, dv_tz l]
      rfl
theorem bytes_size (l : List UInt8) : (⟨l.toArray⟩ : ByteArray).size = l.length := by simp [ByteArray.size]
theorem dvalueOf_calls (w : World) (l : List UInt8) (hl : l.length ≤ 65536) : Calls Tryz.prog 57 #[.string ⟨l.toArray⟩] w (Ret (fun v w' => IsInt w' v (vO l)) w) := by
  obtain ⟨E, hE⟩ : ∃ E, E = sE [l, tzL l] [pZ (tzL l), pE (tzL l)] [] := ⟨_, rfl⟩
  have s0 : E.s 0 = l := by rw [hE]; rfl
  have s1 : E.s 1 = tzL l := by rw [hE]; rfl
  have i0 : E.i 0 = pZ (tzL l) := by rw [hE]; rfl
  have i1 : E.i 1 = pE (tzL l) := by rw [hE]; rfl
  have ht : (tzL l).length ≤ 65536 := Nat.le_trans (tzL_len l) hl
  have hT : TabOK Tryz.prog E tabVo :=
    .cons (kKr_ok (str2_known (fun x off e => by cases e) fun w => by
      rw [s0]
      refine (trimZero_calls w ⟨l.toArray⟩).mono ?_
      rintro e w' ⟨rfl, rfl⟩
      exact ⟨_, rfl, fun β => one_str.2 ⟨by show _ = Value.string ⟨(E.s 1).toArray⟩; rw [s1]; rfl, by show (E.s 1).length ≤ _; rw [s1]; exact ht⟩, Ext.refl _⟩) (kNoQ_ok ⟨_, Tryz.func107, by decide +kernel, by kernel_rfl⟩)) <|
    .cons (kKr_ok (str1_known (fun x off e => by cases e) fun w => by
      rw [s1]
      refine (parse_list w (tzL l) ht).mono ?_
      rintro e w' ⟨u, rfl, h2, ex⟩
      refine ⟨_, rfl, fun β => ⟨[u, .int .i64 _], rfl, u, _, rfl, one_int.2 ?_, _, _, rfl, one_num.2 ?_, rfl⟩, ex⟩
      · show IsInt w' u (E.i 0) ∧ Lim 7282 (E.i 0)
        rw [i0]
        exact ⟨h2, (pZ_lim ht).mono (by omega)⟩
      · show _ = Value.int .i64 (E.i 1)
        rw [i1]) (kNoQ_ok ⟨_, Tryz.func108, by decide +kernel, by kernel_rfl⟩)) .nil
  have hW := vo_walk
  unfold isVo at hW
  split at hW
  · rename_i l1 l2 hTe
    refine (fun_sound mixed (cfg_ok hT) no_asm Tryz.func57 (by decide +kernel) hTe (by decide +kernel) rfl w [.string ⟨l.toArray⟩] rfl ?_).mono ?_
    · intro i x hx
      match i, hx with
      | 0, hx => injection hx with hx; subst hx; exact ⟨fun _ => 0, _, rfl, one_str.2 ⟨by show _ = Value.string ⟨(E.s 0).toArray⟩; rw [s0], by show (E.s 0).length ≤ _; rw [s0]; exact hl⟩⟩
    · rintro e w' ⟨β, u, rfl, hh, ex⟩
      refine ⟨u, rfl, ?_, ex⟩
      simp only [Tree.pick] at hh
      have hd : (BT.seq (.var 1) (.lit [])).den E = decide (tzL l = []) := by
        show (E.s 1 == []) = _
        rw [s1, Bool.eq_iff_iff, beq_iff_eq, decide_eq_true_iff]
      rw [hd] at hh
      unfold vO
      by_cases h0 : tzL l = []
      · rw [decide_eq_true h0, if_pos rfl] at hh
        rw [if_pos h0]
        exact (one_int.1 hh).1
      · rw [decide_eq_false h0, if_neg (by simp)] at hh
        rw [if_neg h0, ← i0]
        exact (one_int.1 hh).1
  · cases hW
def isLitI (z : Int) : Option Tree → Bool
  | some (.leaf [(true, [.int t m])]) => t.cl == some z && decide (m ≤ 100)
  | _ => false
theorem p10_walk : ((List.range 31).all fun n => isLitI ((10 : Int) ^ n) (funE (cfgOf tabInt) Tryz.f61 [] [.val false [.n .i64 (.lit (n : Int))]])) = true := by kernel_rfl
end Go.Proofs.YtllijnecmekfeaaGreatDoor
end

section
set_option maxRecDepth 100000
namespace Go.Proofs.YtllijnecmekfeaaGreatDoor
open Go.RowKit Go.Shelf
def cCat : List AV → Bool
  | [.val false [.str (.cat (.var 2) (.var 3)) _]] => true
  | _ => false
def cSl3 : List AV → Bool
  | [.val false [.n .i64 (.slen 3)]] => true
  | _ => false
def cZZ (t u : IT) : List AV → Bool
  | [.val true [.int x _], .val true [.int y _]] => x.beq t && y.beq u
  | _ => false
def rPd : AV := .tup [(true, [.int (.var 4) 8000, .int (.var 5) 8000]), (false, [.n .i64 (.lit 0)])]
def sgT (neg : Bool) : IT := if neg then .a1 0 (.var 0) else .var 0
noncomputable def tabPd (ok neg : Bool) : List (Nat × Con) :=
  (53, kKq (cStrL 0 [45]) (.tup [(false, [.str (.var 1) 65536]), (false, [.b (.var 0)])]) kNoQ) ::
  (54, kKq (cStrL 1 [46]) (.tup [(false, [.str (.var 2) 65536]), (false, [.str (.var 3) 65536]), (false, [.b (.var 1)])]) kNoQ) ::
  (55, kKq (cStr 2) (.val false [.b (.var 2)]) kNoQ) :: (56, kKq (cStr 3) (.val false [.b (.var 3)]) kNoQ) ::
  (57, kKq cCat (.val true [.int (.var 0) 7282]) kNoQ) ::
  (61, if ok then kKq cSl3 (.val true [.int (.var 2) 100]) kNoQ else kNoQ) ::
  (60, if ok then kKq (cZZ (sgT neg) (.var 2)) rPd kNoQ else kNoQ) :: tabInt
def gPd (neg pt wh fr z : Bool) : Asm := [(.lt (.lit 65536) (.slen 0), false), (.var 0, neg), (.var 1, pt), (.var 2, wh), (.var 3, fr), (.eq (.a2 3 (.var 0) (.lit 0)) (.lit 0), z)]
def vPd (pt wh fr : Bool) : Bool := wh && (!pt || fr)
def isPdR (ok : Bool) : Option Tree → Bool
  | some (.leaf [(true, [.int (.var 4) _, .int (.var 5) _]), (false, [.n .i64 (.lit 0)])]) => ok
  | some (.leaf [(true, [.int (.lit 0) _, .int (.lit 0) _]), (false, [.n .i64 (.lit 2)])]) => !ok
  | _ => false
noncomputable def pdW (neg pt wh fr z : Bool) : Option Tree := funE (cfgW WQ (tabPd (vPd pt wh fr) neg)) Tryz.f12 (gPd neg pt wh fr z) [.val false [.str (.var 0) 65536]]
theorem pd_walk : (bools.all fun neg => bools.all fun pt => bools.all fun wh => bools.all fun fr => bools.all fun z => isPdR (vPd pt wh fr && !(neg && z)) (pdW neg pt wh fr z)) = true := by kernel_rfl
end Go.Proofs.YtllijnecmekfeaaGreatDoor
end

section
set_option maxRecDepth 100000
namespace Go.Proofs.YtllijnecmekfeaaGreatDoor
open Go.RowKit Go.Shelf
def whD (l : List UInt8) : List UInt8 := (Lib.cut (digL l) [46]).1
def frD (l : List UInt8) : List UInt8 := (Lib.cut (digL l) [46]).2.1
def ptD (l : List UInt8) : Bool := (Lib.cut (digL l) [46]).2.2
def fOK (l : List UInt8) : Bool := dgB (frD l) && decide ((frD l).length ≤ 30)
def nD (l : List UInt8) : Int := vO (whD l ++ frD l)
def sgD (l : List UInt8) : Int := if negL l then -(nD l) else nD l
def qD (l : List UInt8) : Rat := Rat.divInt (sgD l) ((10 : Int) ^ (frD l).length)
def okD (l : List UInt8) : Bool := vPd (ptD l) (numB (whD l)) (fOK l) && !(negL l && decide (nD l = 0))
theorem cut_sum (l s : List UInt8) : (Lib.cut l s).1.length + (Lib.cut l s).2.1.length ≤ l.length := by
  unfold Lib.cut
  split
  · rename_i h
    have := Lib.index_le l s
    simp only [List.length_take, List.length_drop]
    omega
  · simp
theorem fr_nopt (l : List UInt8) (h : ptD l = false) : frD l = [] := by
  unfold ptD at h
  unfold frD
  unfold Lib.cut at h ⊢
  split at h
  · cases h
  · rename_i hn; rw [if_neg hn]
theorem p10_calls (w : World) (n : Nat) (hn : n ≤ 30) : Calls Tryz.prog 61 #[.int .i64 (n : Int)] w (Ret (fun v w' => IsInt w' v ((10 : Int) ^ n) ∧ Lim 100 ((10 : Int) ^ n)) w) := by
  have hW := List.all_eq_true.1 p10_walk n (List.mem_range.2 (by omega))
  unfold isLitI at hW
  split at hW
  · rename_i t m hTe
    rw [Bool.and_eq_true, beq_iff_eq, decide_eq_true_iff] at hW
    refine (fun_sound (E := qE []) mixed (cfg_ok tabInt_ok) no_asm Tryz.func61 (by decide +kernel) hTe (by show 1 ≤ _; decide +kernel) rfl w [.int .i64 (n : Int)] rfl ?_).mono ?_
    · intro i x hx
      match i, hx with
      | 0, hx => injection hx with hx; subst hx; exact ⟨fun _ => 0, _, rfl, one_num.2 rfl⟩
    · rintro e w' ⟨β, v, rfl, hh, ex⟩
      obtain ⟨k1, k2⟩ := one_int.1 hh
      rw [IT.cl_spec hW.1] at k1 k2
      exact ⟨v, rfl, ⟨k1, k2.mono hW.2⟩, ex⟩
  · cases hW
theorem vO_lim {l : List UInt8} (hl : l.length ≤ 65536) : Lim 7282 (vO l) := by
  unfold vO
  split
  · exact lim_zero
  · exact (pZ_lim (Nat.le_trans (tzL_len l) hl)).mono (by omega)
theorem cutW_ok {E : Env} {l : List UInt8} (s1 : E.s 1 = l) (hl : l.length ≤ 65536) (s2 : E.s 2 = (Lib.cut l [46]).1) (s3 : E.s 3 = (Lib.cut l [46]).2.1) (b1 : E.b 1 = (Lib.cut l [46]).2.2) :
    ConW Tryz.prog WQ E 54 (kKq (cStrL 1 [46]) (.tup [(false, [.str (.var 2) 65536]), (false, [.str (.var 3) 65536]), (false, [.b (.var 1)])]) kNoQ) := by
  refine ⟨?_, ?_, ⟨_, Tryz.func54, by decide +kernel, by kernel_rfl⟩⟩
  · intro args G r h hG β w vs hW hv hlen
    unfold kKq at h
    split at h
    · rename_i hc
      injection h with h
      subst h
      unfold cStrL at hc
      split at hc
      · rw [Bool.and_eq_true, beq_iff_eq, beq_iff_eq] at hc
        obtain ⟨rfl, rfl⟩ := hc
        obtain ⟨v, u, rfl, h1, h2⟩ := args2 hv hlen
        rw [(one_str.1 h1).1, (one_str.1 h2).1]
        have hs : (E.s 1).length ≤ 65536 := by rw [s1]; exact hl
        refine (cutS_calls w hW.1 ⟨(E.s 1).toArray⟩ ⟨#[46]⟩ (by rw [bytes_size]; omega)).mono ?_
        rintro e w' ⟨rfl, ex⟩
        have cl := cut_sum l [46]
        refine ⟨_, rfl, ⟨[_, _, _], rfl, _, _, rfl, one_str.2 ⟨?_, ?_⟩, _, _, rfl, one_str.2 ⟨?_, ?_⟩, _, _, rfl, one_bool.2 ?_, rfl⟩, ex⟩
        · show _ = Value.string ⟨(E.s 2).toArray⟩; rw [s2, ← s1]
        · show (E.s 2).length ≤ _; rw [s2]; omega
        · show _ = Value.string ⟨(E.s 3).toArray⟩; rw [s3, ← s1]
        · show (E.s 3).length ≤ _; rw [s3]; omega
        · show _ = Value.bool (E.b 1); rw [b1, ← s1]
      · cases hc
    · cases h
  · intro args G r h x off
    unfold kKq at h
    split at h
    · injection h with h; subst h; intro e; cases e
    · cases h
theorem isPdR_spec {ok : Bool} {o : Option Tree} (h : isPdR ok o = true) : (ok = true ∧ ∃ m k, o = some (.leaf [(true, [.int (.var 4) m, .int (.var 5) k]), (false, [.n .i64 (.lit 0)])])) ∨ (ok = false ∧ ∃ m k, o = some (.leaf [(true, [.int (.lit 0) m, .int (.lit 0) k]), (false, [.n .i64 (.lit 2)])])) := by
  unfold isPdR at h
  split at h
  · exact .inl ⟨h, _, _, rfl⟩
  · exact .inr ⟨by simpa using h, _, _, rfl⟩
  · cases h
def RetPd (l : List UInt8) (w : World) (e : Ending) (w' : World) : Prop := ∃ v, e = .returned (.tuple #[v, .int .i64 (if okD l then 0 else 2)]) ∧ (if okD l then IsRat w' v (qD l) else IsPair w' v 0 0) ∧ Ext w w'
theorem dparse_calls (w : World) (hW : WQ w) (l : List UInt8) (hl : l.length ≤ 65536) : Calls Tryz.prog 12 #[.string ⟨l.toArray⟩] w (RetPd l w) := by
  obtain ⟨E, hE⟩ : ∃ E, E = sE [l, digL l, whD l, frD l] [nD l, 0, (10 : Int) ^ (frD l).length, 0, (qD l).num, ((qD l).den : Int)] [negL l, ptD l, numB (whD l), fOK l] := ⟨_, rfl⟩
  have s0 : E.s 0 = l := by rw [hE]; rfl
  have s1 : E.s 1 = digL l := by rw [hE]; rfl
  have s2 : E.s 2 = whD l := by rw [hE]; rfl
  have s3 : E.s 3 = frD l := by rw [hE]; rfl
  have i0 : E.i 0 = nD l := by rw [hE]; rfl
  have i2 : E.i 2 = (10 : Int) ^ (frD l).length := by rw [hE]; rfl
  have i4 : E.i 4 = (qD l).num := by rw [hE]; rfl
  have i5 : E.i 5 = ((qD l).den : Int) := by rw [hE]; rfl
  have b0 : E.b 0 = negL l := by rw [hE]; rfl
  have b1 : E.b 1 = ptD l := by rw [hE]; rfl
  have b2 : E.b 2 = numB (whD l) := by rw [hE]; rfl
  have b3 : E.b 3 = fOK l := by rw [hE]; rfl
  clear hE
  have dl := digL_len l
  have cl := cut_sum (digL l) [46]
  have hw : (whD l).length ≤ 65536 := by unfold whD; omega
  have hf : (frD l).length ≤ 65536 := by unfold frD; omega
  have hwf : (whD l ++ frD l).length ≤ 65536 := by rw [List.length_append]; unfold whD frD; omega
  have nl : Lim 7282 (nD l) := vO_lim hwf
  have k30 : vPd (ptD l) (numB (whD l)) (fOK l) = true → (frD l).length ≤ 30 := by
    intro h
    unfold vPd at h
    rw [Bool.and_eq_true] at h
    cases hp : ptD l with
    | false => rw [fr_nopt l hp]; simp
    | true =>
      rw [hp] at h
      have h2 : fOK l = true := by simpa using h.2
      unfold fOK at h2
      rw [Bool.and_eq_true, decide_eq_true_iff] at h2
      exact h2.2
  have p0 : (10 : Int) ^ (frD l).length ≠ 0 := Int.ne_of_gt (Int.pow_pos (by decide))
  have cp : ConOK Tryz.prog E 53 (kKq (cStrL 0 [45]) (.tup [(false, [.str (.var 1) 65536]), (false, [.b (.var 0)])]) kNoQ) := kKr_ok (str2_known (fun x off e => by cases e) fun w => by
    rw [s0]
    refine (cut_calls w ⟨l.toArray⟩).mono ?_
    rintro e w' ⟨D, rfl, hD, rfl⟩
    have hD' : D = ⟨(digL l).toArray⟩ := ByteArray.ext (Array.toList_inj.1 hD)
    subst hD'
    exact ⟨_, rfl, fun β => ⟨[_, _], rfl, _, _, rfl, one_str.2 ⟨by show _ = Value.string ⟨(E.s 1).toArray⟩; rw [s1], by show (E.s 1).length ≤ _; rw [s1]; omega⟩, _, _, rfl, one_bool.2 (by show _ = Value.bool (E.b 0); rw [b0]), rfl⟩, Ext.refl _⟩) (kNoQ_ok ⟨_, Tryz.func53, by decide +kernel, by kernel_rfl⟩)
  have ciw : ConOK Tryz.prog E 55 (kKq (cStr 2) (.val false [.b (.var 2)]) kNoQ) := kKr_ok (str1_known (fun x off e => by cases e) fun w => by
    rw [s2]
    refine (isWhole_calls w ⟨(whD l).toArray⟩).mono ?_
    rintro e w' ⟨rfl, ex⟩
    exact ⟨_, rfl, fun β => one_bool.2 (by show _ = Value.bool (E.b 2); rw [b2]), ex⟩) (kNoQ_ok ⟨_, Tryz.func55, by decide +kernel, by kernel_rfl⟩)
  have cif : ConOK Tryz.prog E 56 (kKq (cStr 3) (.val false [.b (.var 3)]) kNoQ) := kKr_ok (str1_known (fun x off e => by cases e) fun w => by
    rw [s3]
    refine (isFraction_calls w ⟨(frD l).toArray⟩ (by rw [bytes_size]; exact hf)).mono ?_
    rintro e w' ⟨rfl, ex⟩
    exact ⟨_, rfl, fun β => one_bool.2 (by show _ = Value.bool (E.b 3); rw [b3, bytes_size]; rfl), ex⟩) (kNoQ_ok ⟨_, Tryz.func56, by decide +kernel, by kernel_rfl⟩)
  have cvo : ConOK Tryz.prog E 57 (kKq cCat (.val true [.int (.var 0) 7282]) kNoQ) := by
    refine kKr_ok ⟨?_, fun x off e => by cases e⟩ (kNoQ_ok ⟨_, Tryz.func57, by decide +kernel, by kernel_rfl⟩)
    intro args hc β w vs hv hlen
    unfold cCat at hc
    split at hc
    · obtain ⟨v, rfl, h1⟩ := args1 hv hlen
      have e := (one_str.1 h1).1
      have e2 : (ST.cat (.var 2) (.var 3)).den E = whD l ++ frD l := by show E.s 2 ++ E.s 3 = _; rw [s2, s3]
      rw [e2] at e
      subst e
      refine (dvalueOf_calls w (whD l ++ frD l) hwf).mono ?_
      rintro e w' ⟨v, rfl, hv, ex⟩
      exact ⟨v, rfl, fun β => one_int.2 (by show IsInt w' v (E.i 0) ∧ Lim 7282 (E.i 0); rw [i0]; exact ⟨hv, nl⟩), ex⟩
    · cases hc
  have hT : TabW Tryz.prog WQ E (tabPd (vPd (ptD l) (numB (whD l)) (fOK l)) (negL l)) := by
    refine .cons cp.toW <| .cons (cutW_ok (l := digL l) s1 (by omega) s2 s3 b1) <| .cons ciw.toW <| .cons cif.toW <| .cons cvo.toW <| .cons (ConOK.toW ?_) <| .cons (ConOK.toW ?_) tabInt_ok.toW
    · split
      · rename_i hok
        have hk := k30 hok
        refine kKr_ok ⟨?_, fun x off e => by cases e⟩ (kNoQ_ok ⟨_, Tryz.func61, by decide +kernel, by kernel_rfl⟩)
        intro args hc β w vs hv hlen
        unfold cSl3 at hc
        split at hc
        · obtain ⟨v, rfl, h1⟩ := args1 hv hlen
          have e := one_num.1 h1
          have e2 : (IT.slen 3).den E = ((frD l).length : Int) := by show ((E.s 3).length : Int) = _; rw [s3]
          rw [e2] at e
          subst e
          refine (p10_calls w _ hk).mono ?_
          rintro e w' ⟨v, rfl, hv, ex⟩
          exact ⟨v, rfl, fun β => one_int.2 (by show IsInt w' v (E.i 2) ∧ Lim 100 (E.i 2); rw [i2]; exact hv), ex⟩
        · cases hc
      · exact kNoQ_ok ⟨_, Tryz.func61, by decide +kernel, by kernel_rfl⟩
    · split
      · rename_i hok
        have hk := k30 hok
        refine kKr_ok ⟨?_, fun x off e => by cases e⟩ (kNoQ_ok ⟨_, Tryz.func60, by decide +kernel, by kernel_rfl⟩)
        intro args hc β w vs hv hlen
        unfold cZZ at hc
        split at hc
        · rw [Bool.and_eq_true] at hc
          have e1 := IT.eq_of_beq hc.1
          have e2 := IT.eq_of_beq hc.2
          subst e1 e2
          obtain ⟨v, u, rfl, h1, h2⟩ := args2 hv hlen
          have k1 := (one_int.1 h1).1
          have k2 := (one_int.1 h2).1
          have d1 : (sgT (negL l)).den E = sgD l := by
            unfold sgT sgD
            cases negL l
            · exact i0
            · show -(E.i 0) = -(nD l); rw [i0]
          have d2 : (IT.var 2).den E = (10 : Int) ^ (frD l).length := i2
          rw [d1] at k1
          rw [d2] at k2
          have sl : Lim 7282 (sgD l) := by
            unfold sgD
            split
            · exact nl.neg
            · exact nl
          have pl : Lim 100 ((10 : Int) ^ (frD l).length) := by
            refine limbs_len_le ?_
            rw [Int.natAbs_pow]
            refine Nat.lt_of_le_of_lt (Nat.pow_le_pow_right (by decide) hk) ?_
            decide +kernel
          refine (make_calls w v u (sgD l) _ k1 k2 (sl.mono (by omega)) (pl.mono (by omega))).mono ?_
          rintro e w' ⟨x, y, z, t, rfl, j1, j2, ex⟩
          have q2 := divInt_lim sl pl p0
          have de0 : de ((10 : Int) ^ (frD l).length) = 0 := by unfold de; rw [if_neg p0]
          have dz : denZ (sgD l) ((10 : Int) ^ (frD l).length) = ((qD l).den : Int) := by unfold denZ; rw [if_neg p0]; rfl
          refine ⟨_, rfl, fun β => ⟨[.agg #[x, y, z, t], .int .i64 _], rfl, _, _, rfl, ⟨[x, y, z, t], rfl, [x, y], [z, t], rfl, ⟨x, y, rfl, ?_, ?_⟩, [z, t], [], rfl, ⟨z, t, rfl, ?_, ?_⟩, rfl⟩, _, _, rfl, one_num.2 ?_, rfl⟩, ex⟩
          · show IsInt w' _ (E.i 4); rw [i4]; exact j1
          · show Lim 8000 (E.i 4); rw [i4]; exact q2.1.mono (by omega)
          · show IsInt w' _ (E.i 5); rw [i5, ← dz]; exact j2
          · show Lim 8000 (E.i 5); rw [i5]; exact q2.2.mono (by omega)
          · rw [de0]; rfl
        · cases hc
      · exact kNoQ_ok ⟨_, Tryz.func60, by decide +kernel, by kernel_rfl⟩
  have hG : (gPd (negL l) (ptD l) (numB (whD l)) (fOK l) (decide (nD l = 0))).holds E := by
    refine asm_and ?_ <| asm_and b0 <| asm_and b1 <| asm_and b2 <| asm_and b3 <| asm_and ?_ asm_nil
    · show decide ((65536 : Int) < ((E.s 0).length : Int)) = false
      rw [s0, decide_eq_false_iff_not]; omega
    · show (cmpZ (E.i 0) 0 == 0) = decide (nD l = 0)
      rw [i0, Bool.eq_iff_iff, beq_iff_eq, decide_eq_true_iff]
      exact cmp_eq0 _
  have hWk := List.all_eq_true.1 (List.all_eq_true.1 (List.all_eq_true.1 (List.all_eq_true.1 (List.all_eq_true.1 pd_walk _ (bools_mem (negL l))) _ (bools_mem (ptD l))) _ (bools_mem (numB (whD l)))) _ (bools_mem (fOK l))) _ (bools_mem (decide (nD l = 0)))
  have run : ∀ T, pdW (negL l) (ptD l) (numB (whD l)) (fOK l) (decide (nD l = 0)) = some T → Calls Tryz.prog 12 #[.string ⟨l.toArray⟩] w fun e w' => ∃ β v, e = .returned v ∧ (toAV (T.pick E)).holds E β w' v ∧ Ext w w' := by
    intro T hTe
    refine fun_sound mixed (cfgW_ok hT) hG Tryz.func12 (by decide +kernel) hTe (by decide +kernel) rfl w [.string ⟨l.toArray⟩] rfl (fun i x hx => ?_) (fun w' e => hW.ext e)
    match i, hx with
    | 0, hx => injection hx with hx; subst hx; exact ⟨fun _ => 0, _, rfl, one_str.2 ⟨by show _ = Value.string ⟨(E.s 0).toArray⟩; rw [s0], by show (E.s 0).length ≤ _; rw [s0]; exact hl⟩⟩
  have hok : okD l = (vPd (ptD l) (numB (whD l)) (fOK l) && !(negL l && decide (nD l = 0))) := rfl
  rw [← hok] at hWk
  rcases isPdR_spec hWk with ⟨ho, m, k, hTe⟩ | ⟨ho, m, k, hTe⟩
  · refine (run _ hTe).mono ?_
    rintro e w' ⟨β, v, rfl, ⟨vs, rfl, u1, r1, rfl, k1, u2, r2, rfl, k2, hn⟩, ex⟩
    simp only [tupAll] at hn
    subst hn
    have k2' : u2 = .int .i64 0 := one_num.1 k2
    subst k2'
    refine ⟨u1, by rw [ho]; rfl, ?_, ex⟩
    rw [if_pos ho]
    obtain ⟨x, y, z, t, rfl, j1, _, j2, _⟩ := one_rat.1 k1
    have j1' : IsInt w' (.agg #[x, y]) (E.i 4) := j1
    have j2' : IsInt w' (.agg #[z, t]) (E.i 5) := j2
    rw [i4] at j1'
    rw [i5] at j2'
    exact ⟨x, y, z, t, rfl, j1', j2'⟩
  · refine (run _ hTe).mono ?_
    rintro e w' ⟨β, v, rfl, ⟨vs, rfl, u1, r1, rfl, k1, u2, r2, rfl, k2, hn⟩, ex⟩
    simp only [tupAll] at hn
    subst hn
    have k2' : u2 = .int .i64 2 := one_num.1 k2
    subst k2'
    refine ⟨u1, by rw [ho]; rfl, ?_, ex⟩
    rw [if_neg (by rw [ho]; simp)]
    obtain ⟨x, y, z, t, rfl, j1, _, j2, _⟩ := one_rat.1 k1
    exact ⟨x, y, z, t, rfl, j1, j2⟩
end Go.Proofs.YtllijnecmekfeaaGreatDoor
end

section
set_option maxRecDepth 100000
namespace Go.Proofs.YtllijnecmekfeaaGreatDoor
open Go.RowKit Go.Shelf
theorem ba_tail {t : ByteArray} {c : UInt8} {r : List UInt8} (h : t.data.toList = c :: r) : (t.extract 1 t.size).data.toList = r ∧ (t.extract 1 t.size).size + 1 = t.size := by
  have hl : r.length + 1 = t.size := by rw [← bytes_len, h, List.length_cons]
  have e : (t.extract 1 t.size).data.toList = r := by
    rw [ByteArray.data_extract, Array.toList_extract, h, List.extract_eq_take_drop]
    show List.take _ r = r
    exact List.take_of_length_le (by omega)
  exact ⟨e, by rw [← bytes_len, e, hl]⟩
end Go.Proofs.YtllijnecmekfeaaGreatDoor
end

section
set_option maxRecDepth 100000
namespace Go.Proofs.YtllijnecmekfeaaGreatDoor
open Go.RowKit Go.Shelf
theorem limb_at {zs : List Nat} (h : Dig zs) (k : Nat) (hk : k < zs.length) : zs.getD k 0 = val zs / 1000000000 ^ k % 1000000000 := by
  have e1 := val_split zs k (by omega)
  have e2 := val_drop zs k hk
  have e3 : val (zs.take k) < 1000000000 ^ k := by
    have := val_lt (h.take k)
    rwa [List.length_take, Nat.min_eq_left (by omega)] at this
  have e4 := h k
  have hp : 0 < 1000000000 ^ k := Nat.pow_pos (by omega)
  rw [e1, Nat.add_mul_div_left _ _ hp, Nat.div_eq_of_lt e3, Nat.zero_add, e2]
  omega
def ParR (w : World) (g m : Nat) (D : List UInt8) (i : Nat) (wr : World) : Prop :=
  ∃ zs : List Nat, zs.length = m ∧ Dig zs ∧ Blk wr g zs ∧ Ext w wr ∧ val zs = dv (D.take i) * 10 ^ (D.length - i)
theorem ParR.at_ {w : World} {g m : Nat} {D : List UInt8} {i : Nat} {wr : World} (h : ParR w g m D i wr) (hg : w.heap.size ≤ g) (hm : m = D.length / 9 + 1) (hi : i < D.length) (c : UInt8) (ht : D.take (i + 1) = D.take i ++ [c]) (hc : c.toNat - 48 ≤ 9) (k p : Nat) (hk : k = (D.length - 1 - i) / 9) (hp : p = (D.length - 1 - i) % 9) :
    ∃ z : Nat, z + (c.toNat - 48) * 10 ^ p < 1000000000 ∧ wr.cell? ⟨g, k, none⟩ = some (.int .u32 (z : Int)) ∧ wr.frozen? ⟨g, k, none⟩ = false ∧ k < m ∧
      Hid (∀ (nq : Nat) (V : Int), V = ((z + (c.toNat - 48) * 10 ^ p : Nat) : Int) → ParR w g m D (i + 1) ((wr.drewN nq).setCell ⟨g, k, none⟩ (.int .u32 V))) := by
  obtain ⟨zs, h1, h2, h3, h4, h5⟩ := h
  have hkm : k < zs.length := by rw [h1]; omega
  have hz := limb_at h2 k hkm
  generalize hd : c.toNat - 48 = d at *
  have hat : D.length - i = 9 * k + (p + 1) := by omega
  have hB : (1000000000 : Nat) ^ k = 10 ^ (9 * k) := by rw [Nat.pow_mul]
  have hpk : 0 < 10 ^ (9 * k) := Nat.pow_pos (by omega)
  have hX : (10 : Nat) ^ (p + 1) = 10 * 10 ^ p := by rw [Nat.pow_succ, Nat.mul_comm]
  have hXY : (1000000000 : Nat) = 10 ^ (p + 1) * 10 ^ (8 - p) := by rw [← Nat.pow_add, show p + 1 + (8 - p) = 9 by omega]
  have hzz : zs.getD k 0 = 10 ^ (p + 1) * (dv (D.take i) % 10 ^ (8 - p)) := by
    rw [hz, h5, hat, Nat.pow_add, hB, Nat.mul_left_comm, Nat.mul_div_cancel_left _ hpk, Nat.mul_comm (dv _)]
    conv => lhs; rw [hXY]
    rw [Nat.mul_mod_mul_left]
  have hbd : zs.getD k 0 + d * 10 ^ p < 1000000000 := by
    have hY : 0 < 10 ^ (8 - p) := Nat.pow_pos (by omega)
    have hq := Nat.mod_lt (dv (D.take i)) hY
    have e1 : 10 ^ (p + 1) * (dv (D.take i) % 10 ^ (8 - p) + 1) ≤ 10 ^ (p + 1) * 10 ^ (8 - p) := Nat.mul_le_mul_left _ hq
    rw [← hXY, Nat.mul_add, Nat.mul_one, ← hzz] at e1
    have e2 : d * 10 ^ p ≤ 9 * 10 ^ p := Nat.mul_le_mul_right _ hc
    have e3 : 0 < 10 ^ p := Nat.pow_pos (by omega)
    omega
  refine ⟨zs.getD k 0, hbd, h3.cell k hkm, h3.frozen k, by omega, fun nq V hV => ?_⟩
  have h3' : Blk (wr.drewN nq) g zs := h3
  refine ⟨zs.set k (zs.getD k 0 + d * 10 ^ p), by simpa using h1, h2.set k hbd, h3'.set' _ _ hkm hV, (h4.drewN nq).setCell (p := ⟨g, k, none⟩) hg _, ?_⟩
  have e := val_set zs k (zs.getD k 0 + d * 10 ^ p) hkm
  rw [ht, dv_snoc, hd]
  have e1 : 10 ^ (D.length - (i + 1)) = 10 ^ (9 * k) * 10 ^ p := by rw [← Nat.pow_add]; congr 1; omega
  have e2 : val zs = dv (D.take i) * 10 * (10 ^ (9 * k) * 10 ^ p) := by
    rw [h5, hat, Nat.pow_add, hX, Nat.mul_assoc, Nat.mul_left_comm (10 ^ (9 * k))]
  rw [e1, Nat.add_mul, ← e2]
  rw [Nat.mul_add, hB] at e
  have e3 : 10 ^ (9 * k) * (d * 10 ^ p) = d * (10 ^ (9 * k) * 10 ^ p) := by rw [Nat.mul_left_comm]
  omega
theorem negL_cons (c : UInt8) (r : List UInt8) : negL (c :: r) = (c == 45) ∧ digL (c :: r) = if c == 45 then r else c :: r := by
  unfold negL digL Lib.trimPrefix Lib.hasPrefix
  by_cases h : c = 45
  · subst h; simp
  · have : (c == 45) = false := by rw [beq_eq_false_iff_ne]; exact h
    simp [this, List.isPrefixOf]
    exact fun e => h e.symm
theorem parse_early (l : List UInt8) (h : 65536 < l.length ∨ digL l = [] ∨ (digL l).headD 0 = 48 ∧ l ≠ [48]) : parseOK l = false := by
  unfold parseOK
  rcases h with h | h | ⟨h1, h2⟩
  · rw [decide_eq_false (by omega), Bool.false_and]
  · have : numB (digL l) = false := by rw [h]; rfl
    rw [this, Bool.false_and, Bool.and_false]
  · cases hd : digL l with
    | nil => rw [hd] at h1; cases h1
    | cons c r =>
      rw [hd] at h1
      have hc : c = 48 := h1
      subst hc
      cases r with
      | cons a t =>
        have : numB (48 :: a :: t) = false := by simp [numB]
        rw [this, Bool.false_and, Bool.and_false]
      | nil =>
        have hn : negL l = true := by
          cases l with
          | nil => cases hd
          | cons x t =>
            obtain ⟨e1, e2⟩ := negL_cons x t
            rw [e1]
            cases hx : (x == 45) with
            | true => rfl
            | false =>
              rw [hx] at e2
              exact absurd (e2.symm.trans hd) h2
        rw [hn]
        simp
theorem parse_late (l : List UInt8) (h1 : l.length ≤ 65536) (h2 : digL l ≠ []) (h3 : (digL l).headD 0 = 48 → l = [48]) : parseOK l = (digL l).all digB := by
  unfold parseOK
  rw [decide_eq_true h1, Bool.true_and]
  by_cases h : (digL l).headD 0 = 48
  · rw [h3 h]
    rfl
  · cases hd : digL l with
    | nil => exact absurd hd h2
    | cons c r =>
      rw [hd] at h
      have hc : (c == 48) = false := by rw [beq_eq_false_iff_ne]; exact h
      have e1 : ((c :: r) == [48]) = false := by
        rw [beq_eq_false_iff_ne]
        intro e
        injection e with e _
        exact h e
      rw [e1, Bool.and_false]
      unfold numB
      simp only [List.headD_cons, hc, Bool.false_and, Bool.not_false, Bool.true_and, Bool.and_true, List.isEmpty_cons]
set_option maxRecDepth 100000 in
set_option maxHeartbeats 6400000 in
theorem rparse_calls (w : World) (s : ByteArray) (hs : s.size ≤ 9223372036854775807) : Calls Tryz.prog 63 #[.string s] w (RetParse s.data.toList w) := by
  obtain ⟨W, hW, eW, hz, r0, r1, f0, f1⟩ := res_new w 25
  rcases Nat.eq_zero_or_pos s.size with h0 | h0
  · have hl : s.data.toList = [] := List.eq_nil_of_length_eq_zero (by rw [bytes_len]; exact h0)
    have HB : Hid (parseOK s.data.toList = false) := by unfold Hid; rw [hl]; rfl
    have e1 : s.toList = [] := by rw [ByteArray.toList_eq, hl]
    have e2 : s.toList.isEmpty = true := by rw [e1]; rfl
    have hfin : Ext w ((W.setCell ⟨w.heap.size, 0, none⟩ (.bool false)).setCell ⟨w.heap.size, 1, none⟩ (.slice none 0 0)) := (eW.setCell (p := ⟨w.heap.size, 0, none⟩) (Nat.le_refl _) _).setCell (p := ⟨w.heap.size, 1, none⟩) (Nat.le_refl _) _
    have HF := Lib.hid hfin
    clear hl hfin hs
    go_enter Tryz.func63, Tryz.ntmps63
    go_wp2
    exact bodyPost_ret (v := .tuple #[.agg #[.bool false, .slice none 0 0], .int .i64 2]) (by simp [results, Tryz.results63, go_sem, r0, r1]) rfl ⟨_, by rw [HB.out]; rfl, by rw [HB.out]; exact isInt_zero _, HF.out⟩
  · obtain ⟨c, r, hl⟩ : ∃ c r, s.data.toList = c :: r := by
      cases hh : s.data.toList with
      | nil => have := bytes_len s; rw [hh] at this; simp at this; omega
      | cons c r => exact ⟨c, r, rfl⟩
    have hc0 : s[0] = c := by
      have : s.data.toList[0]'(by rw [hl]; simp) = c := by simp [hl]
      exact this
    have g1 : (0 : Int) < (s.size : Int) := by omega
    have hfin : Ext w ((W.setCell ⟨w.heap.size, 0, none⟩ (.bool false)).setCell ⟨w.heap.size, 1, none⟩ (.slice none 0 0)) := (eW.setCell (p := ⟨w.heap.size, 0, none⟩) (Nat.le_refl _) _).setCell (p := ⟨w.heap.size, 1, none⟩) (Nat.le_refl _) _
    have HF := Lib.hid hfin
    clear hfin hs
    by_cases hc : c = 45
    · have g0 : ((s[0].toNat : Int) == 45) = true := by rw [hc0, hc]; rfl
      obtain ⟨D, hex⟩ : ∃ D, s.extract 1 s.size = D := ⟨_, rfl⟩
      have HDL : D.data.toList = digL s.data.toList := by
        rw [← hex, (ba_tail hl).1, hl, (negL_cons c r).2, hc]
        rfl
      have HNN : negL s.data.toList = true := by rw [hl, (negL_cons c r).1, hc]; rfl
      have hDs : D.size ≤ s.size := by have := (ba_tail hl).2; rw [hex] at this; omega
      clear hc hc0 hl
      have HDl : Hid (D.data.toList = digL s.data.toList) := HDL
      have HN : Hid (negL s.data.toList = true) := HNN
      clear HDL HNN
      rcases Nat.eq_zero_or_pos D.size with d0 | d0
      · have hl : D.data.toList = [] := List.eq_nil_of_length_eq_zero (by rw [bytes_len]; exact d0)
        have HB : Hid (parseOK s.data.toList = false) := parse_early _ (.inr (.inl (by rw [← HDl.out, hl])))
        have e1 : D.toList = [] := by rw [ByteArray.toList_eq, hl]
        have e2 : D.toList.isEmpty = true := by rw [e1]; rfl
        clear hl
        go_enter Tryz.func63, Tryz.ntmps63
        go_wp2
        exact bodyPost_ret (v := .tuple #[.agg #[.bool false, .slice none 0 0], .int .i64 2]) (by simp [results, Tryz.results63, go_sem, r0, r1]) rfl ⟨_, by rw [HB.out]; rfl, by rw [HB.out]; exact isInt_zero _, HF.out⟩
      have hne : D.toList.isEmpty = false := by
        rw [ByteArray.toList_eq]
        cases hh : D.data.toList with
        | nil => have := bytes_len D; rw [hh] at this; simp at this; omega
        | cons c r => rfl
      have hne2 : (!D.toList.isEmpty) = true := by rw [hne]; rfl
      have hne3 : ¬ D.toList = [] := by intro e; rw [e] at hne; cases hne
      obtain ⟨x, r', hx⟩ : ∃ x r, D.data.toList = x :: r := by
        cases hh : D.data.toList with
        | nil => have := bytes_len D; rw [hh] at this; simp at this; omega
        | cons c r => exact ⟨c, r, rfl⟩
      have hx0 : D[0] = x := by
        have : D.data.toList[0]'(by rw [hx]; simp) = x := by simp [hx]
        exact this
      have HX := Lib.hid hx
      clear hx
      by_cases hbig : 65536 < s.size
      · have g2 : (65536 : Int) < (s.size : Int) := by omega
        have HB : Hid (parseOK s.data.toList = false) := parse_early _ (.inl (by rw [bytes_len]; exact hbig))
        clear hbig hx0
        go_enter Tryz.func63, Tryz.ntmps63
        go_wp2
        exact bodyPost_ret (v := .tuple #[.agg #[.bool false, .slice none 0 0], .int .i64 2]) (by simp [results, Tryz.results63, go_sem, r0, r1]) rfl ⟨_, by rw [HB.out]; rfl, by rw [HB.out]; exact isInt_zero _, HF.out⟩
      have g2 : ¬ (65536 : Int) < (s.size : Int) := by omega
      by_cases hear : x = 48 ∧ s.data.toList ≠ [48]
      · have f48 : ((D[0].toNat : Int) == 48) = true := by rw [hx0, hear.1]; rfl
        have HB : Hid (parseOK s.data.toList = false) := parse_early _ (.inr (.inr ⟨by rw [← HDl.out, HX.out]; exact hear.1, hear.2⟩))
        have hq : (s.toList == [48]) = false := by rw [ByteArray.toList_eq, beq_eq_false_iff_ne]; exact hear.2
        have hq2 : ¬ s.toList = [48] := by rw [ByteArray.toList_eq]; exact hear.2
        clear hear hbig hx0
        go_enter Tryz.func63, Tryz.ntmps63
        go_wp2
        exact bodyPost_ret (v := .tuple #[.agg #[.bool false, .slice none 0 0], .int .i64 2]) (by simp [results, Tryz.results63, go_sem, r0, r1]) rfl ⟨_, by rw [HB.out]; rfl, by rw [HB.out]; exact isInt_zero _, HF.out⟩
      have HP : Hid (parseOK s.data.toList = D.data.toList.all digB) := by
        refine (parse_late s.data.toList (by rw [bytes_len]; omega) (by rw [← HDl.out, HX.out]; simp) ?_).trans (congrArg (fun l => List.all l digB) HDl.out.symm)
        intro e
        rw [← HDl.out, HX.out] at e
        exact Decidable.byContradiction fun h => hear ⟨e, h⟩
      have hcase : ((D[0].toNat : Int) == 48) = false ∨ (((D[0].toNat : Int) == 48) = true ∧ (s.toList == [48]) = true ∧ s.toList = [48]) := by
        by_cases h48 : x = 48
        · refine .inr ⟨by rw [hx0, h48]; rfl, ?_⟩
          have : s.data.toList = [48] := Decidable.byContradiction fun h => hear ⟨h48, h⟩
          rw [ByteArray.toList_eq, this]
          exact ⟨rfl, rfl⟩
        · refine .inl ?_
          rw [hx0, beq_eq_false_iff_ne]
          intro e
          exact h48 (UInt8.toNat_inj.1 (by have : (48 : UInt8).toNat = 48 := rfl; omega))
      clear hear hx0
      obtain ⟨q, hqd⟩ : ∃ q, q = D.size / 9 := ⟨_, rfl⟩
      have hsb : D.size ≤ 65536 := by have := hDs; omega
      have hq1 : (D.size : Int) / 9 = (q : Int) := by omega
      have hq2 : (D.size : Int).tdiv 9 = (q : Int) := by rw [Int.tdiv_eq_ediv_of_nonneg (by omega)]; omega
      have hqb : (q : Int) ≤ 8000 := by omega
      have hmk := run_mk (q + 1) (by omega) ((q : Int) + 1) (by omega)
      have HQ := Lib.hid hqd
      have hDL := Lib.hid (bytes_len D)
      have HZ := Lib.hid hz
      have HE := Lib.hid eW
      clear hqd hbig hz eW
      rcases hcase with h48 | ⟨h48, h48', h48''⟩
      all_goals
        go_enter Tryz.func63, Tryz.ntmps63
        go_wp2_with fail
        clear hmk hq1 hq2
        have h0 : ParR W (w.heap.size + 1) (q + 1) D.data.toList 0 (W.alloc (.cells (u32s (List.replicate (q + 1) 0)) 103)) := by
          refine ⟨_, List.length_replicate .., Dig.replicate _, ?_, (Ext.refl W).alloc _, ?_⟩
          · have := Blk.new W (List.replicate (q + 1) 0)
            rwa [HZ.out] at this
          · have : ∀ n, val (List.replicate n 0) = 0 := by
              intro n; induction n with
              | zero => rfl
              | succ n ih => rw [List.replicate_succ, val, ih]
            rw [this]; simp [dv]
        have H0 := Lib.hid h0
        clear h0
        go_loopw [6, 7, 8, 9] (fun i _ _ _ wr => ∃ k : Nat, k ≤ D.size ∧ i = .int .i64 k ∧ ParR W (w.heap.size + 1) (q + 1) D.data.toList k wr ∧ Hid (((D.data.toList.take k).all digB) = true)) (fun i _ _ _ _ => D.size - (intOf i).toNat)
        case atStart => exact ⟨0, Nat.zero_le _, rfl, H0.out, rfl⟩
        case round =>
          obtain ⟨k, hk, rfl, hR, HA⟩ := hrel
          by_cases hlt : k < D.size
          · obtain ⟨t, hct⟩ : ∃ t, t = D[k] := ⟨_, rfl⟩
            have hlk : D.data.toList[k]? = some t := by rw [hct]; exact List.getElem?_eq_getElem (by rw [hDL.out]; exact hlt)
            by_cases hdg : digB t = true
            · have hdg' := hdg
              unfold digB at hdg
              rw [Bool.and_eq_true, decide_eq_true_iff, decide_eq_true_iff] at hdg
              have b1 : ¬ ((D[k].toNat : Int) < 48) := by rw [← hct]; omega
              have b2 : ¬ ((57 : Int) < (D[k].toNat : Int)) := by rw [← hct]; omega
              obtain ⟨d, hd⟩ : ∃ d, d = t.toNat - 48 := ⟨_, rfl⟩
              have hdI : (D[k].toNat : Int) - 48 = (d : Int) := by rw [← hct]; omega
              obtain ⟨a, ha⟩ : ∃ a, a = D.size - 1 - k := ⟨_, rfl⟩
              obtain ⟨kk, hkk⟩ : ∃ kk, kk = a / 9 := ⟨_, rfl⟩
              obtain ⟨p, hp⟩ : ∃ p, p = a % 9 := ⟨_, rfl⟩
              have ht := bytes_take D k hlt
              rw [← hct] at ht
              obtain ⟨z, hzb, hzc, hzf, hkm, HST⟩ := hR.at_ (by have := HZ.out; omega) (by rw [hDL.out, HQ.out]) (by rw [hDL.out]; exact hlt) t ht (by omega) kk p (by rw [hDL.out]; omega) (by rw [hDL.out]; omega)
              have eR : Ext W wr := by obtain ⟨zs, _, _, _, h, _⟩ := hR; exact h
              have hA' : Hid ((D.data.toList.take (k + 1)).all digB = true) := by
                unfold Hid
                rw [ht, List.all_append, HA.out]
                simpa using hdg'
              obtain ⟨P, hP⟩ : ∃ P, P = 10 ^ p := ⟨_, rfl⟩
              have hPb : P ≤ 100000000 := by rw [hP]; have := Nat.pow_le_pow_right (n := 10) (by omega) (show p ≤ 8 by omega); omega
              obtain ⟨e, he⟩ : ∃ e, e = d * P := ⟨_, rfl⟩
              have heb : e ≤ 9 * 100000000 := by rw [he]; exact Nat.mul_le_mul (by omega) hPb
              have heI : (d : Int) * (P : Int) = (e : Int) := by rw [he, Int.natCast_mul]
              rw [← hd, ← hP, ← he] at hzb HST
              have hz1 : (z : Int) ≤ 999999999 := by omega
              have hze : (z : Int) + (e : Int) ≤ 999999999 := by omega
              have he1 : (e : Int) ≤ 900000000 := by omega
              have hd9 : (d : Int) ≤ 9 := by omega
              have hPI : (P : Int) ≤ 100000000 := by omega
              have haI : (D.size : Int) - 1 - (k : Int) = (a : Int) := by omega
              have hk1 : (a : Int) / 9 = (kk : Int) := by omega
              have hk2 : (a : Int).tdiv 9 = (kk : Int) := by rw [Int.tdiv_eq_ediv_of_nonneg (by omega)]; omega
              have hp1 : (a : Int) % 9 = (p : Int) := by omega
              have hp2 : (a : Int).tmod 9 = (p : Int) := by rw [Int.tmod_eq_emod_of_nonneg (by omega)]; omega
              have hp8 : p ≤ 8 := by omega
              have hab : (a : Int) ≤ 65536 := by omega
              have hkI : (kk : Int) < (q : Int) + 1 := by omega
              have hltI : (k : Int) < (D.size : Int) := by omega
              have HPE := Lib.hid hP
              have hWs := HZ.out
              have HWs := Lib.hid hWs
              rw [← hWs] at hzc hzf HST
              clear hdg hdg' hd ha hkk hp ht hR HA hct hlk hP he hzb hPb heb hWs hW eR
              go_wp2
              go_loop [8, 9] (fun pw j => ∃ i Q : Nat, i ≤ p ∧ j = .int .i64 i ∧ pw = .int .u32 Q ∧ (Q : Int) ≤ 100000000 ∧ Hid (Q = 10 ^ i)) (fun _ j => p - (intOf j).toNat)
              case atStart => exact ⟨0, 1, Nat.zero_le _, rfl, rfl, by omega, rfl⟩
              case round =>
                obtain ⟨i, Q, hi, rfl, rfl, hQb, HQi⟩ := hrel
                by_cases hip : i < p
                · have hipI : (i : Int) < (p : Int) := by omega
                  have hQ10 : Hid (((Q * 10 : Nat) : Int) ≤ 100000000) := by
                    unfold Hid
                    have e1 : Q * 10 = 10 ^ (i + 1) := by rw [HQi.out, Nat.pow_succ]
                    rw [e1]
                    have := Nat.pow_le_pow_right (n := 10) (by omega) (show i + 1 ≤ 8 by omega)
                    omega
                  go_wp2
                  go_round
                  case rel =>
                    refine ⟨i + 1, Q * 10, by omega, by go_num, by go_num, hQ10.out, ?_⟩
                    unfold Hid
                    rw [HQi.out, Nat.pow_succ]
                  case measure => simp [intOf]; omega
                · have e1 : i = p := by omega
                  subst e1
                  have e2 : Q = P := by rw [HQi.out, HPE.out]
                  subst e2
                  have hst := HST.out 1
                  have hzc' : (wr.drew).cell? ⟨W.heap.size, kk, none⟩ = some (.int .u32 (z : Int)) := hzc
                  have hzf' : (wr.drew).frozen? ⟨W.heap.size, kk, none⟩ = false := hzf
                  have hst' : ∀ V : Int, V = ((z + e : Nat) : Int) → ParR W W.heap.size (q + 1) D.data.toList (k + 1) ((wr.drew).setCell ⟨W.heap.size, kk, none⟩ (.int .u32 V)) := hst
                  have HST2 := Lib.hid hst'
                  clear hst hst' HST hzc hzf
                  have w1 : IntKind.i64.wrap (kk : Int) = (kk : Int) := IntWalk.i64_in _ (by omega)
                  have w2 : IntKind.i64.wrap ((a : Int).tdiv 9) = (kk : Int) := by rw [hk2]; exact w1
                  have w2' : IntKind.i64.wrap ((a : Int) / 9) = (kk : Int) := by rw [hk1]; exact w1
                  have w3 : IntKind.u8.wrap (d : Int) = (d : Int) := IntWalk.u8_in _ (by omega)
                  have w4 : IntKind.u8.wrap ((D[k].toNat : Int) - 48) = (d : Int) := by rw [hdI]; exact w3
                  have w5 : IntKind.u32.wrap (d : Int) = (d : Int) := IntWalk.u32_in _ (by omega)
                  have w6 : IntKind.u32.wrap (e : Int) = (e : Int) := IntWalk.u32_in _ (by omega)
                  have w7 : IntKind.u32.wrap ((d : Int) * (Q : Int)) = (e : Int) := by rw [heI]; exact w6
                  have w8 : IntKind.u32.wrap ((z : Int) + (e : Int)) = (z : Int) + (e : Int) := IntWalk.u32_in _ (by omega)
                  have w9 : 0 ≤ (kk : Int) := by omega
                  go_wp2
                  go_still_tail 17, (by kernel_rfl)
                  change wpList _ _ _ _ _ wr.drew
                  generalize wr.drew = w2 at *
                  go_wp2
                  go_roundw
                  case rel => exact ⟨k + 1, by omega, by go_num, by rw [← HWs.out]; exact HST2.out _ (by omega), hA'⟩
                  case measure => simp [intOf]; omega
            · have HB : Hid (parseOK s.data.toList = false) := by
                unfold Hid
                rw [HP.out, Bool.eq_false_iff]
                intro e
                exact hdg (List.all_eq_true.1 e t (List.mem_of_getElem? hlk))
              have hcs : ((D[k].toNat : Int) < 48) ∨ (¬ ((D[k].toNat : Int) < 48) ∧ (57 : Int) < (D[k].toNat : Int)) := by
                rw [← hct]
                unfold digB at hdg
                simp only [Bool.and_eq_true, decide_eq_true_iff] at hdg
                omega
              have eR : Ext W wr := by obtain ⟨zs, _, _, _, h, _⟩ := hR; exact h
              have hWs := HZ.out
              have r0' := eR.cell r0
              have r1' := eR.cell r1
              have f0' := eR.frozen (p := ⟨w.heap.size, 0, none⟩) (by show w.heap.size < W.heap.size; omega) f0
              have f1' := eR.frozen (p := ⟨w.heap.size, 1, none⟩) (by show w.heap.size < W.heap.size; omega) f1
              have hfin : Ext w ((wr.setCell ⟨w.heap.size, 0, none⟩ (.bool false)).setCell ⟨w.heap.size, 1, none⟩ (.slice none 0 0)) := ((HE.out.trans eR).setCell (p := ⟨w.heap.size, 0, none⟩) (Nat.le_refl _) _).setCell (p := ⟨w.heap.size, 1, none⟩) (Nat.le_refl _) _
              have HF := Lib.hid hfin
              have hltI : (k : Int) < (D.size : Int) := by omega
              clear hfin hWs hdg hct hlk hR HA r0 r1 f0 f1 hW eR
              rcases hcs with hc1 | ⟨hc1, hc2⟩
              · go_wp2
                exact bodyPost_ret (v := .tuple #[.agg #[.bool false, .slice none 0 0], .int .i64 2]) (by simp [results, Tryz.results63, go_sem, r0', r1']) rfl ⟨_, by rw [HB.out]; rfl, by rw [HB.out]; exact isInt_zero _, HF.out⟩
              · go_wp2
                exact bodyPost_ret (v := .tuple #[.agg #[.bool false, .slice none 0 0], .int .i64 2]) (by simp [results, Tryz.results63, go_sem, r0', r1']) rfl ⟨_, by rw [HB.out]; rfl, by rw [HB.out]; exact isInt_zero _, HF.out⟩
          · have e : k = D.size := by omega
            subst e
            have hall : D.data.toList.all digB = true := by have := HA.out; rwa [bytes_all] at this
            have HB : Hid (parseOK s.data.toList = true) := by unfold Hid; rw [HP.out]; exact hall
            obtain ⟨zs, h1, h2, h3, eR, h5⟩ := hR
            have HZV : Hid (val zs = dv D.data.toList) := by
              unfold Hid
              rw [h5, bytes_all, hDL.out, Nat.sub_self, Nat.pow_zero, Nat.mul_one]
            have HV : Hid (parseV s.data.toList = sgn true (val zs)) := by
              unfold Hid parseV
              rw [HN.out, HZV.out]
              exact congrArg (fun l => sgn true (dv l)) HDl.out.symm
            have hWs := HZ.out
            have hsg : Calls Tryz.prog 90 #[.bool true, .slice (some ⟨W.heap.size, 0, none⟩) (q + 1) (q + 1)] wr (Ret (fun v w' => IsInt w' v (sgn true (val zs))) wr) := by
              have := rsigned_calls wr true (some ⟨w.heap.size + 1, 0, none⟩) zs (q + 1) (by omega) (by omega) h3.cells h2
              rwa [h1, ← hWs] at this
            have HSG := Lib.hid hsg
            have r0' := eR.cell r0
            have r1' := eR.cell r1
            have f0' := eR.frozen (p := ⟨w.heap.size, 0, none⟩) (by show w.heap.size < W.heap.size; omega) f0
            have f1' := eR.frozen (p := ⟨w.heap.size, 1, none⟩) (by show w.heap.size < W.heap.size; omega) f1
            have HEE := Lib.hid (HE.out.trans eR)
            clear hsg h1 h2 h3 h5 hall HA hWs r0 r1 f0 f1 hW eR
            go_wp2_with fail
            refine HSG.out.mono ?_
            rintro e' w1 ⟨v3, rfl, hI, e3⟩
            obtain ⟨ao3, cap3, s3, n3, rfl, _⟩ := IsInt.open_ hI
            replace f0' := e3.frozen (lt_of_cell r0') f0'
            replace f1' := e3.frozen (lt_of_cell r1') f1'
            replace r0' := e3.cell r0'
            replace r1' := e3.cell r1'
            go_wp2
            obtain ⟨u, hu, hu2, hu3⟩ := fin_int hI r0' r1' (Nat.le_refl _) (HEE.out.trans e3)
            injection hu with hu
            subst hu
            exact bodyPost_ret (v := .tuple #[.agg #[.bool s3, .slice ao3 (limbs n3).length cap3], .int .i64 0]) (by simp [results, Tryz.results63, go_sem, r0', r1']) rfl ⟨_, by rw [HB.out]; rfl, by rw [HB.out, if_pos rfl, HV.out]; exact hu2, hu3⟩
    · have g0 : ((s[0].toNat : Int) == 45) = false := by
        rw [hc0, beq_eq_false_iff_ne]
        intro e
        exact hc (UInt8.toNat_inj.1 (by have : (45 : UInt8).toNat = 45 := rfl; omega))
      have hc' : (c == 45) = false := by rw [beq_eq_false_iff_ne]; exact hc
      have HDL : s.data.toList = digL s.data.toList := by
        rw [hl, (negL_cons c r).2, hc']
        rfl
      have HNN : negL s.data.toList = false := by rw [hl, (negL_cons c r).1, hc']
      clear hc hc0 hl hc'
      have HDl : Hid (s.data.toList = digL s.data.toList) := HDL
      have HN : Hid (negL s.data.toList = false) := HNN
      clear HDL HNN
      rcases Nat.eq_zero_or_pos s.size with d0 | d0
      · exfalso; omega
      have hne : s.toList.isEmpty = false := by
        rw [ByteArray.toList_eq]
        cases hh : s.data.toList with
        | nil => have := bytes_len s; rw [hh] at this; simp at this; omega
        | cons c r => rfl
      have hne2 : (!s.toList.isEmpty) = true := by rw [hne]; rfl
      have hne3 : ¬ s.toList = [] := by intro e; rw [e] at hne; cases hne
      obtain ⟨x, r', hx⟩ : ∃ x r, s.data.toList = x :: r := by
        cases hh : s.data.toList with
        | nil => have := bytes_len s; rw [hh] at this; simp at this; omega
        | cons c r => exact ⟨c, r, rfl⟩
      have hx0 : s[0] = x := by
        have : s.data.toList[0]'(by rw [hx]; simp) = x := by simp [hx]
        exact this
      have HX := Lib.hid hx
      clear hx
      by_cases hbig : 65536 < s.size
      · have g2 : (65536 : Int) < (s.size : Int) := by omega
        have HB : Hid (parseOK s.data.toList = false) := parse_early _ (.inl (by rw [bytes_len]; exact hbig))
        clear hbig hx0
        go_enter Tryz.func63, Tryz.ntmps63
        go_wp2
        exact bodyPost_ret (v := .tuple #[.agg #[.bool false, .slice none 0 0], .int .i64 2]) (by simp [results, Tryz.results63, go_sem, r0, r1]) rfl ⟨_, by rw [HB.out]; rfl, by rw [HB.out]; exact isInt_zero _, HF.out⟩
      have g2 : ¬ (65536 : Int) < (s.size : Int) := by omega
      by_cases hear : x = 48 ∧ s.data.toList ≠ [48]
      · have f48 : ((s[0].toNat : Int) == 48) = true := by rw [hx0, hear.1]; rfl
        have HB : Hid (parseOK s.data.toList = false) := parse_early _ (.inr (.inr ⟨by rw [← HDl.out, HX.out]; exact hear.1, hear.2⟩))
        have hq : (s.toList == [48]) = false := by rw [ByteArray.toList_eq, beq_eq_false_iff_ne]; exact hear.2
        have hq2 : ¬ s.toList = [48] := by rw [ByteArray.toList_eq]; exact hear.2
        clear hear hbig hx0
        go_enter Tryz.func63, Tryz.ntmps63
        go_wp2
        exact bodyPost_ret (v := .tuple #[.agg #[.bool false, .slice none 0 0], .int .i64 2]) (by simp [results, Tryz.results63, go_sem, r0, r1]) rfl ⟨_, by rw [HB.out]; rfl, by rw [HB.out]; exact isInt_zero _, HF.out⟩
      have HP : Hid (parseOK s.data.toList = s.data.toList.all digB) := by
        refine (parse_late s.data.toList (by rw [bytes_len]; omega) (by rw [← HDl.out, HX.out]; simp) ?_).trans (congrArg (fun l => List.all l digB) HDl.out.symm)
        intro e
        rw [← HDl.out, HX.out] at e
        exact Decidable.byContradiction fun h => hear ⟨e, h⟩
      have hcase : ((s[0].toNat : Int) == 48) = false ∨ (((s[0].toNat : Int) == 48) = true ∧ (s.toList == [48]) = true ∧ s.toList = [48]) := by
        by_cases h48 : x = 48
        · refine .inr ⟨by rw [hx0, h48]; rfl, ?_⟩
          have : s.data.toList = [48] := Decidable.byContradiction fun h => hear ⟨h48, h⟩
          rw [ByteArray.toList_eq, this]
          exact ⟨rfl, rfl⟩
        · refine .inl ?_
          rw [hx0, beq_eq_false_iff_ne]
          intro e
          exact h48 (UInt8.toNat_inj.1 (by have : (48 : UInt8).toNat = 48 := rfl; omega))
      clear hear hx0
      obtain ⟨q, hqd⟩ : ∃ q, q = s.size / 9 := ⟨_, rfl⟩
      have hsb : s.size ≤ 65536 := by omega
      have hq1 : (s.size : Int) / 9 = (q : Int) := by omega
      have hq2 : (s.size : Int).tdiv 9 = (q : Int) := by rw [Int.tdiv_eq_ediv_of_nonneg (by omega)]; omega
      have hqb : (q : Int) ≤ 8000 := by omega
      have hmk := run_mk (q + 1) (by omega) ((q : Int) + 1) (by omega)
      have HQ := Lib.hid hqd
      have hDL := Lib.hid (bytes_len s)
      have HZ := Lib.hid hz
      have HE := Lib.hid eW
      clear hqd hbig hz eW
      rcases hcase with h48 | ⟨h48, h48', h48''⟩
      all_goals
        go_enter Tryz.func63, Tryz.ntmps63
        go_wp2_with fail
        clear hmk hq1 hq2
        have h0 : ParR W (w.heap.size + 1) (q + 1) s.data.toList 0 (W.alloc (.cells (u32s (List.replicate (q + 1) 0)) 103)) := by
          refine ⟨_, List.length_replicate .., Dig.replicate _, ?_, (Ext.refl W).alloc _, ?_⟩
          · have := Blk.new W (List.replicate (q + 1) 0)
            rwa [HZ.out] at this
          · have : ∀ n, val (List.replicate n 0) = 0 := by
              intro n; induction n with
              | zero => rfl
              | succ n ih => rw [List.replicate_succ, val, ih]
            rw [this]; simp [dv]
        have H0 := Lib.hid h0
        clear h0
        go_loopw [6, 7, 8, 9] (fun i _ _ _ wr => ∃ k : Nat, k ≤ s.size ∧ i = .int .i64 k ∧ ParR W (w.heap.size + 1) (q + 1) s.data.toList k wr ∧ Hid (((s.data.toList.take k).all digB) = true)) (fun i _ _ _ _ => s.size - (intOf i).toNat)
        case atStart => exact ⟨0, Nat.zero_le _, rfl, H0.out, rfl⟩
        case round =>
          obtain ⟨k, hk, rfl, hR, HA⟩ := hrel
          by_cases hlt : k < s.size
          · obtain ⟨t, hct⟩ : ∃ t, t = s[k] := ⟨_, rfl⟩
            have hlk : s.data.toList[k]? = some t := by rw [hct]; exact List.getElem?_eq_getElem (by rw [hDL.out]; exact hlt)
            by_cases hdg : digB t = true
            · have hdg' := hdg
              unfold digB at hdg
              rw [Bool.and_eq_true, decide_eq_true_iff, decide_eq_true_iff] at hdg
              have b1 : ¬ ((s[k].toNat : Int) < 48) := by rw [← hct]; omega
              have b2 : ¬ ((57 : Int) < (s[k].toNat : Int)) := by rw [← hct]; omega
              obtain ⟨d, hd⟩ : ∃ d, d = t.toNat - 48 := ⟨_, rfl⟩
              have hdI : (s[k].toNat : Int) - 48 = (d : Int) := by rw [← hct]; omega
              obtain ⟨a, ha⟩ : ∃ a, a = s.size - 1 - k := ⟨_, rfl⟩
              obtain ⟨kk, hkk⟩ : ∃ kk, kk = a / 9 := ⟨_, rfl⟩
              obtain ⟨p, hp⟩ : ∃ p, p = a % 9 := ⟨_, rfl⟩
              have ht := bytes_take s k hlt
              rw [← hct] at ht
              obtain ⟨z, hzb, hzc, hzf, hkm, HST⟩ := hR.at_ (by have := HZ.out; omega) (by rw [hDL.out, HQ.out]) (by rw [hDL.out]; exact hlt) t ht (by omega) kk p (by rw [hDL.out]; omega) (by rw [hDL.out]; omega)
              have eR : Ext W wr := by obtain ⟨zs, _, _, _, h, _⟩ := hR; exact h
              have hA' : Hid ((s.data.toList.take (k + 1)).all digB = true) := by
                unfold Hid
                rw [ht, List.all_append, HA.out]
                simpa using hdg'
              obtain ⟨P, hP⟩ : ∃ P, P = 10 ^ p := ⟨_, rfl⟩
              have hPb : P ≤ 100000000 := by rw [hP]; have := Nat.pow_le_pow_right (n := 10) (by omega) (show p ≤ 8 by omega); omega
              obtain ⟨e, he⟩ : ∃ e, e = d * P := ⟨_, rfl⟩
              have heb : e ≤ 9 * 100000000 := by rw [he]; exact Nat.mul_le_mul (by omega) hPb
              have heI : (d : Int) * (P : Int) = (e : Int) := by rw [he, Int.natCast_mul]
              rw [← hd, ← hP, ← he] at hzb HST
              have hz1 : (z : Int) ≤ 999999999 := by omega
              have hze : (z : Int) + (e : Int) ≤ 999999999 := by omega
              have he1 : (e : Int) ≤ 900000000 := by omega
              have hd9 : (d : Int) ≤ 9 := by omega
              have hPI : (P : Int) ≤ 100000000 := by omega
              have haI : (s.size : Int) - 1 - (k : Int) = (a : Int) := by omega
              have hk1 : (a : Int) / 9 = (kk : Int) := by omega
              have hk2 : (a : Int).tdiv 9 = (kk : Int) := by rw [Int.tdiv_eq_ediv_of_nonneg (by omega)]; omega
              have hp1 : (a : Int) % 9 = (p : Int) := by omega
              have hp2 : (a : Int).tmod 9 = (p : Int) := by rw [Int.tmod_eq_emod_of_nonneg (by omega)]; omega
              have hp8 : p ≤ 8 := by omega
              have hab : (a : Int) ≤ 65536 := by omega
              have hkI : (kk : Int) < (q : Int) + 1 := by omega
              have hltI : (k : Int) < (s.size : Int) := by omega
              have HPE := Lib.hid hP
              have hWs := HZ.out
              have HWs := Lib.hid hWs
              rw [← hWs] at hzc hzf HST
              clear hdg hdg' hd ha hkk hp ht hR HA hct hlk hP he hzb hPb heb hWs hW eR
              go_wp2
              go_loop [8, 9] (fun pw j => ∃ i Q : Nat, i ≤ p ∧ j = .int .i64 i ∧ pw = .int .u32 Q ∧ (Q : Int) ≤ 100000000 ∧ Hid (Q = 10 ^ i)) (fun _ j => p - (intOf j).toNat)
              case atStart => exact ⟨0, 1, Nat.zero_le _, rfl, rfl, by omega, rfl⟩
              case round =>
                obtain ⟨i, Q, hi, rfl, rfl, hQb, HQi⟩ := hrel
                by_cases hip : i < p
                · have hipI : (i : Int) < (p : Int) := by omega
                  have hQ10 : Hid (((Q * 10 : Nat) : Int) ≤ 100000000) := by
                    unfold Hid
                    have e1 : Q * 10 = 10 ^ (i + 1) := by rw [HQi.out, Nat.pow_succ]
                    rw [e1]
                    have := Nat.pow_le_pow_right (n := 10) (by omega) (show i + 1 ≤ 8 by omega)
                    omega
                  go_wp2
                  go_round
                  case rel =>
                    refine ⟨i + 1, Q * 10, by omega, by go_num, by go_num, hQ10.out, ?_⟩
                    unfold Hid
                    rw [HQi.out, Nat.pow_succ]
                  case measure => simp [intOf]; omega
                · have e1 : i = p := by omega
                  subst e1
                  have e2 : Q = P := by rw [HQi.out, HPE.out]
                  subst e2
                  have hst := HST.out 1
                  have hzc' : (wr.drew).cell? ⟨W.heap.size, kk, none⟩ = some (.int .u32 (z : Int)) := hzc
                  have hzf' : (wr.drew).frozen? ⟨W.heap.size, kk, none⟩ = false := hzf
                  have hst' : ∀ V : Int, V = ((z + e : Nat) : Int) → ParR W W.heap.size (q + 1) s.data.toList (k + 1) ((wr.drew).setCell ⟨W.heap.size, kk, none⟩ (.int .u32 V)) := hst
                  have HST2 := Lib.hid hst'
                  clear hst hst' HST hzc hzf
                  have w1 : IntKind.i64.wrap (kk : Int) = (kk : Int) := IntWalk.i64_in _ (by omega)
                  have w2 : IntKind.i64.wrap ((a : Int).tdiv 9) = (kk : Int) := by rw [hk2]; exact w1
                  have w2' : IntKind.i64.wrap ((a : Int) / 9) = (kk : Int) := by rw [hk1]; exact w1
                  have w3 : IntKind.u8.wrap (d : Int) = (d : Int) := IntWalk.u8_in _ (by omega)
                  have w4 : IntKind.u8.wrap ((s[k].toNat : Int) - 48) = (d : Int) := by rw [hdI]; exact w3
                  have w5 : IntKind.u32.wrap (d : Int) = (d : Int) := IntWalk.u32_in _ (by omega)
                  have w6 : IntKind.u32.wrap (e : Int) = (e : Int) := IntWalk.u32_in _ (by omega)
                  have w7 : IntKind.u32.wrap ((d : Int) * (Q : Int)) = (e : Int) := by rw [heI]; exact w6
                  have w8 : IntKind.u32.wrap ((z : Int) + (e : Int)) = (z : Int) + (e : Int) := IntWalk.u32_in _ (by omega)
                  have w9 : 0 ≤ (kk : Int) := by omega
                  go_wp2
                  go_still_tail 17, (by kernel_rfl)
                  change wpList _ _ _ _ _ wr.drew
                  generalize wr.drew = w2 at *
                  go_wp2
                  go_roundw
                  case rel => exact ⟨k + 1, by omega, by go_num, by rw [← HWs.out]; exact HST2.out _ (by omega), hA'⟩
                  case measure => simp [intOf]; omega
            · have HB : Hid (parseOK s.data.toList = false) := by
                unfold Hid
                rw [HP.out, Bool.eq_false_iff]
                intro e
                exact hdg (List.all_eq_true.1 e t (List.mem_of_getElem? hlk))
              have hcs : ((s[k].toNat : Int) < 48) ∨ (¬ ((s[k].toNat : Int) < 48) ∧ (57 : Int) < (s[k].toNat : Int)) := by
                rw [← hct]
                unfold digB at hdg
                simp only [Bool.and_eq_true, decide_eq_true_iff] at hdg
                omega
              have eR : Ext W wr := by obtain ⟨zs, _, _, _, h, _⟩ := hR; exact h
              have hWs := HZ.out
              have r0' := eR.cell r0
              have r1' := eR.cell r1
              have f0' := eR.frozen (p := ⟨w.heap.size, 0, none⟩) (by show w.heap.size < W.heap.size; omega) f0
              have f1' := eR.frozen (p := ⟨w.heap.size, 1, none⟩) (by show w.heap.size < W.heap.size; omega) f1
              have hfin : Ext w ((wr.setCell ⟨w.heap.size, 0, none⟩ (.bool false)).setCell ⟨w.heap.size, 1, none⟩ (.slice none 0 0)) := ((HE.out.trans eR).setCell (p := ⟨w.heap.size, 0, none⟩) (Nat.le_refl _) _).setCell (p := ⟨w.heap.size, 1, none⟩) (Nat.le_refl _) _
              have HF := Lib.hid hfin
              have hltI : (k : Int) < (s.size : Int) := by omega
              clear hfin hWs hdg hct hlk hR HA r0 r1 f0 f1 hW eR
              rcases hcs with hc1 | ⟨hc1, hc2⟩
              · go_wp2
                exact bodyPost_ret (v := .tuple #[.agg #[.bool false, .slice none 0 0], .int .i64 2]) (by simp [results, Tryz.results63, go_sem, r0', r1']) rfl ⟨_, by rw [HB.out]; rfl, by rw [HB.out]; exact isInt_zero _, HF.out⟩
              · go_wp2
                exact bodyPost_ret (v := .tuple #[.agg #[.bool false, .slice none 0 0], .int .i64 2]) (by simp [results, Tryz.results63, go_sem, r0', r1']) rfl ⟨_, by rw [HB.out]; rfl, by rw [HB.out]; exact isInt_zero _, HF.out⟩
          · have e : k = s.size := by omega
            subst e
            have hall : s.data.toList.all digB = true := by have := HA.out; rwa [bytes_all] at this
            have HB : Hid (parseOK s.data.toList = true) := by unfold Hid; rw [HP.out]; exact hall
            obtain ⟨zs, h1, h2, h3, eR, h5⟩ := hR
            have HZV : Hid (val zs = dv s.data.toList) := by
              unfold Hid
              rw [h5, bytes_all, hDL.out, Nat.sub_self, Nat.pow_zero, Nat.mul_one]
            have HV : Hid (parseV s.data.toList = sgn false (val zs)) := by
              unfold Hid parseV
              rw [HN.out, HZV.out]
              exact congrArg (fun l => sgn false (dv l)) HDl.out.symm
            have hWs := HZ.out
            have hsg : Calls Tryz.prog 90 #[.bool false, .slice (some ⟨W.heap.size, 0, none⟩) (q + 1) (q + 1)] wr (Ret (fun v w' => IsInt w' v (sgn false (val zs))) wr) := by
              have := rsigned_calls wr false (some ⟨w.heap.size + 1, 0, none⟩) zs (q + 1) (by omega) (by omega) h3.cells h2
              rwa [h1, ← hWs] at this
            have HSG := Lib.hid hsg
            have r0' := eR.cell r0
            have r1' := eR.cell r1
            have f0' := eR.frozen (p := ⟨w.heap.size, 0, none⟩) (by show w.heap.size < W.heap.size; omega) f0
            have f1' := eR.frozen (p := ⟨w.heap.size, 1, none⟩) (by show w.heap.size < W.heap.size; omega) f1
            have HEE := Lib.hid (HE.out.trans eR)
            clear hsg h1 h2 h3 h5 hall HA hWs r0 r1 f0 f1 hW eR
            go_wp2_with fail
            refine HSG.out.mono ?_
            rintro e' w1 ⟨v3, rfl, hI, e3⟩
            obtain ⟨ao3, cap3, s3, n3, rfl, _⟩ := IsInt.open_ hI
            replace f0' := e3.frozen (lt_of_cell r0') f0'
            replace f1' := e3.frozen (lt_of_cell r1') f1'
            replace r0' := e3.cell r0'
            replace r1' := e3.cell r1'
            go_wp2
            obtain ⟨u, hu, hu2, hu3⟩ := fin_int hI r0' r1' (Nat.le_refl _) (HEE.out.trans e3)
            injection hu with hu
            subst hu
            exact bodyPost_ret (v := .tuple #[.agg #[.bool s3, .slice ao3 (limbs n3).length cap3], .int .i64 0]) (by simp [results, Tryz.results63, go_sem, r0', r1']) rfl ⟨_, by rw [HB.out]; rfl, by rw [HB.out, if_pos rfl, HV.out]; exact hu2, hu3⟩
end Go.Proofs.YtllijnecmekfeaaGreatDoor
end

section
set_option maxRecDepth 100000
namespace Go.Proofs.YtllijnecmekfeaaGreatDoor
open Go.RowKit Go.Shelf
def scanP (n : Nat) : List UInt8 → Nat → Nat → Bool → Option (Nat × Bool)
  | [], _, dot, nz => some (dot, nz)
  | c :: r, i, dot, nz => if c = 46 ∧ dot = n then scanP n r (i + 1) i nz else if digB c then scanP n r (i + 1) dot (nz || !(c == 48)) else none
def endP' (D : List UInt8) (m : Nat) : Option (Nat × Bool) → Int
  | none => -1
  | some (dot, nz) => if dot = 0 ∨ (1 < dot ∧ D.headD 0 = 48) ∨ (D.length < m ∧ nz = false) then -1 else if dot = D.length then 0 else if D.length - dot - 1 < 1 ∨ 30 < D.length - dot - 1 then -1 else ((D.length - dot - 1 : Nat) : Int)
def plD (l : List UInt8) : Int := if 65536 < l.length then -1 else endP' (digL l) l.length (scanP (digL l).length (digL l) 0 (digL l).length false)
set_option maxRecDepth 100000 in
set_option maxHeartbeats 1600000 in
theorem places_other (w : World) (s : ByteArray) (hs : s.size ≤ 65536) (h0 : 0 < s.size) (hc : ((s[0].toNat : Int) == 45) = false) (hD : digL s.data.toList = s.data.toList) : Calls Tryz.prog 62 #[.string s] w fun e w' => e = .returned (.int .i64 (plD s.data.toList)) ∧ w' = w := by
  have hR : Hid (plD s.data.toList = endP' s.data.toList s.size (scanP s.size s.data.toList 0 s.size false)) := by
    unfold Hid plD
    rw [hD, bytes_len, if_neg (by omega)]
  clear hD
  have g2 : ¬ (65536 : Int) < (s.size : Int) := by omega
  have HS := Lib.hid hs
  have HL := Lib.hid (bytes_len s)
  go_enter Tryz.func62, Tryz.ntmps62
  go_wp2
  go_loop [4, 5, 6] (fun d z i => ∃ (k dt : Nat) (nz : Bool), k ≤ s.size ∧ dt ≤ s.size ∧ i = .int .i64 k ∧ d = .int .i64 dt ∧ z = .bool nz ∧ Hid (scanP s.size (s.data.toList.drop k) k dt nz = scanP s.size s.data.toList 0 s.size false)) (fun _ _ i => s.size - (intOf i).toNat)
  case atStart => exact ⟨0, s.size, false, Nat.zero_le _, Nat.le_refl _, rfl, rfl, rfl, rfl⟩
  case round =>
    obtain ⟨k, dt, nz, hk, hdt, rfl, rfl, rfl, HK⟩ := hrel
    by_cases hlt : k < s.size
    · have HC : Hid (s.data.toList.drop k = s[k] :: s.data.toList.drop (k + 1)) := List.drop_eq_getElem_cons (l := s.data.toList) (by rw [HL.out]; exact hlt)
      have HE : Hid (digB s[k] = (decide (48 ≤ s[k].toNat) && decide (s[k].toNat ≤ 57))) := rfl
      by_cases h46 : s[k].toNat = 46
      · have f46 : ((s[k].toNat : Int) == 46) = true := by rw [beq_iff_eq]; omega
        have E46 : Hid (s[k] = 46) := UInt8.toNat_inj.1 h46
        by_cases hdn : dt = s.size
        · have fdn : ((dt : Int) == (s.size : Int)) = true := by rw [beq_iff_eq]; omega
          have HN : Hid (scanP s.size (s.data.toList.drop (k + 1)) (k + 1) k nz = scanP s.size s.data.toList 0 s.size false) := by
            have := HK.out
            rw [HC.out, scanP, if_pos ⟨E46.out, hdn⟩] at this
            exact this
          go_wp2
          go_round
          case rel => exact ⟨k + 1, k, nz, by omega, by omega, by go_num, rfl, rfl, HN.out⟩
          case measure => simp [intOf]; omega
        · have fdn : ((dt : Int) == (s.size : Int)) = false := by rw [beq_eq_false_iff_ne]; omega
          have hlt48 : (s[k].toNat : Int) < 48 := by omega
          have HN : Hid (scanP s.size s.data.toList 0 s.size false = none) := by
            have := HK.out
            rw [HC.out, scanP, if_neg (fun h => hdn h.2), HE.out, decide_eq_false (by omega), Bool.false_and, if_neg (by simp)] at this
            exact this.symm
          clear HK HC HE
          go_wp2
          go_ret
          exact ⟨by rw [hR.out, HN.out]; rfl, rfl⟩
      · have f46 : ((s[k].toNat : Int) == 46) = false := by rw [beq_eq_false_iff_ne]; omega
        have HN46 : Hid (s[k] ≠ 46) := fun e => h46 (by rw [e]; rfl)
        by_cases d1 : s[k].toNat < 48
        · have g1 : (s[k].toNat : Int) < 48 := by omega
          have HN : Hid (scanP s.size s.data.toList 0 s.size false = none) := by
            have := HK.out
            rw [HC.out, scanP, if_neg (fun h => HN46.out h.1), HE.out, decide_eq_false (by omega), Bool.false_and, if_neg (by simp)] at this
            exact this.symm
          clear HK HC HE HN46 d1 h46
          go_wp2
          go_ret
          exact ⟨by rw [hR.out, HN.out]; rfl, rfl⟩
        · have g1 : ¬ (s[k].toNat : Int) < 48 := by omega
          by_cases d2 : 57 < s[k].toNat
          · have g3 : (57 : Int) < (s[k].toNat : Int) := by omega
            have HN : Hid (scanP s.size s.data.toList 0 s.size false = none) := by
              have := HK.out
              rw [HC.out, scanP, if_neg (fun h => HN46.out h.1), HE.out, decide_eq_false (p := s[k].toNat ≤ 57) (by omega), Bool.and_false, if_neg (by simp)] at this
              exact this.symm
            clear HK HC HE HN46 d1 d2 h46
            go_wp2
            go_ret
            exact ⟨by rw [hR.out, HN.out]; rfl, rfl⟩
          · have g3 : ¬ (57 : Int) < (s[k].toNat : Int) := by omega
            have HN : Hid (scanP s.size (s.data.toList.drop (k + 1)) (k + 1) dt (nz || !(s[k] == 48)) = scanP s.size s.data.toList 0 s.size false) := by
              have := HK.out
              rw [HC.out, scanP, if_neg (fun h => HN46.out h.1), HE.out, decide_eq_true (by omega), decide_eq_true (by omega), Bool.true_and, if_pos rfl] at this
              exact this
            clear HK HC HE HN46 d1 d2 h46
            cases nz with
            | true =>
              go_wp2
              go_round
              case rel => exact ⟨k + 1, dt, true, by omega, hdt, by go_num, rfl, rfl, HN.out⟩
              case measure => simp [intOf]; omega
            | false =>
              by_cases h48 : s[k].toNat = 48
              · have f48 : ((s[k].toNat : Int) != 48) = false := by rw [bne_eq_false_iff_eq]; omega
                have E48 : Hid ((false || !(s[k] == 48)) = false) := by
                  have : s[k] = 48 := UInt8.toNat_inj.1 h48
                  unfold Hid; rw [this]; rfl
                go_wp2
                go_round
                case rel => exact ⟨k + 1, dt, false, by omega, hdt, by go_num, rfl, rfl, by have := HN.out; rw [E48.out] at this; exact this⟩
                case measure => simp [intOf]; omega
              · have f48 : ((s[k].toNat : Int) != 48) = true := by rw [bne_iff_ne]; omega
                have E48 : Hid ((false || !(s[k] == 48)) = true) := by
                  have : (s[k] == 48) = false := beq_eq_false_iff_ne.2 (fun e => h48 (by rw [e]; rfl))
                  unfold Hid; rw [this]; rfl
                go_wp2
                go_round
                case rel => exact ⟨k + 1, dt, true, by omega, hdt, by go_num, rfl, rfl, by have := HN.out; rw [E48.out] at this; exact this⟩
                case measure => simp [intOf]; omega
    · have HN : Hid (plD s.data.toList = endP' s.data.toList s.size (some (dt, nz))) := by
        have := HK.out
        rw [List.drop_of_length_le (by rw [HL.out]; omega), scanP] at this
        unfold Hid
        rw [hR.out, ← this]
      have HH : Hid (s.data.toList.headD 0 = s[0]) := by
        cases hl : s.data.toList with
        | nil => have := HL.out; rw [hl] at this; simp at this; omega
        | cons c r =>
          have : s.data.toList[0]'(by rw [hl]; simp) = c := by simp [hl]
          exact this.symm
      clear HK hR
      by_cases e0 : dt = 0
      · have f0 : ((dt : Int) == 0) = true := by rw [beq_iff_eq]; omega
        have HF := Lib.hid (show plD s.data.toList = -1 by rw [HN.out, endP', if_pos (.inl e0)])
        clear HN
        go_wp2
        go_ret
        exact ⟨by rw [HF.out]; rfl, rfl⟩
      · have f0 : ((dt : Int) == 0) = false := by rw [beq_eq_false_iff_ne]; omega
        by_cases hb : 1 < dt ∧ s[0].toNat = 48
        · have k1 : (1 : Int) < (dt : Int) := by omega
          have k2 : ((s[0].toNat : Int) == 48) = true := by rw [beq_iff_eq]; omega
          have HF := Lib.hid (show plD s.data.toList = -1 by rw [HN.out, endP', if_pos (.inr (.inl ⟨hb.1, by rw [HH.out]; exact UInt8.toNat_inj.1 hb.2⟩))])
          clear HN hb
          go_wp2
          go_ret
          exact ⟨by rw [HF.out]; rfl, rfl⟩
        · have HN2 : Hid (plD s.data.toList = if dt = s.size then 0 else if s.size - dt - 1 < 1 ∨ 30 < s.size - dt - 1 then -1 else ((s.size - dt - 1 : Nat) : Int)) := by
            have := HN.out
            rw [endP', if_neg (by rw [HL.out, HH.out]; rintro (h | ⟨h1, h2⟩ | ⟨h1, _⟩); exact e0 h; exact hb ⟨h1, by rw [h2]; rfl⟩; omega), HL.out] at this
            exact this
          have hcs : ((1 : Int) < (dt : Int) ∧ ((s[0].toNat : Int) == 48) = false) ∨ ¬ (1 : Int) < (dt : Int) := by
            by_cases h1 : 1 < dt
            · exact .inl ⟨by omega, by rw [beq_eq_false_iff_ne]; intro e; exact hb ⟨h1, by omega⟩⟩
            · exact .inr (by omega)
          have gss : ¬ (s.size : Int) < (s.size : Int) := by omega
          clear HN hb
          by_cases e3 : dt = s.size
          · have f3 : ((dt : Int) == (s.size : Int)) = true := by rw [beq_iff_eq]; omega
            have HF := Lib.hid (HN2.out.trans (if_pos e3))
            clear HN2
            subst e3
            have hse : ¬ s = ByteArray.empty := by rintro rfl; simp at h0
            clear f3
            rcases hcs with ⟨k1, k2⟩ | k1
            all_goals
              go_wp2
              go_ret
              exact ⟨by rw [HF.out]; rfl, rfl⟩
          · have f3 : ((dt : Int) == (s.size : Int)) = false := by rw [beq_eq_false_iff_ne]; omega
            obtain ⟨p, hp⟩ : ∃ p, p = s.size - dt - 1 := ⟨_, rfl⟩
            have hpa : (s.size : Int) - (dt : Int) = (p : Int) + 1 := by omega
            have hpb : (s.size : Int) - (dt : Int) - 1 = (p : Int) := by omega
            have hpc : p ≤ 65536 := by omega
            have HF := Lib.hid (HN2.out.trans (if_neg e3))
            rw [← hp] at HF
            clear HN2 hp
            rcases hcs with ⟨k1, k2⟩ | k1
            all_goals
              by_cases q1 : p < 1
              · have f4 : (p : Int) < 1 := by omega
                have HG := Lib.hid (HF.out.trans (if_pos (.inl q1)))
                clear HF
                go_wp2
                go_ret
                exact ⟨by rw [HG.out]; rfl, rfl⟩
              · have f4 : ¬ (p : Int) < 1 := by omega
                by_cases q2 : 30 < p
                · have f5 : (30 : Int) < (p : Int) := by omega
                  have HG := Lib.hid (HF.out.trans (if_pos (.inr q2)))
                  clear HF
                  go_wp2
                  go_ret
                  exact ⟨by rw [HG.out]; rfl, rfl⟩
                · have f5 : ¬ (30 : Int) < (p : Int) := by omega
                  have HG := Lib.hid (HF.out.trans (if_neg (fun h => h.elim q1 q2)))
                  clear HF
                  go_wp2
                  go_ret
                  exact ⟨by rw [HG.out]; rfl, rfl⟩
set_option maxRecDepth 100000 in
set_option maxHeartbeats 1600000 in
theorem places_neg (w : World) (s D : ByteArray) (hs : s.size ≤ 65536) (h0 : 0 < s.size) (hc : ((s[0].toNat : Int) == 45) = true) (hex : s.extract 1 s.size = D) (hsz : D.size + 1 = s.size) (hD : digL s.data.toList = D.data.toList) : Calls Tryz.prog 62 #[.string s] w fun e w' => e = .returned (.int .i64 (plD s.data.toList)) ∧ w' = w := by
  have hR : Hid (plD s.data.toList = endP' D.data.toList s.size (scanP D.size D.data.toList 0 D.size false)) := by
    unfold Hid plD
    rw [hD, bytes_len, bytes_len, if_neg (by omega)]
  clear hD
  have g2 : ¬ (65536 : Int) < (s.size : Int) := by omega
  have gss : (D.size : Int) < (s.size : Int) := by omega
  have HS := Lib.hid hs
  have HL := Lib.hid (bytes_len D)
  have HX := Lib.hid hsz
  clear hsz
  go_enter Tryz.func62, Tryz.ntmps62
  go_wp2
  go_loop [4, 5, 6] (fun d z i => ∃ (k dt : Nat) (nz : Bool), k ≤ D.size ∧ dt ≤ D.size ∧ i = .int .i64 k ∧ d = .int .i64 dt ∧ z = .bool nz ∧ Hid (scanP D.size (D.data.toList.drop k) k dt nz = scanP D.size D.data.toList 0 D.size false)) (fun _ _ i => D.size - (intOf i).toNat)
  case atStart => exact ⟨0, D.size, false, Nat.zero_le _, Nat.le_refl _, rfl, rfl, rfl, rfl⟩
  case round =>
    obtain ⟨k, dt, nz, hk, hdt, rfl, rfl, rfl, HK⟩ := hrel
    by_cases hlt : k < D.size
    · have HC : Hid (D.data.toList.drop k = D[k] :: D.data.toList.drop (k + 1)) := List.drop_eq_getElem_cons (l := D.data.toList) (by rw [HL.out]; exact hlt)
      have HE : Hid (digB D[k] = (decide (48 ≤ D[k].toNat) && decide (D[k].toNat ≤ 57))) := rfl
      by_cases h46 : D[k].toNat = 46
      · have f46 : ((D[k].toNat : Int) == 46) = true := by rw [beq_iff_eq]; omega
        have E46 : Hid (D[k] = 46) := UInt8.toNat_inj.1 h46
        by_cases hdn : dt = D.size
        · have fdn : ((dt : Int) == (D.size : Int)) = true := by rw [beq_iff_eq]; omega
          have HN : Hid (scanP D.size (D.data.toList.drop (k + 1)) (k + 1) k nz = scanP D.size D.data.toList 0 D.size false) := by
            have := HK.out
            rw [HC.out, scanP, if_pos ⟨E46.out, hdn⟩] at this
            exact this
          go_wp2
          go_round
          case rel => exact ⟨k + 1, k, nz, by omega, by omega, by go_num, rfl, rfl, HN.out⟩
          case measure => simp [intOf]; omega
        · have fdn : ((dt : Int) == (D.size : Int)) = false := by rw [beq_eq_false_iff_ne]; omega
          have hlt48 : (D[k].toNat : Int) < 48 := by omega
          have HN : Hid (scanP D.size D.data.toList 0 D.size false = none) := by
            have := HK.out
            rw [HC.out, scanP, if_neg (fun h => hdn h.2), HE.out, decide_eq_false (by omega), Bool.false_and, if_neg (by simp)] at this
            exact this.symm
          clear HK HC HE
          go_wp2
          go_ret
          exact ⟨by rw [hR.out, HN.out]; rfl, rfl⟩
      · have f46 : ((D[k].toNat : Int) == 46) = false := by rw [beq_eq_false_iff_ne]; omega
        have HN46 : Hid (D[k] ≠ 46) := fun e => h46 (by rw [e]; rfl)
        by_cases d1 : D[k].toNat < 48
        · have g1 : (D[k].toNat : Int) < 48 := by omega
          have HN : Hid (scanP D.size D.data.toList 0 D.size false = none) := by
            have := HK.out
            rw [HC.out, scanP, if_neg (fun h => HN46.out h.1), HE.out, decide_eq_false (by omega), Bool.false_and, if_neg (by simp)] at this
            exact this.symm
          clear HK HC HE HN46 d1 h46
          go_wp2
          go_ret
          exact ⟨by rw [hR.out, HN.out]; rfl, rfl⟩
        · have g1 : ¬ (D[k].toNat : Int) < 48 := by omega
          by_cases d2 : 57 < D[k].toNat
          · have g3 : (57 : Int) < (D[k].toNat : Int) := by omega
            have HN : Hid (scanP D.size D.data.toList 0 D.size false = none) := by
              have := HK.out
              rw [HC.out, scanP, if_neg (fun h => HN46.out h.1), HE.out, decide_eq_false (p := D[k].toNat ≤ 57) (by omega), Bool.and_false, if_neg (by simp)] at this
              exact this.symm
            clear HK HC HE HN46 d1 d2 h46
            go_wp2
            go_ret
            exact ⟨by rw [hR.out, HN.out]; rfl, rfl⟩
          · have g3 : ¬ (57 : Int) < (D[k].toNat : Int) := by omega
            have HN : Hid (scanP D.size (D.data.toList.drop (k + 1)) (k + 1) dt (nz || !(D[k] == 48)) = scanP D.size D.data.toList 0 D.size false) := by
              have := HK.out
              rw [HC.out, scanP, if_neg (fun h => HN46.out h.1), HE.out, decide_eq_true (by omega), decide_eq_true (by omega), Bool.true_and, if_pos rfl] at this
              exact this
            clear HK HC HE HN46 d1 d2 h46
            cases nz with
            | true =>
              go_wp2
              go_round
              case rel => exact ⟨k + 1, dt, true, by omega, hdt, by go_num, rfl, rfl, HN.out⟩
              case measure => simp [intOf]; omega
            | false =>
              by_cases h48 : D[k].toNat = 48
              · have f48 : ((D[k].toNat : Int) != 48) = false := by rw [bne_eq_false_iff_eq]; omega
                have E48 : Hid ((false || !(D[k] == 48)) = false) := by
                  have : D[k] = 48 := UInt8.toNat_inj.1 h48
                  unfold Hid; rw [this]; rfl
                go_wp2
                go_round
                case rel => exact ⟨k + 1, dt, false, by omega, hdt, by go_num, rfl, rfl, by have := HN.out; rw [E48.out] at this; exact this⟩
                case measure => simp [intOf]; omega
              · have f48 : ((D[k].toNat : Int) != 48) = true := by rw [bne_iff_ne]; omega
                have E48 : Hid ((false || !(D[k] == 48)) = true) := by
                  have : (D[k] == 48) = false := beq_eq_false_iff_ne.2 (fun e => h48 (by rw [e]; rfl))
                  unfold Hid; rw [this]; rfl
                go_wp2
                go_round
                case rel => exact ⟨k + 1, dt, true, by omega, hdt, by go_num, rfl, rfl, by have := HN.out; rw [E48.out] at this; exact this⟩
                case measure => simp [intOf]; omega
    · have HN : Hid (plD s.data.toList = endP' D.data.toList s.size (some (dt, nz))) := by
        have := HK.out
        rw [List.drop_of_length_le (by rw [HL.out]; omega), scanP] at this
        unfold Hid
        rw [hR.out, ← this]
      clear HK hR
      by_cases e0 : dt = 0
      · have f0 : ((dt : Int) == 0) = true := by rw [beq_iff_eq]; omega
        have HF := Lib.hid (show plD s.data.toList = -1 by rw [HN.out, endP', if_pos (.inl e0)])
        clear HN
        go_wp2
        go_ret
        exact ⟨by rw [HF.out]; rfl, rfl⟩
      · have f0 : ((dt : Int) == 0) = false := by rw [beq_eq_false_iff_ne]; omega
        have h0D : 0 < D.size := by omega
        have HH : Hid (D.data.toList.headD 0 = D[0]) := by
          cases hl : D.data.toList with
          | nil => have := HL.out; rw [hl] at this; simp at this; omega
          | cons c r =>
            have : D.data.toList[0]'(by rw [hl]; simp) = c := by simp [hl]
            exact this.symm
        by_cases hb : 1 < dt ∧ D[0].toNat = 48
        · have k1 : (1 : Int) < (dt : Int) := by omega
          have k2 : ((D[0].toNat : Int) == 48) = true := by rw [beq_iff_eq]; omega
          have HF := Lib.hid (show plD s.data.toList = -1 by rw [HN.out, endP', if_pos (.inr (.inl ⟨hb.1, by rw [HH.out]; exact UInt8.toNat_inj.1 hb.2⟩))])
          clear HN hb
          go_wp2
          go_ret
          exact ⟨by rw [HF.out]; rfl, rfl⟩
        · cases nz with
          | false =>
            have HF := Lib.hid (show plD s.data.toList = -1 by rw [HN.out, endP', if_pos (.inr (.inr ⟨by rw [HL.out]; have := HX.out; omega, rfl⟩))])
            have hcs : ((1 : Int) < (dt : Int) ∧ ((D[0].toNat : Int) == 48) = false) ∨ ¬ (1 : Int) < (dt : Int) := by
              by_cases h1 : 1 < dt
              · exact .inl ⟨by omega, by rw [beq_eq_false_iff_ne]; intro e; exact hb ⟨h1, by omega⟩⟩
              · exact .inr (by omega)
            clear HN hb
            rcases hcs with ⟨k1, k2⟩ | k1
            all_goals
              go_wp2
              go_ret
              exact ⟨by rw [HF.out]; rfl, rfl⟩
          | true =>
          have HN2 : Hid (plD s.data.toList = if dt = D.size then 0 else if D.size - dt - 1 < 1 ∨ 30 < D.size - dt - 1 then -1 else ((D.size - dt - 1 : Nat) : Int)) := by
            have := HN.out
            rw [endP', if_neg (by rw [HL.out, HH.out]; rintro (h | ⟨h1, h2⟩ | ⟨_, h1⟩); exact e0 h; exact hb ⟨h1, by rw [h2]; rfl⟩; cases h1), HL.out] at this
            exact this
          have hcs : ((1 : Int) < (dt : Int) ∧ ((D[0].toNat : Int) == 48) = false) ∨ ¬ (1 : Int) < (dt : Int) := by
            by_cases h1 : 1 < dt
            · exact .inl ⟨by omega, by rw [beq_eq_false_iff_ne]; intro e; exact hb ⟨h1, by omega⟩⟩
            · exact .inr (by omega)
          clear HN hb
          by_cases e3 : dt = D.size
          · have f3 : ((dt : Int) == (D.size : Int)) = true := by rw [beq_iff_eq]; omega
            have HF := Lib.hid (HN2.out.trans (if_pos e3))
            clear HN2
            subst e3
            have hse : ¬ D = ByteArray.empty := by rintro rfl; simp at h0D
            clear f3
            rcases hcs with ⟨k1, k2⟩ | k1
            all_goals
              go_wp2
              go_ret
              exact ⟨by rw [HF.out]; rfl, rfl⟩
          · have f3 : ((dt : Int) == (D.size : Int)) = false := by rw [beq_eq_false_iff_ne]; omega
            obtain ⟨p, hp⟩ : ∃ p, p = D.size - dt - 1 := ⟨_, rfl⟩
            have hpa : (D.size : Int) - (dt : Int) = (p : Int) + 1 := by omega
            have hpb : (D.size : Int) - (dt : Int) - 1 = (p : Int) := by omega
            have hpc : p ≤ 65536 := by omega
            have HF := Lib.hid (HN2.out.trans (if_neg e3))
            rw [← hp] at HF
            clear HN2 hp
            rcases hcs with ⟨k1, k2⟩ | k1
            all_goals
              by_cases q1 : p < 1
              · have f4 : (p : Int) < 1 := by omega
                have HG := Lib.hid (HF.out.trans (if_pos (.inl q1)))
                clear HF
                go_wp2
                go_ret
                exact ⟨by rw [HG.out]; rfl, rfl⟩
              · have f4 : ¬ (p : Int) < 1 := by omega
                by_cases q2 : 30 < p
                · have f5 : (30 : Int) < (p : Int) := by omega
                  have HG := Lib.hid (HF.out.trans (if_pos (.inr q2)))
                  clear HF
                  go_wp2
                  go_ret
                  exact ⟨by rw [HG.out]; rfl, rfl⟩
                · have f5 : ¬ (30 : Int) < (p : Int) := by omega
                  have HG := Lib.hid (HF.out.trans (if_neg (fun h => h.elim q1 q2)))
                  clear HF
                  go_wp2
                  go_ret
                  exact ⟨by rw [HG.out]; rfl, rfl⟩
theorem places_nil (w : World) : Calls Tryz.prog 62 #[.string ⟨#[]⟩] w fun e w' => e = .returned (.int .i64 (-1)) ∧ w' = w := by
  go_enter Tryz.func62, Tryz.ntmps62
  go_wp2
  go_loop [4, 5, 6] (fun d z i => i = .int .i64 0 ∧ d = .int .i64 0 ∧ z = .bool false) (fun _ _ i => 0)
  case atStart => exact ⟨rfl, rfl, rfl⟩
  case round =>
    obtain ⟨rfl, rfl, rfl⟩ := hrel
    go_wp2
    go_ret
    exact ⟨rfl, rfl⟩
theorem places_calls (w : World) (l : List UInt8) (hl : l.length ≤ 65536) : Calls Tryz.prog 62 #[.string ⟨l.toArray⟩] w fun e w' => e = .returned (.int .i64 (plD l)) ∧ w' = w := by
  obtain ⟨s, hs⟩ : ∃ s : ByteArray, s = ⟨l.toArray⟩ := ⟨_, rfl⟩
  have hsl : s.data.toList = l := by rw [hs]
  have hss : s.size = l.length := by rw [← bytes_len, hsl]
  cases l with
  | nil => exact places_nil w
  | cons c r =>
    have h0 : 0 < s.size := by rw [hss]; simp
    have hc0 : s[0] = c := by
      have : s.data.toList[0]'(by rw [hsl]; simp) = c := by simp [hsl]
      exact this
    rw [← hs, ← hsl]
    have hneg := (negL_cons c r).2
    by_cases hc : c = 45
    · rw [hc, beq_self_eq_true, if_pos rfl, ← hc] at hneg
      obtain ⟨t1, t2⟩ := ba_tail hsl
      exact places_neg w s _ (by rw [hss]; exact hl) h0 (by rw [hc0, hc]; rfl) rfl t2 (by rw [hsl, hneg, t1])
    · have hf : (c == 45) = false := beq_eq_false_iff_ne.2 hc
      rw [hf, if_neg (by simp)] at hneg
      exact places_other w s (by rw [hss]; exact hl) h0 (by rw [hc0, beq_eq_false_iff_ne]; intro e; exact hc (UInt8.toNat_inj.1 (by show c.toNat = 45; omega))) (by rw [hsl, hneg])
end Go.Proofs.YtllijnecmekfeaaGreatDoor
end

section
set_option maxRecDepth 100000
namespace Go.Proofs.YtllijnecmekfeaaGreatDoor
open Go.RowKit
end Go.Proofs.YtllijnecmekfeaaGreatDoor
end

section
set_option maxRecDepth 100000
namespace Go.Proofs.YtllijnecmekfeaaGreatDoor
open Go.RowKit
end Go.Proofs.YtllijnecmekfeaaGreatDoor
end

section
set_option maxRecDepth 100000
namespace Go.Proofs.YtllijnecmekfeaaGreatDoor
open Go.RowKit
theorem IsInt.store {w : World} {v : Value} {z : Int} {p : Addr} {u : Value} (h : IsInt w v z) (hp : w.cell? p = some u) (hu : ∀ x, u ≠ .int .u32 x) (x : Value) : IsInt (w.setCell p x) v z := by
  obtain ⟨ao, cap, h1, h2, h3, h4⟩ := h
  exact ⟨ao, cap, h1, h2, h3, h4.store hp hu x⟩
theorem res_new4 (w : World) (t : TypeId) : ∃ W, w.alloc (.cells #[.bool false, .slice none 0 0, .bool false, .slice none 0 0] t) = W ∧ Ext w W ∧ W.heap.size = w.heap.size + 1 ∧
    W.cell? ⟨w.heap.size, 0, none⟩ = some (.bool false) ∧ W.cell? ⟨w.heap.size, 1, none⟩ = some (.slice none 0 0) ∧ W.cell? ⟨w.heap.size, 2, none⟩ = some (.bool false) ∧ W.cell? ⟨w.heap.size, 3, none⟩ = some (.slice none 0 0) ∧
    ∀ i, W.frozen? ⟨w.heap.size, i, none⟩ = false := by
  refine ⟨_, rfl, (Ext.refl w).alloc _, by simp, by simp, by simp, by simp, by simp, fun i => ?_⟩
  show (match (w.heap.push _)[w.heap.size]? with | some (.cells _ _ (lo, hi)) => _ | _ => _) = _
  rw [Array.getElem?_push_size]
  simp
end Go.Proofs.YtllijnecmekfeaaGreatDoor
end

section
set_option maxRecDepth 100000
namespace Go.Proofs.YtllijnecmekfeaaGreatDoor
open Go.RowKit Go.Shelf
def few4 : Chunk → Chunk
  | .int (.lit z) l => if decide (z.natAbs < 1000000000 ^ 4) then .int (.lit z) 4 else .int (.lit z) l
  | c => c
theorem few4_holds {E : Env} {w : World} {c : Chunk} {vs : List Value} (h : c.holds E w vs) : (few4 c).holds E w vs := by
  unfold few4
  split
  · rename_i z l
    split
    · rename_i hz
      obtain ⟨x, y, rfl, h1, h2⟩ := h
      exact ⟨x, y, rfl, h1, limbs_len_le (of_decide_eq_true hz)⟩
    · exact h
  · exact h
theorem few4_chunks {E : Env} {w : World} : ∀ {cs : List Chunk} {vs : List Value}, chunks E w cs vs → chunks E w (cs.map few4) vs
  | [], _, h => h
  | _ :: _, _, ⟨l, r, e, h1, h2⟩ => ⟨l, r, e, few4_holds h1, few4_chunks h2⟩
def few4A : AV → AV
  | .val b cs => .val b (cs.map few4)
  | x => x
theorem few4A_holds {E : Env} {β : Nat → Nat} {w : World} {x : AV} {v : Value} (h : x.holds E β w v) : (few4A x).holds E β w v := by
  cases x with
  | val b cs =>
    cases b with
    | true => obtain ⟨vs, e, hc⟩ := h; exact ⟨vs, e, few4_chunks hc⟩
    | false => exact ⟨few4_chunks h.1, h.2⟩
  | _ => exact h
def kFew (k : Con) : Con := fun args G => (kFold k args G).map few4A
theorem kFew_ok {P : Program} {E : Env} {f : Nat} {k : Con} (h0 : ConOK P E f k) : ConOK P E f (kFew k) := by
  have h := kFold_ok h0
  refine ⟨?_, ?_, h.body⟩
  · intro args G r hr hG β w vs hv hl
    obtain ⟨y, hy, rfl⟩ := Option.map_eq_some_iff.1 hr
    refine (h.calls args G y hy hG β w vs hv hl).mono ?_
    rintro e w' ⟨v, rfl, hh, ex⟩
    exact ⟨v, rfl, few4A_holds hh, ex⟩
  · intro args G r hr x off e
    obtain ⟨y, hy, rfl⟩ := Option.map_eq_some_iff.1 hr
    cases y with
    | ptr z o => exact h.nptr args G _ hy z o rfl
    | _ => cases e
def foldTab (l : List (Nat × Con)) : List (Nat × Con) := l.map fun p => (p.1, kFew p.2)
theorem foldTab_ok {P : Program} {E : Env} {l : List (Nat × Con)} (h : TabOK P E l) : TabOK P E (foldTab l) := ⟨fun p hp => by
  obtain ⟨q, hq, rfl⟩ := List.mem_map.1 hp
  exact kFew_ok (h.all q hq)⟩
def isQ1 (z : Int) : Option Tree → Bool
  | some (.leaf [(true, [.int x l, .int y m])]) => (x.cl == some z && y.cl == some 1) && (decide (l ≤ 1000) && decide (m ≤ 1000))
  | _ => false
theorem rp10_walk : ((List.range 31).all fun n => isQ1 ((10 : Int) ^ n) (funE (cfgOf (foldTab tabT)) Tryz.f21 [] [.val false [.n .i64 (.lit (n : Int))]])) = true := by kernel_rfl
theorem rpower_calls (w : World) (n : Nat) (hn : n ≤ 30) : Calls Tryz.prog 21 #[.int .i64 (n : Int)] w (Ret (fun v w' => IsPair w' v ((10 : Int) ^ n) 1 ∧ Lim 1000 ((10 : Int) ^ n)) w) := by
  have hW := List.all_eq_true.1 rp10_walk n (List.mem_range.2 (by omega))
  unfold isQ1 at hW
  split at hW
  · rename_i x l y m hTe
    simp only [Bool.and_eq_true, decide_eq_true_iff, beq_iff_eq] at hW
    obtain ⟨⟨h1, h2⟩, h3, h4⟩ := hW
    refine (fun_sound (E := qE []) mixed (cfg_ok (foldTab_ok (tabT_ok (qE_ok _)))) no_asm Tryz.func21 (by decide +kernel) hTe (by show 1 ≤ _; decide +kernel) rfl w [.int .i64 (n : Int)] rfl ?_).mono ?_
    · intro i x hx
      match i, hx with
      | 0, hx => injection hx with hx; subst hx; exact ⟨fun _ => 0, _, rfl, one_num.2 rfl⟩
    · rintro e w' ⟨β, v, rfl, hh, ex⟩
      obtain ⟨a, b, c, d, rfl, j1, m1, j2, m2⟩ := one_rat.1 hh
      rw [IT.cl_spec h1] at j1 m1
      rw [IT.cl_spec h2] at j2
      exact ⟨_, rfl, ⟨⟨a, b, c, d, rfl, j1, j2⟩, m1.mono h3⟩, ex⟩
  · cases hW
def colD (l : List UInt8) : List UInt8 := tzL (l.filter digB)
theorem tz_snoc (F : List UInt8) (c : UInt8) : tzL (F ++ [c]) = if tzL F = [] then (if c = 48 then [] else [c]) else tzL F ++ [c] := by
  induction F with
  | nil =>
    by_cases hc : c = 48
    · simp [hc, tzL, Lib.trimLeftB]
    · simp [hc, tzL, Lib.trimLeftB]
  | cons a F ih =>
    have e : ∀ r, tzL (a :: r) = if (a == 48) = true then tzL r else a :: r := fun r => by
      unfold tzL Lib.trimLeftB
      rw [List.dropWhile_cons]
    rw [List.cons_append, e, e]
    by_cases ha : (a == 48) = true
    · rw [if_pos ha, if_pos ha]; exact ih
    · rw [if_neg ha, if_neg ha, if_neg (by simp)]; rfl
end Go.Proofs.YtllijnecmekfeaaGreatDoor
end

section
set_option maxRecDepth 100000
namespace Go.Proofs.YtllijnecmekfeaaGreatDoor
open Go.RowKit Go.Shelf
def nz8 (l : List UInt8) : Bool := l.any fun c => !(c == 48)
theorem scan_digs {n : Nat} {R : List UInt8} : ∀ (P : List UInt8) (i dot : Nat) (nz : Bool), P.all digB = true → scanP n (P ++ R) i dot nz = scanP n R (i + P.length) dot (nz || nz8 P)
  | [], i, dot, nz, _ => by simp [nz8]
  | c :: P, i, dot, nz, h => by
    rw [List.all_cons, Bool.and_eq_true] at h
    have h46 : c ≠ 46 := by rintro rfl; exact absurd h.1 (by decide)
    rw [List.cons_append, scanP, if_neg (fun e => h46 e.1), if_pos h.1, scan_digs P (i + 1) dot _ h.2, List.length_cons, show i + 1 + P.length = i + (P.length + 1) by omega]
    congr 1
    simp [nz8, Bool.or_assoc]
theorem scan_bad {n : Nat} : ∀ (P : List UInt8) (i dot : Nat) (nz : Bool), P.all digB = false → (dot ≠ n ∨ ∀ c ∈ P, c ≠ 46) → scanP n P i dot nz = none
  | [], i, dot, nz, h, _ => by cases h
  | c :: P, i, dot, nz, h, hd => by
    have h1 : ¬ (c = 46 ∧ dot = n) := fun e => hd.elim (fun k => k e.2) (fun k => k c (by simp) e.1)
    rw [scanP, if_neg h1]
    split
    · rename_i hc
      rw [List.all_cons, hc, Bool.true_and] at h
      exact scan_bad P _ _ _ h (hd.imp id (fun k x hx => k x (by simp [hx])))
    · rfl
theorem scan_bad2 {n : Nat} {R : List UInt8} : ∀ (P : List UInt8) (i dot : Nat) (nz : Bool), P.all digB = false → (∀ c ∈ P, c ≠ 46) → scanP n (P ++ R) i dot nz = none
  | [], i, dot, nz, h, _ => by cases h
  | c :: P, i, dot, nz, h, hd => by
    have h1 : ¬ (c = 46 ∧ dot = n) := fun e => hd c (by simp) e.1
    rw [List.cons_append, scanP, if_neg h1]
    split
    · rename_i hc
      rw [List.all_cons, hc, Bool.true_and] at h
      exact scan_bad2 P _ _ _ h (fun x hx => hd x (by simp [hx]))
    · rfl
theorem dv_nz : ∀ (l : List UInt8), l.all digB = true → (nz8 l = false ↔ dv l = 0) := by
  have key : ∀ (l : List UInt8) (v : Nat), l.all digB = true → (l.foldl (fun v c => v * 10 + (c.toNat - 48)) v = 0 ↔ v = 0 ∧ nz8 l = false) := by
    intro l
    induction l with
    | nil => intro v _; simp [nz8]
    | cons c l ih =>
      intro v h
      rw [List.all_cons, Bool.and_eq_true] at h
      rw [List.foldl_cons, ih _ h.2]
      have hd := h.1
      unfold digB at hd
      rw [Bool.and_eq_true, decide_eq_true_iff, decide_eq_true_iff] at hd
      have e : nz8 (c :: l) = (!(c == 48) || nz8 l) := rfl
      rw [e]
      by_cases hc : c = 48
      · subst hc
        simp
        intro _
        constructor
        · intro hv
          have : (48 : UInt8).toNat = 48 := rfl
          omega
        · rintro rfl
          rfl
      · have h2 : c.toNat ≠ 48 := fun k => hc (UInt8.toNat_inj.1 k)
        have h3 : (!(c == 48)) = true := by rw [beq_eq_false_iff_ne.2 hc]; rfl
        rw [h3, Bool.true_or]
        constructor
        · rintro ⟨k, _⟩; omega
        · rintro ⟨_, k⟩; cases k
  intro l h
  unfold dv
  rw [key l 0 h]
  simp
def twP (l : List UInt8) : Nat := (l.takeWhile (· != 46)).length
theorem index_twp : ∀ l : List UInt8, Lib.index l [46] = if twP l < l.length then (twP l : Int) else -1
  | [] => rfl
  | c :: l => by
    have ih := index_twp l
    unfold Lib.index
    by_cases hc : c = 46
    · subst hc
      have h1 : twP (46 :: l) = 0 := rfl
      have h2 : ([46] : List UInt8).isPrefixOf (46 :: l) = true := by simp [List.isPrefixOf]
      rw [h2, if_pos rfl, h1, if_pos (by simp)]
      rfl
    · have h1 : twP (c :: l) = twP l + 1 := by
        unfold twP
        rw [List.takeWhile_cons, if_pos (by simpa using hc)]
        rfl
      have h2 : ([46] : List UInt8).isPrefixOf (c :: l) = false := by
        simp [List.isPrefixOf]
        exact fun e => hc e.symm
      rw [h2, h1, ih, List.length_cons]
      simp only [Bool.false_eq_true, if_false]
      by_cases h : twP l < l.length
      · have hb : ((twP l : Int) == -1) = false := by rw [beq_eq_false_iff_ne]; omega
        rw [if_pos h, if_pos (show twP l + 1 < l.length + 1 by omega), hb]
        simp
      · rw [if_neg h, if_neg (show ¬ twP l + 1 < l.length + 1 by omega)]
        rfl
theorem twP_le (l : List UInt8) : twP l ≤ l.length := by
  unfold twP
  exact (List.takeWhile_sublist _).length_le
theorem cut_twp (l : List UInt8) : (twP l < l.length ∧ Lib.cut l [46] = (l.take (twP l), l.drop (twP l + 1), true)) ∨ (twP l = l.length ∧ Lib.cut l [46] = (l, [], false)) := by
  unfold Lib.cut
  rw [index_twp]
  by_cases h : twP l < l.length
  · refine .inl ⟨h, ?_⟩
    rw [if_pos h, if_pos (by omega)]
    simp
  · refine .inr ⟨by have := twP_le l; omega, ?_⟩
    rw [if_neg h, if_neg (by omega)]
theorem twp_none {l : List UInt8} (h : ∀ c ∈ l, c ≠ 46) : twP l = l.length := by
  induction l with
  | nil => rfl
  | cons c l ih =>
    unfold twP at *
    rw [List.takeWhile_cons, if_pos (by simpa using h c (by simp)), List.length_cons, ih (fun x hx => h x (by simp [hx])), List.length_cons]
theorem twp_dot {a b : List UInt8} (h : ∀ c ∈ a, c ≠ 46) : twP (a ++ 46 :: b) = a.length := by
  induction a with
  | nil => rfl
  | cons c a ih =>
    unfold twP at *
    rw [List.cons_append, List.takeWhile_cons, if_pos (by simpa using h c (by simp)), List.length_cons, ih (fun x hx => h x (by simp [hx])), List.length_cons]
theorem cut_dot {a b : List UInt8} (h : ∀ c ∈ a, c ≠ 46) : Lib.cut (a ++ 46 :: b) [46] = (a, b, true) := by
  have e := twp_dot (b := b) h
  rcases cut_twp (a ++ 46 :: b) with ⟨_, k⟩ | ⟨k, _⟩
  · rw [k, e]; simp
  · rw [e] at k; simp at k
theorem cut_nodot {l : List UInt8} (h : ∀ c ∈ l, c ≠ 46) : Lib.cut l [46] = (l, [], false) := by
  have e := twp_none h
  rcases cut_twp l with ⟨k, _⟩ | ⟨_, k⟩
  · omega
  · exact k
theorem twp_split (l : List UInt8) : (∀ c ∈ l, c ≠ 46) ∨ ∃ a b, l = a ++ 46 :: b ∧ ∀ c ∈ a, c ≠ 46 := by
  induction l with
  | nil => exact .inl (fun c hc => by cases hc)
  | cons c l ih =>
    by_cases hc : c = 46
    · subst hc
      exact .inr ⟨[], l, rfl, fun c hc => by cases hc⟩
    · rcases ih with h | ⟨a, b, rfl, h⟩
      · refine .inl fun x hx => ?_
        rcases List.mem_cons.1 hx with rfl | hx
        · exact hc
        · exact h x hx
      · refine .inr ⟨c :: a, b, rfl, fun x hx => ?_⟩
        rcases List.mem_cons.1 hx with rfl | hx
        · exact hc
        · exact h x hx
theorem neg_len (l : List UInt8) : negL l = decide ((digL l).length < l.length) := by
  cases l with
  | nil => rfl
  | cons c r =>
    obtain ⟨e1, e2⟩ := negL_cons c r
    rw [e1, e2]
    cases h : (c == 45) with
    | true => rw [if_pos rfl, decide_eq_true (by simp)]
    | false => rw [if_neg (by simp), decide_eq_false (by simp)]
theorem pl_eq (l : List UInt8) (hl : l.length ≤ 65536) : plD l = if okD l then ((frD l).length : Int) else -1 := by
  have hn := neg_len l
  have hdl := digL_len l
  unfold plD
  rw [if_neg (by omega)]
  obtain ⟨D, hD⟩ : ∃ D, D = digL l := ⟨_, rfl⟩
  rw [← hD] at hn hdl ⊢
  rcases twp_split D with hno | ⟨a, b, hab, hno⟩
  · have hc := cut_nodot hno
    have hw : whD l = D := by unfold whD; rw [← hD, hc]
    have hf : frD l = [] := by unfold frD; rw [← hD, hc]
    have hp : ptD l = false := by unfold ptD; rw [← hD, hc]
    have hN : nD l = vO D := by unfold nD; rw [hw, hf, List.append_nil]
    have hO : okD l = (numB D && !(negL l && decide (nD l = 0))) := by unfold okD vPd; rw [hp, hw]; simp
    cases ha : D.all digB with
    | false =>
      rw [scan_bad D _ _ _ ha (.inr hno), hO, show numB D = false by rw [numB]; rw [ha]; simp]
      rfl
    | true =>
      have hs := scan_digs (n := D.length) (R := []) D 0 D.length false ha
      rw [List.append_nil, scanP, Bool.false_or] at hs
      have hz : decide (nD l = 0) = !(nz8 D) := by
        rw [hN, vO_dv (by omega) ha]
        have := dv_nz D ha
        cases h8 : nz8 D with
        | true => rw [h8] at this; simp only [Bool.not_true, decide_eq_false_iff_not]; intro k; have := this.2 (by omega); cases this
        | false => rw [h8] at this; have := this.1 rfl; simp [this]
      rw [hs, endP', hO, hf]
      have hnb : numB D = decide (¬ (D.length = 0 ∨ (1 < D.length ∧ D.headD 0 = 48))) := by
        rw [numB, ha, Bool.and_true]
        cases D with
        | nil => rfl
        | cons c r =>
          have e1 : ((c :: r).headD 0 == 48) = decide ((c :: r).headD 0 = 48) := by rw [Bool.eq_iff_iff, beq_iff_eq, decide_eq_true_iff]
          rw [e1, Bool.eq_iff_iff]
          simp
          exact or_comm
      rw [hnb, hz, hn]
      by_cases c1 : D.length = 0 ∨ (1 < D.length ∧ D.headD 0 = 48)
      · rw [if_pos (c1.elim .inl (fun h => .inr (.inl h))), decide_eq_false (not_not_intro c1)]
        rfl
      · rw [decide_eq_true c1]
        by_cases c2 : D.length < l.length ∧ nz8 D = false
        · rw [if_pos (.inr (.inr c2)), decide_eq_true c2.1, c2.2]
          rfl
        · rw [if_neg (by rintro (h | h | h); exact c1 (.inl h); exact c1 (.inr h); exact c2 h), if_pos rfl]
          have : (decide (D.length < l.length) && !(nz8 D)) = false := by
            by_cases h1 : D.length < l.length
            · cases h2 : nz8 D with
              | true => simp
              | false => exact absurd ⟨h1, h2⟩ c2
            · rw [decide_eq_false h1]; rfl
          rw [this]
          rfl
  · subst hab
    have hc := cut_dot (b := b) hno
    have hw : whD l = a := by unfold whD; rw [← hD, hc]
    have hf : frD l = b := by unfold frD; rw [← hD, hc]
    have hp : ptD l = true := by unfold ptD; rw [← hD, hc]
    have hN : nD l = vO (a ++ b) := by unfold nD; rw [hw, hf]
    have hlen : (a ++ 46 :: b).length = a.length + b.length + 1 := by simp; omega
    have hO : okD l = (numB a && (dgB b && decide (b.length ≤ 30)) && !(negL l && decide (nD l = 0))) := by unfold okD vPd fOK; rw [hp, hw, hf]; simp
    cases ha : a.all digB with
    | false =>
      rw [scan_bad2 a _ _ _ ha hno, hO, show numB a = false by rw [numB]; rw [ha]; simp]
      rfl
    | true =>
      have hs := scan_digs (n := (a ++ 46 :: b).length) (R := 46 :: b) a 0 (a ++ 46 :: b).length false ha
      rw [Nat.zero_add, Bool.false_or, scanP, if_pos ⟨rfl, rfl⟩] at hs
      cases hb : b.all digB with
      | false =>
        rw [hs, scan_bad b _ _ _ hb (.inl (by rw [hlen]; omega)), hO, show dgB b = false by rw [dgB]; rw [hb]; simp]
        simp [endP']
      | true =>
        have hs2 := scan_digs (n := (a ++ 46 :: b).length) (R := []) b (a.length + 1) a.length (nz8 a) hb
        rw [List.append_nil, scanP] at hs2
        have hab : (a ++ b).all digB = true := by rw [List.all_append, ha, hb]; rfl
        have hz : decide (nD l = 0) = !(nz8 a || nz8 b) := by
          rw [hN, vO_dv (by rw [List.length_append]; omega) hab]
          have := dv_nz (a ++ b) hab
          have e8 : nz8 (a ++ b) = (nz8 a || nz8 b) := by unfold nz8; rw [List.any_append]
          rw [e8] at this
          cases h8 : (nz8 a || nz8 b) with
          | true => rw [h8] at this; simp only [Bool.not_true, decide_eq_false_iff_not]; intro k; have := this.2 (by omega); cases this
          | false => rw [h8] at this; have := this.1 rfl; simp [this]
        have hnb : numB a = decide (¬ (a.length = 0 ∨ (1 < a.length ∧ (a ++ 46 :: b).headD 0 = 48))) := by
          rw [numB, ha, Bool.and_true]
          cases a with
          | nil => rfl
          | cons c r =>
            have e1 : ((c :: r).headD 0 == 48) = decide ((c :: r).headD 0 = 48) := by rw [Bool.eq_iff_iff, beq_iff_eq, decide_eq_true_iff]
            rw [e1, Bool.eq_iff_iff]
            simp
            exact or_comm
        have hdb : dgB b = decide (¬ b.length = 0) := by
          rw [dgB, hb, Bool.and_true]
          cases b with
          | nil => rfl
          | cons c r => simp
        rw [hs, hs2, endP', hO, hf, hnb, hdb, hz, hn]
        by_cases c1 : a.length = 0 ∨ (1 < a.length ∧ (a ++ 46 :: b).headD 0 = 48)
        · rw [if_pos (c1.elim .inl (fun h => .inr (.inl h))), decide_eq_false (not_not_intro c1)]
          rfl
        · rw [decide_eq_true c1, Bool.true_and]
          by_cases c2 : (a ++ 46 :: b).length < l.length ∧ (nz8 a || nz8 b) = false
          · rw [if_pos (.inr (.inr c2)), decide_eq_true c2.1, c2.2]
            simp
          · rw [if_neg (by rintro (h | h | h); exact c1 (.inl h); exact c1 (.inr h); exact c2 h), if_neg (by rw [hlen]; omega)]
            have h3 : (decide ((a ++ 46 :: b).length < l.length) && !(nz8 a || nz8 b)) = false := by
              by_cases h1 : (a ++ 46 :: b).length < l.length
              · cases h2 : (nz8 a || nz8 b) with
                | true => simp
                | false => exact absurd ⟨h1, h2⟩ c2
              · rw [decide_eq_false h1]; rfl
            rw [h3, Bool.not_false, Bool.and_true, show (a ++ 46 :: b).length - a.length - 1 = b.length by rw [hlen]; omega]
            by_cases c3 : b.length < 1 ∨ 30 < b.length
            · rw [if_pos c3, if_neg]
              intro h
              rw [Bool.and_eq_true, decide_eq_true_iff, decide_eq_true_iff] at h
              omega
            · rw [if_neg c3, if_pos]
              rw [Bool.and_eq_true, decide_eq_true_iff, decide_eq_true_iff]
              omega
end Go.Proofs.YtllijnecmekfeaaGreatDoor
end

section
set_option maxRecDepth 100000
namespace Go.Proofs.YtllijnecmekfeaaGreatDoor
open Go.RowKit Go.Shelf
structure Res4 (B : Nat) (w : World) : Prop where
  c0 : w.cell? ⟨B, 0, none⟩ = some (.bool false)
  c1 : w.cell? ⟨B, 1, none⟩ = some (.slice none 0 0)
  c2 : w.cell? ⟨B, 2, none⟩ = some (.bool false)
  c3 : w.cell? ⟨B, 3, none⟩ = some (.slice none 0 0)
  f0 : w.frozen? ⟨B, 0, none⟩ = false
  f1 : w.frozen? ⟨B, 1, none⟩ = false
  f2 : w.frozen? ⟨B, 2, none⟩ = false
  f3 : w.frozen? ⟨B, 3, none⟩ = false
theorem Res4.ext {B : Nat} {w w' : World} (h : Res4 B w) (e : Ext w w') : Res4 B w' :=
  ⟨e.cell h.c0, e.cell h.c1, e.cell h.c2, e.cell h.c3, e.frozen (lt_of_cell h.c0) h.f0, e.frozen (lt_of_cell h.c1) h.f1, e.frozen (lt_of_cell h.c2) h.f2, e.frozen (lt_of_cell h.c3) h.f3⟩
def put4 (w : World) (B : Nat) (a b c d : Value) : World := (((w.setCell ⟨B, 0, none⟩ a).setCell ⟨B, 1, none⟩ b).setCell ⟨B, 2, none⟩ c).setCell ⟨B, 3, none⟩ d
theorem Res4.put {B : Nat} {w : World} (h : Res4 B w) {v : Value} {z : Int} (hI : IsInt w v z) (a b c d : Value) : IsInt (put4 w B a b c d) v z := by
  unfold put4
  have k1 := hI.store h.c0 (by simp) a
  have k2 := k1.store (p := ⟨B, 1, none⟩) (by rw [World.cell?_setCell_other _ _ _ _ (by simp)]; exact h.c1) (by simp) b
  have k3 := k2.store (p := ⟨B, 2, none⟩) (by rw [World.cell?_setCell_other _ _ _ _ (by simp), World.cell?_setCell_other _ _ _ _ (by simp)]; exact h.c2) (by simp) c
  exact k3.store (p := ⟨B, 3, none⟩) (by rw [World.cell?_setCell_other _ _ _ _ (by simp), World.cell?_setCell_other _ _ _ _ (by simp), World.cell?_setCell_other _ _ _ _ (by simp)]; exact h.c3) (by simp) d
theorem put4_ext {w w2 : World} {B : Nat} (e : Ext w w2) (h : w.heap.size ≤ B) (a b c d : Value) : Ext w (put4 w2 B a b c d) :=
  (((e.setCell (p := ⟨B, 0, none⟩) h a).setCell (p := ⟨B, 1, none⟩) h b).setCell (p := ⟨B, 2, none⟩) h c).setCell (p := ⟨B, 3, none⟩) h d
end Go.Proofs.YtllijnecmekfeaaGreatDoor
end

section
set_option maxRecDepth 100000
namespace Go.Proofs.YtllijnecmekfeaaGreatDoor
open Go.RowKit Go.Shelf
set_option maxRecDepth 100000 in
set_option maxHeartbeats 1600000 in
theorem rparseD_bad (w : World) (s : ByteArray) (hp : ∀ w, Calls Tryz.prog 62 #[.string s] w fun e w' => e = .returned (.int .i64 (-1)) ∧ w' = w) : Calls Tryz.prog 13 #[.string s] w fun e w' => ∃ v, e = .returned (.tuple #[v, .int .i64 2]) ∧ IsPair w' v 0 0 ∧ Ext w w' := by
  obtain ⟨W, hW, eW, hz, r0, r1, r2, r3, f0⟩ := res_new4 w 27
  go_enter Tryz.func13, Tryz.ntmps13
  go_wp2_with fail
  refine (hp W).mono ?_
  rintro e w' ⟨rfl, rfl⟩
  go_wp2
  have hfin : Ext w ((((w'.setCell ⟨w.heap.size, 0, none⟩ (.bool false)).setCell ⟨w.heap.size, 1, none⟩ (.slice none 0 0)).setCell ⟨w.heap.size, 2, none⟩ (.bool false)).setCell ⟨w.heap.size, 3, none⟩ (.slice none 0 0)) := eW.put4 (Nat.le_refl _) _ _ _ _
  refine bodyPost_ret (v := .tuple #[.agg #[.bool false, .slice none 0 0, .bool false, .slice none 0 0], .int .i64 2]) (by simp [results, Tryz.results13, go_sem, r0, r1, r2, r3]) rfl ⟨_, rfl, ⟨_, _, _, _, rfl, isInt_zero _, isInt_zero _⟩, hfin⟩
theorem col_len (l : List UInt8) : (colD l).length ≤ l.length := Nat.le_trans (tzL_len _) (List.length_filter_le _ _)
def tD (l : List UInt8) : List UInt8 := (if l.headD 0 = 45 then [45] else []) ++ (if colD l = [] then [48] else colD l)
theorem ext_one (s : ByteArray) (k : Nat) (h : k < s.size) : (s.extract k (k + 1)).data.toList = [s[k]] := by
  have hl : k < s.data.toList.length := by rw [bytes_len]; exact h
  rw [ByteArray.data_extract, Array.toList_extract, List.extract_eq_take_drop, List.drop_eq_getElem_cons hl, Nat.add_sub_cancel_left]
  rfl
set_option maxRecDepth 100000 in
set_option maxHeartbeats 1600000 in
theorem rparseD_good (w : World) (s : ByteArray) (hs : s.size ≤ 65536) (n : Nat) (hn : n ≤ 30) (h0 : 0 < s.size) (Z : Int) (hZ : Hid (pZ (tD s.data.toList) = Z)) (lZ : Lim 7282 Z) (hp : ∀ w, Calls Tryz.prog 62 #[.string s] w fun e w' => e = .returned (.int .i64 (n : Int)) ∧ w' = w) : Calls Tryz.prog 13 #[.string s] w fun e w' => ∃ v, e = .returned (.tuple #[v, .int .i64 0]) ∧ IsRat w' v ((Z : Rat) / (((10 : Int) ^ n : Int) : Rat)) ∧ Ext w w' := by
  obtain ⟨W, hW, eW, hz, r0, r1, r2, r3, f0⟩ := res_new4 w 27
  have HL := Lib.hid (bytes_len s)
  have hn0 : ¬ (n : Int) < 0 := by omega
  go_enter Tryz.func13, Tryz.ntmps13
  go_wp2_with fail
  refine (hp W).mono ?_
  rintro e w' ⟨rfl, rfl⟩
  go_wp2
  go_loop [5, 6] (fun t i => ∃ (k : Nat) (T : ByteArray), k ≤ s.size ∧ i = .int .i64 k ∧ t = .string T ∧ Hid (T.data.toList = colD (s.data.toList.take k))) (fun _ i => s.size - (intOf i).toNat)
  case atStart => exact ⟨0, ⟨#[]⟩, Nat.zero_le _, rfl, rfl, rfl⟩
  case round =>
    obtain ⟨k, T, hk, rfl, rfl, HK⟩ := hrel
    by_cases hlt : k < s.size
    · have ht := bytes_take s k hlt
      have HT : Hid (colD (s.data.toList.take (k + 1)) = if digB s[k] then (if colD (s.data.toList.take k) = [] then (if s[k] = 48 then [] else [s[k]]) else colD (s.data.toList.take k) ++ [s[k]]) else colD (s.data.toList.take k)) := by
        unfold Hid colD
        rw [ht, List.filter_append]
        by_cases hd : digB s[k] = true
        · rw [if_pos hd, List.filter_cons_of_pos hd, List.filter_nil, tz_snoc]
        · rw [if_neg hd, List.filter_cons_of_neg hd, List.filter_nil, List.append_nil]
      have HE : Hid (digB s[k] = (decide (48 ≤ s[k].toNat) && decide (s[k].toNat ≤ 57))) := rfl
      clear ht
      by_cases d1 : s[k].toNat < 48
      · have g1 : ¬ (48 : Int) ≤ (s[k].toNat : Int) := by omega
        have HN : Hid (T.data.toList = colD (s.data.toList.take (k + 1))) := by
          unfold Hid
          rw [HT.out, if_neg (by rw [HE.out, decide_eq_false (by omega), Bool.false_and]; simp), HK.out]
        clear HT HK HE
        go_wp2
        go_round
        case rel => exact ⟨k + 1, T, by omega, by go_num, rfl, HN.out⟩
        case measure => simp [intOf]; omega
      · have g1 : (48 : Int) ≤ (s[k].toNat : Int) := by omega
        by_cases d2 : 57 < s[k].toNat
        · have g3 : ¬ (s[k].toNat : Int) ≤ 57 := by omega
          have HN : Hid (T.data.toList = colD (s.data.toList.take (k + 1))) := by
            unfold Hid
            rw [HT.out, if_neg (by rw [HE.out, decide_eq_false (p := s[k].toNat ≤ 57) (by omega), Bool.and_false]; simp), HK.out]
          clear HT HK HE
          go_wp2
          go_round
          case rel => exact ⟨k + 1, T, by omega, by go_num, rfl, HN.out⟩
          case measure => simp [intOf]; omega
        · have g3 : (s[k].toNat : Int) ≤ 57 := by omega
          have HD := Lib.hid (show digB s[k] = true by rw [HE.out, decide_eq_true (by omega), decide_eq_true (by omega)]; rfl)
          obtain ⟨X, hX⟩ : ∃ X, X = s.extract k (k + 1) := ⟨_, rfl⟩
          have HX := Lib.hid (ext_one s k hlt)
          rw [← hX] at HX
          have hin : ((k : Int) + 1) ≤ (s.size : Int) := by omega
          have HA : Hid ((T ++ X).data.toList = T.data.toList ++ [s[k]]) := by
            unfold Hid
            rw [ByteArray.data_append, Array.toList_append, HX.out]
          have hov : ¬ 9223372036854775807 < T.size + (min (k + 1) s.size - k) := by
            have h1 := col_len (s.data.toList.take k)
            rw [← HK.out, bytes_len] at h1
            have h2 : (s.data.toList.take k).length ≤ s.size := by rw [List.length_take, bytes_len]; omega
            omega
          cases hT : T.data.toList with
          | nil =>
            have e1 : T.toList = [] := by rw [ByteArray.toList_eq, hT]
            have e2 : T.toList.isEmpty = true := by rw [e1]; rfl
            by_cases h48 : s[k].toNat = 48
            · have f48 : ((s[k].toNat : Int) != 48) = false := by rw [bne_eq_false_iff_eq]; omega
              have HN : Hid (T.data.toList = colD (s.data.toList.take (k + 1))) := by
                unfold Hid
                rw [HT.out, if_pos HD.out, ← HK.out, hT, if_pos rfl, if_pos (UInt8.toNat_inj.1 h48)]
              clear HT HK HE HA
              go_wp2
              go_round
              case rel => exact ⟨k + 1, T, by omega, by go_num, rfl, HN.out⟩
              case measure => simp [intOf]; omega
            · have f48 : ((s[k].toNat : Int) != 48) = true := by rw [bne_iff_ne]; omega
              have HN : Hid ((T ++ X).data.toList = colD (s.data.toList.take (k + 1))) := by
                unfold Hid
                rw [HA.out, HT.out, if_pos HD.out, ← HK.out, hT, if_pos rfl, if_neg (fun e => h48 (by rw [e]; rfl))]
                rfl
              clear HT HK HE HA
              go_wp2
              go_round
              case rel => exact ⟨k + 1, T ++ X, by omega, by go_num, by rw [hX], HN.out⟩
              case measure => simp [intOf]; omega
          | cons x y =>
            have hne : T.toList.isEmpty = false := by rw [ByteArray.toList_eq, hT]; rfl
            have hne2 : (!T.toList.isEmpty) = true := by rw [hne]; rfl
            have hne3 : ¬ T.toList = [] := by intro e; rw [e] at hne; cases hne
            have HN : Hid ((T ++ X).data.toList = colD (s.data.toList.take (k + 1))) := by
              unfold Hid
              rw [HA.out, HT.out, if_pos HD.out, ← HK.out, if_neg (by rw [hT]; simp)]
            clear HT HK HE HA
            go_wp2
            go_round
            case rel => exact ⟨k + 1, T ++ X, by omega, by go_num, by rw [hX], HN.out⟩
            case measure => simp [intOf]; omega
    · have HC : Hid (T.data.toList = colD s.data.toList) := by
        have := HK.out
        rw [List.take_of_length_le (by rw [bytes_len]; omega)] at this
        exact this
      have HH : Hid (s.data.toList.headD 0 = s[0]) := by
        cases hl : s.data.toList with
        | nil => have := HL.out; rw [hl] at this; simp at this; omega
        | cons c r =>
          have : s.data.toList[0]'(by rw [hl]; simp) = c := by simp [hl]
          exact this.symm
      have htl : T.size ≤ 65536 := by
        have h1 := col_len s.data.toList
        rw [← HC.out, bytes_len, bytes_len] at h1
        omega
      have hov : ¬ 9223372036854775807 < 1 + T.size := by omega
      clear HK
      have HY : Hid (∀ Y : ByteArray, Y.data.toList = (if s[0] = 45 then [45] else []) ++ (if T.data.toList = [] then [48] else T.data.toList) → Y.size ≤ 70000 ∧ (if parseOK Y.data.toList then parseV Y.data.toList else 0) = Z) := by
        intro Y hY
        have e : Y.data.toList = tD s.data.toList := by rw [hY, tD, HH.out, HC.out]
        refine ⟨?_, by rw [e]; exact hZ.out⟩
        rw [← bytes_len, hY, List.length_append]
        have hh1 : (if s[0] = 45 then ([45] : List UInt8) else []).length ≤ 1 := by split <;> simp
        have hh2 : (if T.data.toList = [] then ([48] : List UInt8) else T.data.toList).length ≤ 65536 := by
          split
          · simp
          · rw [bytes_len]; exact htl
        omega
      have hcs : (((s[0].toNat : Int) == 45) = true ∧ T.toList = [] ∧ T.toList.isEmpty = true ∧ Hid ((⟨#[45]⟩ ++ ⟨#[48]⟩ : ByteArray).size ≤ 70000 ∧ (if parseOK (⟨#[45]⟩ ++ ⟨#[48]⟩ : ByteArray).data.toList then parseV (⟨#[45]⟩ ++ ⟨#[48]⟩ : ByteArray).data.toList else 0) = Z)) ∨
          (((s[0].toNat : Int) == 45) = true ∧ ¬ T.toList = [] ∧ T.toList.isEmpty = false ∧ Hid ((⟨#[45]⟩ ++ T : ByteArray).size ≤ 70000 ∧ (if parseOK (⟨#[45]⟩ ++ T : ByteArray).data.toList then parseV (⟨#[45]⟩ ++ T : ByteArray).data.toList else 0) = Z)) ∨
          (((s[0].toNat : Int) == 45) = false ∧ T.toList = [] ∧ T.toList.isEmpty = true ∧ Hid ((⟨#[48]⟩ : ByteArray).size ≤ 70000 ∧ (if parseOK (⟨#[48]⟩ : ByteArray).data.toList then parseV (⟨#[48]⟩ : ByteArray).data.toList else 0) = Z)) ∨
          (((s[0].toNat : Int) == 45) = false ∧ ¬ T.toList = [] ∧ T.toList.isEmpty = false ∧ Hid (T.size ≤ 70000 ∧ (if parseOK T.data.toList then parseV T.data.toList else 0) = Z)) := by
        rw [ByteArray.toList_eq]
        by_cases h45 : s[0].toNat = 45
        · have g45 : ((s[0].toNat : Int) == 45) = true := by rw [beq_iff_eq]; omega
          have E45 : s[0] = 45 := UInt8.toNat_inj.1 h45
          cases hT : T.data.toList with
          | nil => exact .inl ⟨g45, rfl, rfl, HY.out _ (by rw [if_pos E45, if_pos hT]; rfl)⟩
          | cons x y => exact .inr (.inl ⟨g45, by simp, rfl, HY.out _ (by rw [if_pos E45, if_neg (by rw [hT]; simp), ByteArray.data_append, Array.toList_append])⟩)
        · have g45 : ((s[0].toNat : Int) == 45) = false := by rw [beq_eq_false_iff_ne]; omega
          have E45 : s[0] ≠ 45 := fun e => h45 (by rw [e]; rfl)
          cases hT : T.data.toList with
          | nil => exact .inr (.inr (.inl ⟨g45, rfl, rfl, HY.out _ (by rw [if_neg E45, if_pos hT]; rfl)⟩))
          | cons x y => exact .inr (.inr (.inr ⟨g45, by simp, rfl, by have := HY.out T (by rw [if_neg E45, if_neg (by rw [hT]; simp)]; rfl); rwa [hT] at this⟩))
      clear HY HC HH htl
      rcases hcs with ⟨g45, e1, e2, hy⟩ | ⟨g45, e1, e2, hy⟩ | ⟨g45, e1, e2, hy⟩ | ⟨g45, e1, e2, hy⟩
      all_goals
        go_wp2_with fail
        refine (rparse_calls w' _ ?hsz).mono ?_
        case hsz => exact Nat.le_trans hy.out.1 (by decide)
        rintro e w2 ⟨v, rfl, hv, ex⟩
        rw [hy.out.2] at hv
        clear hy
        generalize (if parseOK _ = true then (0 : Int) else 2) = er
        have hv0 := hv
        obtain ⟨ao, cap, sg, m, rfl, hvr⟩ := hv.open_
        clear hv hvr
        obtain ⟨W2, hW2, eW2, hz2, q0, q1, f2, f3⟩ := res_new w2 25
        go_wp2_with fail
        have exA : Ext w2 ((W2.setCell ⟨w2.heap.size, 0, none⟩ (.bool sg)).setCell ⟨w2.heap.size, 1, none⟩ (.slice ao (limbs m).length cap)) := eW2.put (Nat.le_refl _) _ _
        refine (rfromInt_calls _ _ Z (hv0.ext exA) (lZ.mono (by omega))).mono ?_
        rintro e w3 ⟨u, rfl, hu, ex3⟩
        go_wp2_with fail
        refine (rpower_calls w3 n hn).mono ?_
        rintro e w4 ⟨x, rfl, ⟨hx, lx⟩, ex4⟩
        go_wp2_with fail
        have hxq : IsRat w4 x (((10 : Int) ^ n : Int) : Rat) := by
          show IsPair w4 x (((10 : Int) ^ n : Int) : Rat).num ((((10 : Int) ^ n : Int) : Rat).den : Int)
          rw [Rat.num_intCast, Rat.den_intCast]; exact hx
        have huq : IsRat w4 u (Z : Rat) := by
          show IsPair w4 u (Z : Rat).num ((Z : Rat).den : Int)
          rw [Rat.num_intCast, Rat.den_intCast]; exact hu.ext ex4
        have lzq : LimQ 100000 (Z : Rat) := ⟨by rw [Rat.num_intCast]; exact lZ.mono (by omega), by rw [Rat.den_intCast]; exact lim1 (z := 1) (by decide) |>.mono (by omega)⟩
        have lxq : LimQ 100000 (((10 : Int) ^ n : Int) : Rat) := ⟨by rw [Rat.num_intCast]; exact lx.mono (by omega), by rw [Rat.den_intCast]; exact lim1 (z := 1) (by decide) |>.mono (by omega)⟩
        have hne0 : (((10 : Int) ^ n : Int) : Rat) ≠ 0 := by
          intro e
          have e2 : ((10 : Int) ^ n) = 0 := Rat.intCast_inj.1 (by rw [e]; rfl)
          exact Int.ne_of_gt (Int.pow_pos (by decide)) e2
        refine (rover_calls w4 u x _ _ huq hxq hne0 lzq lxq).mono ?_
        rintro e w5 ⟨y, rfl, hy5, ex5⟩
        have exT : Ext w' w5 := ((((ex.trans exA).trans ex3).trans ex4).trans ex5)
        have g0 := exT.cell r0
        have g1' := exT.cell r1
        have g2' := exT.cell r2
        have g3' := exT.cell r3
        have gf : ∀ i, w5.frozen? ⟨w.heap.size, i, none⟩ = false := fun i => exT.frozen (p := ⟨w.heap.size, i, none⟩) (by show w.heap.size < w'.heap.size; omega) (f0 i)
        have exW : Ext w w5 := eW.trans exT
        have hy6 := hy5
        obtain ⟨y1, y2, y3, y4, rfl, i1, i2⟩ := hy5
        have HR : Res4 w.heap.size w5 := ⟨g0, g1', g2', g3', gf 0, gf 1, gf 2, gf 3⟩
        obtain ⟨aA, pA, sA, nA, eA, _⟩ := i1.open_
        obtain ⟨aC, pC, sC, nC, eC, _⟩ := i2.open_
        injection eA with eA
        injection eA with eA
        injection eA with eA1 eA2
        injection eA2 with eA2 _
        injection eC with eC
        injection eC with eC
        injection eC with eC1 eC2
        injection eC2 with eC2 _
        subst eA1 eA2 eC1 eC2
        have j1 := Lib.hid (HR.put i1 (.bool sA) (.slice aA (limbs nA).length pA) (.bool sC) (.slice aC (limbs nC).length pC))
        have j2 := Lib.hid (HR.put i2 (.bool sA) (.slice aA (limbs nA).length pA) (.bool sC) (.slice aC (limbs nC).length pC))
        have jE := Lib.hid exW
        clear i1 i2
        go_wp2
        exact bodyPost_ret (v := .tuple #[.agg #[.bool sA, .slice aA (limbs nA).length pA, .bool sC, .slice aC (limbs nC).length pC], .int .i64 0]) (by simp [results, Tryz.results13, go_sem, g0, g1', g2', g3']) rfl ⟨_, rfl, ⟨_, _, _, _, rfl, j1.out, j2.out⟩, put4_ext jE.out (Nat.le_refl _) _ _ _ _⟩
end Go.Proofs.YtllijnecmekfeaaGreatDoor
end

section
set_option maxRecDepth 100000
namespace Go.Proofs.YtllijnecmekfeaaGreatDoor
open Go.RowKit Go.Shelf
theorem filter_all {l : List UInt8} (h : l.all digB = true) : l.filter digB = l := List.filter_eq_self.2 (fun x hx => List.all_eq_true.1 h x hx)
theorem filter_neg (l : List UInt8) : l.filter digB = (digL l).filter digB := by
  cases l with
  | nil => rfl
  | cons c r =>
    rw [(negL_cons c r).2]
    cases h : (c == 45) with
    | true =>
      have : c = 45 := by simpa using h
      subst this
      rw [if_pos rfl, List.filter_cons_of_neg (by decide)]
    | false => rw [if_neg (by simp)]
theorem filter_parts {l : List UInt8} (h : okD l = true) : l.filter digB = whD l ++ frD l ∧ (whD l ++ frD l).all digB = true := by
  unfold okD vPd at h
  rw [Bool.and_eq_true, Bool.and_eq_true] at h
  obtain ⟨⟨hw, hf⟩, _⟩ := h
  have hwd : (whD l).all digB = true := by
    unfold numB at hw
    simp only [Bool.and_eq_true] at hw
    exact hw.2.2
  rw [filter_neg]
  rcases twp_split (digL l) with hno | ⟨a, b, hab, hno⟩
  · have hc := cut_nodot hno
    have e1 : whD l = digL l := by unfold whD; rw [hc]
    have e2 : frD l = [] := by unfold frD; rw [hc]
    rw [e1] at hwd
    rw [e1, e2, List.append_nil]
    exact ⟨filter_all hwd, hwd⟩
  · have hc := cut_dot (b := b) hno
    have e1 : whD l = a := by unfold whD; rw [hab, hc]
    have e2 : frD l = b := by unfold frD; rw [hab, hc]
    have e3 : ptD l = true := by unfold ptD; rw [hab, hc]
    rw [e3] at hf
    have hfd : b.all digB = true := by
      have hf' : fOK l = true := by simpa using hf
      unfold fOK dgB at hf'
      simp only [Bool.and_eq_true] at hf'
      rw [e2] at hf'
      exact hf'.1.2
    rw [e1] at hwd
    rw [e1, e2, hab, List.filter_append, List.filter_cons_of_neg (by decide), filter_all hwd, filter_all hfd, List.all_append, hwd, hfd]
    exact ⟨rfl, rfl⟩
theorem head_neg (l : List UInt8) : (l.headD 0 = 45) ↔ negL l = true := by
  cases l with
  | nil => exact ⟨fun h => absurd h (by decide), fun h => by cases h⟩
  | cons c r =>
    rw [(negL_cons c r).1, beq_iff_eq]
    exact Iff.rfl
theorem tD_sg {l : List UInt8} (hl : l.length ≤ 65536) (h : okD l = true) : pZ (tD l) = sgD l := by
  obtain ⟨hf, ha⟩ := filter_parts h
  have hlen : (whD l ++ frD l).length ≤ l.length := by rw [← hf]; exact List.length_filter_le _ _
  have hcol : colD l = tzL (whD l ++ frD l) := by unfold colD; rw [hf]
  have hnD : nD l = (dv (colD l) : Nat) := by
    unfold nD
    rw [vO_dv (by omega) ha, hcol, dv_tz]
  have hnz : (negL l && decide (nD l = 0)) = false := by
    unfold okD at h
    rw [Bool.and_eq_true] at h
    have h2 := h.2
    cases hx : (negL l && decide (nD l = 0)) with
    | false => rfl
    | true => rw [hx] at h2; cases h2
  unfold sgD
  cases hc : colD l with
  | nil =>
    have n0 : nD l = 0 := by rw [hnD, hc]; rfl
    have hng : negL l = false := by
      cases hg : negL l with
      | false => rfl
      | true => rw [hg, n0] at hnz; cases hnz
    have hh : ¬ l.headD 0 = 45 := fun e => by rw [(head_neg l).1 e] at hng; cases hng
    rw [hng, n0, tD, if_neg hh, hc, if_pos rfl]
    rfl
  | cons c r =>
    have hcl : colD l ≠ [] := by rw [hc]; simp
    have hc48 : c ≠ 48 := tz_head _ c r (by rw [← hcol]; exact hc)
    have hall : (c :: r).all digB = true := by rw [← hc, hcol]; exact tz_all _ ha
    have hdc : digB c = true := by rw [List.all_cons, Bool.and_eq_true] at hall; exact hall.1
    have hc45 : c ≠ 45 := by rintro rfl; revert hdc; decide
    have hnb : numB (c :: r) = true := by
      rw [numB_eq, beq_eq_false_iff_ne.2 (show (c :: r).headD 0 ≠ 48 from hc48), dgB, hall]
      cases ((c :: r) == [48]) <;> rfl
    have hlc : (c :: r).length ≤ l.length := by rw [← hc]; exact col_len l
    have hne : ((c :: r) == [48]) = false := beq_eq_false_iff_ne.2 (fun e => hc48 (by injection e))
    rw [hnD, hc]
    cases hg : negL l with
    | true =>
      have hh : l.headD 0 = 45 := (head_neg l).2 hg
      have hnl : (c :: r).length + 1 ≤ l.length := by
        have h1 := neg_len l
        rw [hg] at h1
        have h2 := of_decide_eq_true h1.symm
        have h3 : (c :: r).length ≤ (digL l).length := by
          rw [← hc, colD, filter_neg]
          exact Nat.le_trans (tzL_len _) (List.length_filter_le _ _)
        omega
      have et : tD l = 45 :: c :: r := by rw [tD, if_pos hh, if_neg hcl, hc]; rfl
      obtain ⟨e1, e2⟩ := negL_cons 45 (c :: r)
      rw [beq_self_eq_true] at e1 e2
      rw [if_pos rfl] at e2
      have hok : parseOK (45 :: c :: r) = true := by
        unfold parseOK
        rw [e1, e2, hnb, hne, decide_eq_true (by rw [List.length_cons]; omega)]
        rfl
      rw [et, pZ, if_pos hok, parseV, e1, e2]
      rfl
    | false =>
      have hh : ¬ l.headD 0 = 45 := fun e => by rw [(head_neg l).1 e] at hg; cases hg
      have et : tD l = c :: r := by rw [tD, if_neg hh, if_neg hcl, hc]; rfl
      obtain ⟨e1, e2⟩ := negL_cons c r
      rw [beq_eq_false_iff_ne.2 hc45] at e1 e2
      rw [if_neg (by simp)] at e2
      have hok : parseOK (c :: r) = true := by
        unfold parseOK
        rw [e1, e2, hnb, decide_eq_true (by omega)]
        rfl
      rw [et, pZ, if_pos hok, parseV, e1, e2]
      rfl
theorem rparseD_calls (w : World) (l : List UInt8) (hl : l.length ≤ 65536) : Calls Tryz.prog 13 #[.string ⟨l.toArray⟩] w (RetPd l w) := by
  have hp := fun w => places_calls w l hl
  have he := pl_eq l hl
  cases ho : okD l with
  | false =>
    rw [ho] at he
    rw [he] at hp
    refine (rparseD_bad w _ hp).mono ?_
    rintro e w' ⟨v, rfl, hv, ex⟩
    exact ⟨v, by rw [ho]; rfl, by rw [ho]; exact hv, ex⟩
  | true =>
    rw [ho, if_pos rfl] at he
    rw [he] at hp
    have hk : (frD l).length ≤ 30 := by
      unfold okD at ho
      rw [Bool.and_eq_true] at ho
      have h := ho.1
      unfold vPd at h
      rw [Bool.and_eq_true] at h
      cases hpt : ptD l with
      | false => rw [fr_nopt l hpt]; simp
      | true =>
        rw [hpt] at h
        have h2 : fOK l = true := by simpa using h.2
        unfold fOK at h2
        rw [Bool.and_eq_true, decide_eq_true_iff] at h2
        exact h2.2
    have h0 : 0 < l.length := by
      cases l with
      | nil => revert ho; decide
      | cons c r => simp
    have hsg := tD_sg hl ho
    have lz : Lim 7282 (sgD l) := by
      have hw : (whD l ++ frD l).length ≤ 65536 := by rw [← (filter_parts ho).1]; exact Nat.le_trans (List.length_filter_le _ _) hl
      have nl : Lim 7282 (nD l) := vO_lim hw
      unfold sgD
      split
      · exact nl.neg
      · exact nl
    refine (rparseD_good w ⟨l.toArray⟩ (by rw [bytes_size]; exact hl) (frD l).length hk (by rw [bytes_size]; exact h0) (sgD l) hsg lz hp).mono ?_
    rintro e w' ⟨v, rfl, hv, ex⟩
    refine ⟨v, by rw [ho]; rfl, ?_, ex⟩
    rw [ho]
    have eq : qD l = (sgD l : Rat) / (((10 : Int) ^ (frD l).length : Int) : Rat) := by unfold qD; rw [Rat.divInt_eq_div]
    show IsRat w' v (qD l)
    rw [eq]
    exact hv
end Go.Proofs.YtllijnecmekfeaaGreatDoor
end

section
set_option maxRecDepth 100000
namespace Go.Proofs.YtllijnecmekfeaaGreatDoor
open Go.RowKit Go.Shelf
theorem strW_ok {E : Env} {f i : Nat} {r : AV} (np : ∀ x off, r ≠ .ptr x off) (hb : ∃ fn, Tryz.prog.funcs[f]? = some fn ∧ fn.name ≠ "runtime.NumGoroutine" ∧ fn.body.isNone = false) (h : ∀ w, WQ w → Calls Tryz.prog f #[.string ⟨(E.s i).toArray⟩] w fun e w' => ∃ x, e = .returned x ∧ (∀ β, r.holds E β w' x) ∧ Ext w w') : ConW Tryz.prog WQ E f (kKq (cStr i) r kNoQ) := by
  refine ⟨?_, ?_, hb⟩
  · intro args G s hs hG β w vs hW hv hlen
    unfold kKq at hs
    split at hs
    · rename_i hc
      injection hs with hs
      subst hs
      unfold cStr at hc
      split at hc
      · rw [beq_iff_eq] at hc
        subst hc
        obtain ⟨v, rfl, h1⟩ := args1 hv hlen
        rw [(one_str.1 h1).1]
        refine (h w hW).mono ?_
        rintro e w' ⟨x, rfl, hx, ex⟩
        exact ⟨x, rfl, hx β, ex⟩
      · cases hc
    · cases hs
  · intro args G s hs x off
    unfold kKq at hs
    split at hs
    · injection hs with hs; subst hs; exact np x off
    · cases hs
def rBd : AV := .tup [(true, [.int (.lit 0) 1, .int (.lit 0) 1]), (false, [.n .i64 (.lit 2)])]
noncomputable def tabLp (o : Bool) : List (Nat × Con) := (11, kAw6) :: (12, kKq (cStr 0) (if o then rPd else rBd) kNoQ) :: (13, kKq (cStr 0) (if o then rPd else rBd) kNoQ) :: (14, kSame) :: (15, kZero) :: []
def aStr : AV := .val false [.str (.var 0) 9223372036854775807]
theorem lp_walk : (bools.all fun o => okL6 (funE (cfgW WQ (tabLp o)) Tryz.f3 [(.lt (.lit 200) (.slen 0), false)] [aStr])) = true := by kernel_rfl
theorem lp_long : okL6 (funE (cfgW WQ [(11, kAw6)]) Tryz.f3 [(.lt (.lit 200) (.slen 0), true)] [aStr]) = true := by kernel_rfl
theorem qd_lim {l : List UInt8} (hl : l.length ≤ 65536) (ho : okD l = true) : LimQ 8000 (qD l) := by
  have hk : (frD l).length ≤ 30 := by
    unfold okD at ho
    rw [Bool.and_eq_true] at ho
    have h := ho.1
    unfold vPd at h
    rw [Bool.and_eq_true] at h
    cases hpt : ptD l with
    | false => rw [fr_nopt l hpt]; simp
    | true =>
      rw [hpt] at h
      have h2 : fOK l = true := by simpa using h.2
      unfold fOK at h2
      rw [Bool.and_eq_true, decide_eq_true_iff] at h2
      exact h2.2
  have hw : (whD l ++ frD l).length ≤ 65536 := by rw [← (filter_parts ho).1]; exact Nat.le_trans (List.length_filter_le _ _) hl
  have nl : Lim 7282 (nD l) := vO_lim hw
  have sl : Lim 7282 (sgD l) := by
    unfold sgD
    split
    · exact nl.neg
    · exact nl
  have pl : Lim 100 ((10 : Int) ^ (frD l).length) := by
    refine limbs_len_le ?_
    rw [Int.natAbs_pow]
    refine Nat.lt_of_le_of_lt (Nat.pow_le_pow_right (by decide) hk) ?_
    decide +kernel
  have q2 := divInt_lim sl pl (Int.ne_of_gt (Int.pow_pos (by decide)))
  exact ⟨q2.1.mono (by omega), q2.2.mono (by omega)⟩
theorem decimalParse_calls (w : World) (hw : WQ w) (s : ByteArray) (hs : s.size ≤ 9223372036854775807) : Calls Tryz.prog 3 #[.string s] w (IsT w) := by
  obtain ⟨l, hl⟩ : ∃ l, l = s.data.toList := ⟨_, rfl⟩
  have hsl : s = ⟨l.toArray⟩ := by rw [hl]
  have hll : l.length = s.size := by rw [hl, bytes_len]
  rw [hsl]
  obtain ⟨E, hE⟩ : ∃ E, E = sE [l] [0, 0, 0, 0, (qD l).num, ((qD l).den : Int)] [] := ⟨_, rfl⟩
  have s0 : E.s 0 = l := by rw [hE]; rfl
  have i4 : E.i 4 = (qD l).num := by rw [hE]; rfl
  have i5 : E.i 5 = ((qD l).den : Int) := by rw [hE]; rfl
  have ar : ∀ (i : Nat) (x : AV), [aStr][i]? = some x → ∃ v, [Value.string ⟨l.toArray⟩][i]? = some v ∧ ∀ β, x.holds E β w v := by
    intro i x hx
    match i, hx with
    | 0, hx => injection hx with hx; subst hx; exact ⟨_, rfl, fun β => one_str.2 ⟨by show _ = Value.string ⟨(E.s 0).toArray⟩; rw [s0], by show (E.s 0).length ≤ _; rw [s0]; omega⟩⟩
  by_cases h200 : 200 < l.length
  · refine law6_calls (E := E) (.cons kAw6_ok .nil) (asm_and ?_ asm_nil) Tryz.func3 (by decide +kernel) lp_long (by decide +kernel) rfl w hw [_] rfl ar
    show decide ((200 : Int) < ((E.s 0).length : Int)) = true
    rw [s0, decide_eq_true_iff]; omega
  · have h65 : l.length ≤ 65536 := by omega
    have both : ∀ (f : Nat), (∀ w, WQ w → Calls Tryz.prog f #[.string ⟨l.toArray⟩] w (RetPd l w)) → ∀ w, WQ w → Calls Tryz.prog f #[.string ⟨(E.s 0).toArray⟩] w fun e w' => ∃ x, e = .returned x ∧ (∀ β, (if okD l then rPd else rBd).holds E β w' x) ∧ Ext w w' := by
      intro f hf w hW
      rw [s0]
      refine (hf w hW).mono ?_
      rintro e w' ⟨v, rfl, hv, ex⟩
      refine ⟨_, rfl, fun β => ?_, ex⟩
      cases ho : okD l with
      | true =>
        rw [ho] at hv
        have lq := qd_lim h65 ho
        obtain ⟨a, b, c, d, rfl, j1, j2⟩ := hv
        refine ⟨[.agg #[a, b, c, d], .int .i64 _], rfl, _, _, rfl, ⟨[a, b, c, d], rfl, [a, b], [c, d], rfl, ⟨a, b, rfl, ?_, ?_⟩, [c, d], [], rfl, ⟨c, d, rfl, ?_, ?_⟩, rfl⟩, _, _, rfl, one_num.2 rfl, rfl⟩
        · show IsInt w' _ (E.i 4); rw [i4]; exact j1
        · show Lim 8000 (E.i 4); rw [i4]; exact lq.1
        · show IsInt w' _ (E.i 5); rw [i5]; exact j2
        · show Lim 8000 (E.i 5); rw [i5]; exact lq.2
      | false =>
        rw [ho] at hv
        obtain ⟨a, b, c, d, rfl, j1, j2⟩ := hv
        exact ⟨[.agg #[a, b, c, d], .int .i64 _], rfl, _, _, rfl, ⟨[a, b, c, d], rfl, [a, b], [c, d], rfl, ⟨a, b, rfl, j1, lim_zero⟩, [c, d], [], rfl, ⟨c, d, rfl, j2, lim_zero⟩, rfl⟩, _, _, rfl, one_num.2 rfl, rfl⟩
    have np : ∀ x off, (if okD l then rPd else rBd) ≠ .ptr x off := by
      intro x off
      split <;> intro e <;> cases e
    have hT : TabW Tryz.prog WQ E (tabLp (okD l)) :=
      .cons kAw6_ok <| .cons (strW_ok np ⟨_, Tryz.func12, by decide +kernel, by kernel_rfl⟩ (both _ fun w hW => dparse_calls w hW l h65)) <|
      .cons (strW_ok np ⟨_, Tryz.func13, by decide +kernel, by kernel_rfl⟩ (both _ fun w _ => rparseD_calls w l h65)) <|
      .cons kSame_ok.toW <| .cons kZero_ok.toW .nil
    refine law6_calls hT (asm_and ?_ asm_nil) Tryz.func3 (by decide +kernel) (List.all_eq_true.1 lp_walk _ (bools_mem (okD l))) (by decide +kernel) rfl w hw [_] rfl ar
    show decide ((200 : Int) < ((E.s 0).length : Int)) = false
    rw [s0, decide_eq_false_iff_not]; omega
end Go.Proofs.YtllijnecmekfeaaGreatDoor
end
