/-
  Texts of this seat, joined.
-/
import Derived.Test.YtifeacfljfmnpaaGreatJ4
import Derived.LaidLaws
import Derived.Handed
import Derived.Laws.FloatArith
import Derived.Laws.Externs
import Ieee.Arith
section
set_option maxRecDepth 100000
namespace Go.Proofs.YtifeacfljfmnpaaGreat
open Go.RowKit
def endR2 (A B C : IT2) (l m : Nat) : Tree := .ite (zt B) (lf2 A q0 q0 l 3 3) (.ite (zt C) (lf2 A q0 q0 l 3 3) (lf2 A B C l m 3000))
theorem endR2_out {E : Env} {β : Nat → Nat} {w : World} {v : Value} {A B C : IT2} {a b c : Rat} {l m : Nat} (hA : RepQ E A a) (hB : RepQ E B b) (hC : RepQ E C c) (hz : b ≠ 0 → c ≠ 0) (h : (toAV ((endR2 A B C l m).pick E)).holds E β w v) : ∃ x, v = .tuple #[x, .int .i64 0] ∧ IsRoot w x a b (rC b c) := by
  unfold endR2 at h
  rw [ite_pick (zt_den hB), ite_pick (zt_den hC)] at h
  by_cases hb : b = 0
  · rw [decide_eq_true hb, if_pos rfl] at h
    rw [hb, rC_zero]
    exact lf2_out hA rep_0 rep_0 h
  · rw [decide_eq_false hb, if_neg (by decide), decide_eq_false (hz hb), if_neg (by decide)] at h
    rw [rC_ne hb]
    exact lf2_out hA hB hC h
section
variable {a b c a' b' c' : Rat} {x x' y : Tree} {β : Nat → Nat} {w w' : World} {v u : Value}
def muA (A B A' B' C : IT2) : IT2 := qop 0 (qop 2 A A') (qop 2 (qop 2 B B') C)
def muB (A B A' B' : IT2) : IT2 := qop 0 (qop 2 A B') (qop 2 B A')
theorem rep_muA {E : Env} {A B A' B' C : IT2} {a b a' b' c : Rat} (ra : RepQ E A a) (rb : RepQ E B b) (ra' : RepQ E A' a') (rb' : RepQ E B' b') (rc : RepQ E C c) : RepQ E (muA A B A' B' C) (a * a' + b * b' * c) := rep_add (rep_mul ra ra') (rep_mul (rep_mul rb rb') rc)
theorem rep_muB {E : Env} {A B A' B' : IT2} {a b a' b' : Rat} (ra : RepQ E A a) (rb : RepQ E B b) (ra' : RepQ E A' a') (rb' : RepQ E B' b') : RepQ E (muB A B A' B') (a * b' + b * a') := rep_add (rep_mul ra rb') (rep_mul rb ra')
theorem r_mul (R : Rd b c) (R' : Rd b' c') (h : IsRoot w v a b c) (hu : IsRoot w u a' b' c') (l : LimR 3000 a b c) (l' : LimR 3000 a' b' c') : Calls Tryz.prog 187 #[v, u] w (RetR w (Ok b c b' c') 1 (a * a' + b * b' * cm b c c') (a * b' + b * a') (rC (a * b' + b * a') (cm b c c'))) := by
  refine (walk2 (l := [a, b, c, a', b', c']) (tab := []) (x := aR 0) (z := aR 3)
    (T := comR (endR2 (muA (qv 0) (qv 1) (qv 3) (qv 4) (qv 2)) (muB (qv 0) (qv 1) (qv 3) (qv 4)) (qv 2) 84009 48005) (endR2 (muA (qv 0) (qv 1) (qv 3) (qv 4) (qv 5)) (muB (qv 0) (qv 1) (qv 3) (qv 4)) (qv 5) 84009 48005))
    Tryz.func187 (by decide +kernel) .nil no_asm (by kernel_rfl) (by decide +kernel) rfl w v u (fun _ => aR_holds h l) (fun _ => aR_holds hu l')).mono ?_
  rintro e w' ⟨β, y, rfl, hh, ex⟩
  obtain ⟨ra, rb, rc, ra', rb', rc'⟩ := rep6 (a := a) (b := b) (c := c) (a' := a') (b' := b') (c' := c')
  refine RetR.of ex ?_
  rcases comR_out hh with ⟨ho, ⟨hb, hh⟩ | ⟨hb, hh⟩⟩ | hno
  · refine .inl ⟨ho, ?_⟩
    rw [show cm b c c' = c' by rw [hb, cm_zero]]
    refine endR2_out (rep_muA ra rb ra' rb' rc') (rep_muB ra rb ra' rb') rc' (fun hne => R'.c0 (fun e => hne ?_)) hh
    rw [hb, e]; grind
  · refine .inl ⟨ho, ?_⟩
    rw [cm_ne hb]
    exact endR2_out (rep_muA ra rb ra' rb' rc) (rep_muB ra rb ra' rb') rc (fun _ => R.c0 hb) hh
  · exact .inr hno
end
theorem rep_dv {E : Env} {p q : IT2} {a b : Rat} (hp : RepQ E p a) (hq : RepQ E q b) : RepQ E (qop 11 p q) (a / b) := rep_op (f := 11) (by omega) hp hq
end Go.Proofs.YtifeacfljfmnpaaGreat
end

section
set_option maxRecDepth 100000
namespace Go.Proofs.YtifeacfljfmnpaaGreat
open Go.RowKit
def nrmT (A B C : IT2) : IT2 := qop 1 (qop 2 A A) (qop 2 (qop 2 B B) C)
theorem rep_nrm {E : Env} {A B C : IT2} {a b c : Rat} (ra : RepQ E A a) (rb : RepQ E B b) (rc : RepQ E C c) : RepQ E (nrmT A B C) (nrm a b c) := rep_sub (rep_mul ra ra) (rep_mul (rep_mul rb rb) rc)
theorem eq0_den {E : Env} {p : IT2} {q : Rat} (h : RepQ E p q) : (BT.eq p.1 (.lit 0)).den E = decide (q = 0) := by
  show (p.1.den E == 0) = _
  rw [h.1, Bool.eq_iff_iff, beq_iff_eq, decide_eq_true_iff, Rat.num_eq_zero]
section
variable {w : World} {v u : Value} {a b c : Rat}
theorem rep3 : RepQ (qE [a, b, c]) (qv 0) a ∧ RepQ (qE [a, b, c]) (qv 1) b ∧ RepQ (qE [a, b, c]) (qv 2) c := ⟨rep_v (i := 0), rep_v (i := 1), rep_v (i := 2)⟩
end
end Go.Proofs.YtifeacfljfmnpaaGreat
end

section
set_option maxRecDepth 100000
namespace Go.Proofs.YtifeacfljfmnpaaGreat
open Go.RowKit
def kRIv : Con
  | [x], G => match rtOf x with
    | some ((A, B, C), m) => if rdA true G B C && decide (m ≤ 300) then
        match (BT.eq (nrmT A B C).1 (.lit 0)).ev G with
        | some false => some (.tup [(true, rt (qop 11 A (nrmT A B C)) (qng (qop 11 B (nrmT A B C))) C (58 * m + 19)), (false, [.n .i64 (.lit 0)])])
        | some true => some (.tup (bad6 6))
        | none => none
      else none
    | _ => none
  | _, _ => none
theorem LimQ.nrm {m : Nat} {a b c : Rat} (l : LimR m a b c) : LimQ (28 * m + 9) (nrm a b c) := by
  have h1 := l.1.mulQ l.1
  have h2 := l.2.1.mulQ l.2.1
  obtain ⟨h3, h4⟩ := LimQ.mul h2.1 h2.2 l.2.2.1 l.2.2.2
  obtain ⟨h5, h6⟩ := LimQ.sub h1.1 h1.2 h3 h4
  exact ⟨h5.mono (by omega), h6.mono (by omega)⟩
theorem LimQ.divQ {l m : Nat} {a b : Rat} (h : LimQ l a) (k : LimQ m b) (hb : b ≠ 0) : LimQ (2 * l + 2 * m + 1) (a / b) := by
  obtain ⟨m1, m2⟩ := LimQ.div h.1 h.2 k.1 k.2
  have e2 : divD a b = ((a / b).den : Int) := by unfold divD; rw [if_neg hb]
  rw [e2] at m2
  exact ⟨m1.mono (by omega), m2.mono (by omega)⟩
theorem kRIv_ok {E : Env} (hE : QEnv E) {f : Nat} (hc : ∀ (w : World) (v : Value) (a b c : Rat), Rd b c → IsRoot w v a b c → LimR 300 a b c → Calls Tryz.prog f #[v] w (RetR w (nrm a b c ≠ 0) 6 (a / nrm a b c) (-(b / nrm a b c)) c))
    (hb : ∃ fn, Tryz.prog.funcs[f]? = some fn ∧ fn.name ≠ "runtime.NumGoroutine" ∧ fn.body.isNone = false) : ConOK Tryz.prog E f kRIv := by
  refine ⟨?_, ?_, hb⟩
  · intro args G r h hG β w vs hv hlen
    unfold kRIv at h
    split at h
    · split at h
      · rename_i x A B C m hx
        split at h
        · rename_i hcd
          simp only [Bool.and_eq_true, decide_eq_true_iff] at hcd
          obtain ⟨v, rfl, h1⟩ := args1 hv hlen
          obtain ⟨a, b, c, ra, rb, rc, ir, lr⟩ := rtOf_spec hE hx h1
          have R := rdA_spec hG rb rc hcd.1 rfl
          have key := hc w v a b c R ir (lr.mono hcd.2)
          have rn := rep_nrm ra rb rc
          split at h
          · rename_i ho
            have hz := BT.ev_spec hG ho
            rw [eq0_den rn, decide_eq_false_iff_not] at hz
            injection h with h
            subst h
            refine key.mono ?_
            rintro e w' ⟨k1, _⟩
            obtain ⟨x', rfl, hr, ex⟩ := k1 hz
            have ln := LimQ.nrm lr
            exact ⟨_, rfl, ⟨[x', .int .i64 0], rfl, x', _, rfl, (one_rt (rep_dv ra rn) (rep_ng (rep_dv rb rn)) rc).2 ⟨hr, (lr.1.divQ ln hz).mono (by omega), ((lr.2.1.divQ ln hz).negQ).mono (by omega), lr.2.2.mono (by omega)⟩, _, _, rfl, one_num.2 rfl, rfl⟩, ex⟩
          · rename_i ho
            have hz := BT.ev_spec hG ho
            rw [eq0_den rn, decide_eq_true_iff] at hz
            injection h with h
            subst h
            refine key.mono ?_
            rintro e w' ⟨_, k1⟩
            obtain ⟨x', rfl, hr, ex⟩ := k1 (fun k => k hz)
            exact ⟨_, rfl, ⟨[x', .int .i64 6], rfl, x', _, rfl, hr E, _, _, rfl, one_num.2 rfl, rfl⟩, ex⟩
          · cases h
        · cases h
      · cases h
    · cases h
  · intro args G r h x off
    unfold kRIv at h
    split at h
    · split at h
      · split at h
        · split at h
          · injection h with h; subst h; intro e; cases e
          · injection h with h; subst h; intro e; cases e
          · cases h
        · cases h
      · cases h
    · cases h
def sqT (x : IT) : BT := .and (.eq (.a1 3 x) (.lit 0)) (.eq (.a2 2 (.a1 2 x) (.a1 2 x)) x)
theorem sqT_den {E : Env} {x : IT} : (sqT x).den E = sqB (x.den E) := by
  show (isqE (x.den E) == 0 && (isq (x.den E) * isq (x.den E) == x.den E)) = _
  unfold sqB
  congr 1
  rw [Bool.eq_iff_iff, beq_iff_eq, beq_iff_eq]
  rcases cmpZ_cases (isq (x.den E) * isq (x.den E)) (x.den E) with ⟨h, e⟩ | ⟨h, e⟩ | ⟨h, e⟩ <;> rw [e] <;> omega
def kSqQ : Con
  | [.val true [.int x l, .int y m]], G => if decide (l ≤ 100000) && decide (m ≤ 100000) then
      match (BT.and (sqT x) (sqT y)).ev G with
      | some true => some (.tup [(true, [.int (IT.a1 2 x).fold l, .int (IT.a1 2 y).fold m]), (false, [.b (.lit true)])])
      | some false => some (.tup [(true, [.int (.lit 0) 0, .int (.lit 0) 0]), (false, [.b (.lit false)])])
      | none => none
    else none
  | _, _ => none
theorem kSqQ_ok {E : Env} {f : Nat} (hc : ∀ (w : World) (v : Value) (n d : Int), IsPair w v n d → Lim 100000 n → Lim 100000 d → Calls Tryz.prog f #[v] w (RetSqQ n d w))
    (hb : ∃ fn, Tryz.prog.funcs[f]? = some fn ∧ fn.name ≠ "runtime.NumGoroutine" ∧ fn.body.isNone = false) : ConOK Tryz.prog E f kSqQ := by
  refine ⟨?_, ?_, hb⟩
  · intro args G r h hG β w vs hv hlen
    unfold kSqQ at h
    split at h
    · rename_i x l y m
      split at h
      · rename_i hcd
        simp only [Bool.and_eq_true, decide_eq_true_iff] at hcd
        obtain ⟨v, rfl, h1⟩ := args1 hv hlen
        obtain ⟨p1, a1, a2⟩ := one_pair.1 h1
        have key := hc w v _ _ p1 (a1.mono hcd.1) (a2.mono hcd.2)
        have ed : (BT.and (sqT x) (sqT y)).den E = (sqB (x.den E) && sqB (y.den E)) := by
          show ((sqT x).den E && (sqT y).den E) = _
          rw [sqT_den, sqT_den]
        split at h
        · rename_i ho
          have hs := BT.ev_spec hG ho
          rw [ed] at hs
          injection h with h
          subst h
          refine key.mono ?_
          rintro e w' ⟨u, rfl, hp, ex⟩
          unfold sqN at hp
          rw [hs] at hp ⊢
          rw [if_pos rfl, if_pos rfl] at hp
          refine ⟨_, rfl, ⟨[u, .bool true], rfl, u, _, rfl, one_pair.2 ?_, _, _, rfl, one_bool.2 rfl, rfl⟩, ex⟩
          rw [IT.fold_den, IT.fold_den]
          exact ⟨hp, isq_lim a1, isq_lim a2⟩
        · rename_i ho
          have hs := BT.ev_spec hG ho
          rw [ed] at hs
          injection h with h
          subst h
          refine key.mono ?_
          rintro e w' ⟨u, rfl, hp, ex⟩
          unfold sqN at hp
          rw [hs] at hp ⊢
          rw [if_neg (by decide), if_neg (by decide)] at hp
          exact ⟨_, rfl, ⟨[u, .bool false], rfl, u, _, rfl, one_pair.2 ⟨hp, lim_zero, lim_zero⟩, _, _, rfl, one_bool.2 rfl, rfl⟩, ex⟩
        · cases h
      · cases h
    · cases h
  · intro args G r h x off
    unfold kSqQ at h
    split at h
    · split at h
      · split at h
        · injection h with h; subst h; intro e; cases e
        · injection h with h; subst h; intro e; cases e
        · cases h
      · cases h
    · cases h
end Go.Proofs.YtifeacfljfmnpaaGreat
end

section
set_option maxRecDepth 100000
namespace Go.Proofs.YtifeacfljfmnpaaGreat
open Go.RowKit
abbrev RI := Bool × List Nat
def smN (n : Nat) (p q : RI) : Bool := decide (p.2.length ≤ n) && decide (q.2.length ≤ n) && okQ p.1 p.2 q.1 q.2
def rq (p q : RI) : Rat := Rat.divInt (sgn p.1 (val p.2)) (sgn q.1 (val q.2))
theorem smN_rat {n : Nat} {w : World} {v : Value} {p q : RI} (h : RawQ w v p.1 p.2 q.1 q.2) (hs : smN n p q = true) : IsRat w v (rq p q) ∧ LimQ n (rq p q) := by
  obtain ⟨s1, xs1⟩ := p
  obtain ⟨s2, xs2⟩ := q
  unfold smN okQ at hs
  simp only [Bool.and_eq_true, decide_eq_true_iff] at hs
  obtain ⟨⟨c1, c2⟩, ⟨⟨b1, b2⟩, b3⟩, b4⟩ := hs
  have hp := okQ_pair h b1 b2
  have m1 : Lim n (sgn s1 (val xs1)) := by obtain ⟨a, b, c, d, rfl, h1, h2⟩ := h; exact ok_lim h1 b1 c1
  have m2 : Lim n (sgn s2 (val xs2)) := by obtain ⟨a, b, c, d, rfl, h1, h2⟩ := h; exact ok_lim h2 b2 c2
  have hq : (rq (s1, xs1) (s2, xs2)).num = sgn s1 (val xs1) ∧ ((rq (s1, xs1) (s2, xs2)).den : Int) = sgn s2 (val xs2) := by
    unfold rq
    simp only
    generalize sgn s1 (val xs1) = n at *
    generalize sgn s2 (val xs2) = d at *
    have hd : ((d.natAbs : Nat) : Int) = d := by omega
    have e : Rat.divInt n d = ⟨n, d.natAbs, by omega, b4⟩ := by
      rw [Rat.mk_eq_divInt, hd]
    rw [e]
    exact ⟨rfl, hd⟩
  refine ⟨?_, ?_⟩
  · show IsPair w v (rq (s1, xs1) (s2, xs2)).num ((rq (s1, xs1) (s2, xs2)).den : Int)
    rw [hq.1, hq.2]; exact hp
  · refine ⟨?_, ?_⟩
    · rw [hq.1]; exact m1
    · rw [hq.2]; exact m2
def kRVN (n : Nat) : Con
  | [.val true [.raw i, .raw j]], G => if i % 2 == 0 && (j == i + 1 && (decide (n ≤ 100000) && (G.find (.le (.rlen i) (.lit (n : Int))) == some true && G.find (.le (.rlen j) (.lit (n : Int))) == some true))) then some (.val false [.b (.var (i / 2))]) else none
  | _, _ => none
theorem kRVN_ok {n : Nat} {E : Env} (hE : VEnv E) {f : Nat} (hc : ∀ (w : World) (v : Value) (s1 s2 : Bool) (xs1 xs2 : List Nat), RawQ w v s1 xs1 s2 xs2 → xs1.length ≤ 100000 → xs2.length ≤ 100000 → Calls Tryz.prog f #[v] w fun e w' => e = .returned (.bool (okQ s1 xs1 s2 xs2)) ∧ Ext w w')
    (hb : ∃ fn, Tryz.prog.funcs[f]? = some fn ∧ fn.name ≠ "runtime.NumGoroutine" ∧ fn.body.isNone = false) : ConOK Tryz.prog E f (kRVN n) := by
  refine ⟨?_, ?_, hb⟩
  · intro args As r h hG β w vs hv hlen
    unfold kRVN at h
    split at h
    · rename_i i j
      split at h
      · rename_i hlo
        injection h with h
        subst h
        simp only [Bool.and_eq_true, beq_iff_eq, decide_eq_true_iff] at hlo
        obtain ⟨hi, rfl, hn, b1, b2⟩ := hlo
        have c1 := of_decide_eq_true (Asm.find_spec hG b1)
        have c2 := of_decide_eq_true (Asm.find_spec hG b2)
        simp only [IT.den] at c1 c2
        obtain ⟨v, rfl, h1⟩ := args1 hv hlen
        refine (hc w v _ _ _ _ (one_raw2 h1) (by omega) (by omega)).mono ?_
        rintro e w' ⟨rfl, ex⟩
        exact ⟨_, rfl, one_bool.2 (by rw [← hE i hi]; rfl), ex⟩
      · cases h
    · cases h
  · intro args As r h x off
    unfold kRVN at h
    split at h
    · split at h
      · injection h with h; subst h; intro e; cases e
      · cases h
    · cases h
theorem two_raws {E : Env} {w : World} {i j : Nat} {cs : List Chunk} {vs : List Value} :
    chunks E w (.raw i :: .raw j :: cs) vs ↔ ∃ x r, vs = x ++ r ∧ RawQ w (.agg x.toArray) (E.r i).1 (E.r i).2 (E.r j).1 (E.r j).2 ∧ chunks E w cs r := by
  constructor
  · rintro ⟨u0, r0, rfl, ⟨x0, y0, rfl, i0⟩, u1, r1, rfl, ⟨x1, y1, rfl, i1⟩, h⟩
    exact ⟨[x0, y0, x1, y1], r1, rfl, ⟨x0, y0, x1, y1, rfl, i0, i1⟩, h⟩
  · rintro ⟨x, r, rfl, ⟨x0, y0, x1, y1, hx, i0, i1⟩, h⟩
    injection hx with hx
    have hx' : x = [x0, y0, x1, y1] := congrArg Array.toList hx
    subst hx'
    exact ⟨[x0, y0], [x1, y1] ++ r, rfl, ⟨x0, y0, rfl, i0⟩, [x1, y1], r, rfl, ⟨x1, y1, rfl, i1⟩, h⟩
def kVl : Con
  | [x], _ => match qOf x with
    | some (_, m) => if decide (m ≤ 100000) then some (.val false [.b (.lit true)]) else none
    | none => none
  | _, _ => none
theorem rat_raw {w : World} {v : Value} {q : Rat} (h : IsRat w v q) : RawQ w v (decide (q.num < 0)) (limbs q.num.natAbs) (decide ((q.den : Int) < 0)) (limbs (q.den : Int).natAbs) ∧ okQ (decide (q.num < 0)) (limbs q.num.natAbs) (decide ((q.den : Int) < 0)) (limbs (q.den : Int).natAbs) = true := by
  obtain ⟨x0, x1, x2, x3, rfl, i1, i2⟩ := h
  obtain ⟨k1, k2⟩ := int_raw i1
  obtain ⟨k3, k4⟩ := int_raw i2
  refine ⟨⟨_, _, _, _, rfl, k1, k3⟩, ?_⟩
  have e3 : sgn (decide (q.num < 0)) (val (limbs q.num.natAbs)) = q.num := by rw [val_limbs]; exact sgn_self q.num
  have e4 : sgn (decide ((q.den : Int) < 0)) (val (limbs (q.den : Int).natAbs)) = (q.den : Int) := by rw [val_limbs]; exact sgn_self (q.den : Int)
  unfold okQ
  rw [k2, k4, e3, e4, decide_eq_true (show 0 < (q.den : Int) by have := q.den_pos; omega)]
  rw [decide_eq_true (show Nat.gcd q.num.natAbs (q.den : Int).natAbs = 1 from q.reduced)]
  rfl
theorem kVl_ok {E : Env} (hE : QEnv E) {f : Nat} (hc : ∀ (w : World) (v : Value) (s1 s2 : Bool) (xs1 xs2 : List Nat), RawQ w v s1 xs1 s2 xs2 → xs1.length ≤ 100000 → xs2.length ≤ 100000 → Calls Tryz.prog f #[v] w fun e w' => e = .returned (.bool (okQ s1 xs1 s2 xs2)) ∧ Ext w w')
    (hb : ∃ fn, Tryz.prog.funcs[f]? = some fn ∧ fn.name ≠ "runtime.NumGoroutine" ∧ fn.body.isNone = false) : ConOK Tryz.prog E f kVl := by
  refine ⟨?_, ?_, hb⟩
  · intro args As r h hG β w vs hv hlen
    unfold kVl at h
    split at h
    · split at h
      · rename_i x A m hx
        split at h
        · rename_i hm
          rw [decide_eq_true_iff] at hm
          injection h with h
          subst h
          obtain ⟨v, rfl, h1⟩ := args1 hv hlen
          obtain ⟨a, ra, ia, la⟩ := qOf_spec hE hx h1
          obtain ⟨k1, k2⟩ := rat_raw ia
          refine (hc w v _ _ _ _ k1 (Nat.le_trans la.1 hm) (Nat.le_trans la.2 hm)).mono ?_
          rintro e w' ⟨rfl, ex⟩
          exact ⟨_, rfl, one_bool.2 (by rw [k2]; rfl), ex⟩
        · cases h
      · cases h
    · cases h
  · intro args As r h x off
    unfold kVl at h
    split at h
    · split at h
      · split at h
        · injection h with h; subst h; intro e; cases e
        · cases h
      · cases h
    · cases h
end Go.Proofs.YtifeacfljfmnpaaGreat
end

section
set_option maxRecDepth 100000
namespace Go.Proofs.YtifeacfljfmnpaaGreat
open Go.ChangeShapes Go.WideShapes Go.ChangeAt Go.RowKit Go.Joins
theorem open_two {H : Type} {enc : TypeId × Value → H} {W : World} {base : Nat} {spare : Nat → Bool} {held : Bool} {v0 v1 : Value} {y : DataW H × List MemPlace} {n : Nat}
    (h : DataW.trod enc Tryz.prog W base spare held n 24 [v0, v1] = some y) : ∃ neg xs, Raw W (.agg #[v0, v1]) neg xs := by
  obtain ⟨y0, y1, n, hx, _, h0, h1⟩ := trod_struct2 Tryz.underlying24 h
  have cb : Tryz.prog.cellsOf 4 = 1 := by kernel_rfl
  have cs : Tryz.prog.cellsOf 22 = 1 := by kernel_rfl
  exact open_cells (v0 := v0) (v1 := v1) (by simpa [cb] using h0) (by simpa [cs] using h1)
theorem open_rat4 {H : Type} {enc : TypeId × Value → H} {W : World} {base : Nat} {spare : Nat → Bool} {held : Bool} {c0 c1 c2 c3 : Value} {y : DataW H × List MemPlace} {n : Nat}
    (h : DataW.trod enc Tryz.prog W base spare held n 26 [c0, c1, c2, c3] = some y) : ∃ p q : RI, RawQ W (.agg #[c0, c1, c2, c3]) p.1 p.2 q.1 q.2 := by
  have k2 : Tryz.prog.cellsOf 24 = 2 := by kernel_rfl
  obtain ⟨y0, y1, n, hx, _, h0, h1⟩ := trod_struct2 Tryz.underlying26 h
  obtain ⟨s1, xs1, w1⟩ := open_two (v0 := c0) (v1 := c1) (by simpa [Value.cells, k2] using h0)
  obtain ⟨s2, xs2, w2⟩ := open_two (v0 := c2) (v1 := c3) (by simpa [Value.cells, k2] using h1)
  exact ⟨(s1, xs1), (s2, xs2), c0, c1, c2, c3, rfl, w1, w2⟩
end Go.Proofs.YtifeacfljfmnpaaGreat
end

section
set_option maxRecDepth 100000
namespace Go.Proofs.YtifeacfljfmnpaaGreat
abbrev Sq := Nat → Rat
def Null (f : Sq) : Prop := ∀ e : Rat, 0 < e → ∃ K, ∀ k, K ≤ k → -e ≤ f k ∧ f k ≤ e
def PosS (f : Sq) : Prop := ∃ e : Rat, 0 < e ∧ ∃ K, ∀ k, K ≤ k → e ≤ f k
def Bdd (f : Sq) : Prop := ∃ b : Rat, 0 < b ∧ ∀ k, -b ≤ f k ∧ f k ≤ b
def HasSg (f : Sq) (s : Int) : Prop := (s = 1 ∧ PosS f) ∨ (s = 0 ∧ Null f) ∨ (s = -1 ∧ PosS fun k => - f k)
theorem le_tot (a b : Rat) : a ≤ b ∨ b ≤ a := Rat.le_total
theorem mul_le {a b x y : Rat} (ha : 0 ≤ a) (hx : a ≤ x) (hb : 0 ≤ b) (hy : b ≤ y) : a * b ≤ x * y := by
  have h1 : 0 ≤ (x - a) * y := Rat.mul_nonneg (by grind) (by grind)
  have h2 : 0 ≤ a * (y - b) := Rat.mul_nonneg ha (by grind)
  grind
theorem half_pos {e : Rat} (h : 0 < e) : 0 < e / 2 := by grind
theorem null_congr {f g : Sq} (h : ∀ k, f k = g k) (n : Null f) : Null g := by
  obtain rfl : f = g := funext h
  exact n
theorem pos_congr {f g : Sq} (h : ∀ k, f k = g k) (n : PosS f) : PosS g := by
  obtain rfl : f = g := funext h
  exact n
theorem HasSg.of_eq {f g : Sq} {s : Int} (n : HasSg f s) (h : ∀ k, f k = g k) : HasSg g s := by
  obtain rfl : f = g := funext h
  exact n
theorem null_add {f g : Sq} (h : Null f) (k : Null g) : Null fun n => f n + g n := by
  intro e he
  obtain ⟨K, hK⟩ := h (e / 2) (half_pos he)
  obtain ⟨L, hL⟩ := k (e / 2) (half_pos he)
  refine ⟨max K L, fun n hn => ?_⟩
  have := hK n (by omega)
  have := hL n (by omega)
  grind
theorem null_neg {f : Sq} (h : Null f) : Null fun n => - f n := by
  intro e he
  obtain ⟨K, hK⟩ := h e he
  exact ⟨K, fun n hn => by have := hK n hn; grind⟩
theorem abs_mul_le {b e x y : Rat} (_ : 0 < b) (_ : 0 < e) (h1 : -b ≤ x) (h2 : x ≤ b) (h3 : -e ≤ y) (h4 : y ≤ e) : -(b * e) ≤ x * y ∧ x * y ≤ b * e := by
  have k1 : 0 ≤ (b - x) * (e + y) := Rat.mul_nonneg (by grind) (by grind)
  have k2 : 0 ≤ (b + x) * (e - y) := Rat.mul_nonneg (by grind) (by grind)
  have k3 : 0 ≤ (b - x) * (e - y) := Rat.mul_nonneg (by grind) (by grind)
  have k4 : 0 ≤ (b + x) * (e + y) := Rat.mul_nonneg (by grind) (by grind)
  grind
theorem div_pos' {e b : Rat} (he : 0 < e) (hb : 0 < b) : 0 < e / b := by
  rw [Rat.div_def]
  exact Rat.mul_pos he (Rat.inv_pos.2 hb)
theorem mul_div' {e b : Rat} (hb : 0 < b) : b * (e / b) = e := by
  have : b ≠ 0 := by grind
  grind
theorem null_mul {f g : Sq} (h : Bdd f) (k : Null g) : Null fun n => f n * g n := by
  intro e he
  obtain ⟨b, hb, hf⟩ := h
  obtain ⟨K, hK⟩ := k (e / b) (div_pos' he hb)
  refine ⟨K, fun n hn => ?_⟩
  have h1 := hK n hn
  have h2 := hf n
  have := abs_mul_le hb (div_pos' he hb) h2.1 h2.2 h1.1 h1.2
  rw [mul_div' hb] at this
  exact this
theorem null_zero : Null fun _ => 0 := fun e he => ⟨0, fun n _ => by grind⟩
theorem bdd_const (c : Rat) : Bdd fun _ => c := by
  rcases le_tot 0 c with h | h
  · exact ⟨c + 1, by grind, fun k => by grind⟩
  · exact ⟨1 - c, by grind, fun k => by grind⟩
theorem bdd_add {f g : Sq} (h : Bdd f) (k : Bdd g) : Bdd fun n => f n + g n := by
  obtain ⟨b, hb, h⟩ := h
  obtain ⟨c, hc, k⟩ := k
  exact ⟨b + c, by grind, fun n => by have := h n; have := k n; grind⟩
theorem bdd_neg {f : Sq} (h : Bdd f) : Bdd fun n => - f n := by
  obtain ⟨b, hb, h⟩ := h
  exact ⟨b, hb, fun n => by have := h n; grind⟩
theorem bdd_mul {f g : Sq} (h : Bdd f) (k : Bdd g) : Bdd fun n => f n * g n := by
  obtain ⟨b, hb, h⟩ := h
  obtain ⟨c, hc, k⟩ := k
  exact ⟨b * c, Rat.mul_pos hb hc, fun n => abs_mul_le hb hc (h n).1 (h n).2 (k n).1 (k n).2⟩
theorem bdd_congr {f g : Sq} (h : ∀ k, f k = g k) (n : Bdd f) : Bdd g := by
  obtain rfl : f = g := funext h
  exact n
theorem bdd_sub {f g : Sq} (h : Bdd f) (k : Bdd g) : Bdd fun n => f n - g n := bdd_congr (fun n => by grind) (bdd_add h (bdd_neg k))
theorem pos_add_null {f g : Sq} (h : PosS f) (k : Null g) : PosS fun n => f n + g n := by
  obtain ⟨e, he, K, hK⟩ := h
  obtain ⟨L, hL⟩ := k (e / 2) (half_pos he)
  refine ⟨e / 2, half_pos he, max K L, fun n hn => ?_⟩
  have := hK n (by omega)
  have := hL n (by omega)
  grind
theorem pos_add {f g : Sq} (h : PosS f) (k : PosS g) : PosS fun n => f n + g n := by
  obtain ⟨e, he, K, hK⟩ := h
  obtain ⟨e', he', L, hL⟩ := k
  refine ⟨e + e', by grind, max K L, fun n hn => ?_⟩
  have := hK n (by omega)
  have := hL n (by omega)
  grind
theorem pos_mul {f g : Sq} (h : PosS f) (k : PosS g) : PosS fun n => f n * g n := by
  obtain ⟨e, he, K, hK⟩ := h
  obtain ⟨e', he', L, hL⟩ := k
  refine ⟨e * e', Rat.mul_pos he he', max K L, fun n hn => ?_⟩
  exact mul_le (by grind) (hK n (by omega)) (by grind) (hL n (by omega))
theorem not_pos_null {f : Sq} (h : PosS f) (k : Null f) : False := by
  obtain ⟨e, he, K, hK⟩ := h
  obtain ⟨L, hL⟩ := k (e / 2) (half_pos he)
  have := hK (max K L) (by omega)
  have := hL (max K L) (by omega)
  grind
theorem not_pos_neg {f : Sq} (h : PosS f) (k : PosS fun n => - f n) : False := by
  obtain ⟨e, he, K, hK⟩ := h
  obtain ⟨e', he', L, hL⟩ := k
  have := hK (max K L) (by omega)
  have := hL (max K L) (by omega)
  grind
theorem not_negp_null {f : Sq} (h : PosS fun n => - f n) (k : Null f) : False := not_pos_null h (null_neg k)
theorem HasSg.unique {f : Sq} {s t : Int} (h : HasSg f s) (k : HasSg f t) : s = t := by
  rcases h with ⟨rfl, h⟩ | ⟨rfl, h⟩ | ⟨rfl, h⟩ <;> rcases k with ⟨rfl, k⟩ | ⟨rfl, k⟩ | ⟨rfl, k⟩ <;> first | rfl | exact (not_pos_null h k).elim | exact (not_pos_null k h).elim | exact (not_pos_neg h k).elim | exact (not_pos_neg k h).elim | exact (not_negp_null h k).elim | exact (not_negp_null k h).elim
theorem HasSg.neg {f : Sq} {s : Int} (h : HasSg f s) : HasSg (fun n => - f n) (-s) := by
  rcases h with ⟨rfl, h⟩ | ⟨rfl, h⟩ | ⟨rfl, h⟩
  · exact .inr (.inr ⟨rfl, pos_congr (fun k => by grind) h⟩)
  · exact .inr (.inl ⟨rfl, null_neg h⟩)
  · exact .inl ⟨rfl, h⟩
theorem HasSg.add_null {f g : Sq} {s : Int} (h : HasSg f s) (k : Null g) : HasSg (fun n => f n + g n) s := by
  rcases h with ⟨rfl, h⟩ | ⟨rfl, h⟩ | ⟨rfl, h⟩
  · exact .inl ⟨rfl, pos_add_null h k⟩
  · exact .inr (.inl ⟨rfl, null_add h k⟩)
  · exact .inr (.inr ⟨rfl, pos_congr (fun n => by grind) (pos_add_null h (null_neg k))⟩)
theorem HasSg.near {f g : Sq} {s : Int} (h : HasSg f s) (k : Null fun n => g n - f n) : HasSg g s := (h.add_null k).of_eq fun n => by grind
theorem HasSg.range {f : Sq} {s : Int} (h : HasSg f s) : s = 1 ∨ s = 0 ∨ s = -1 := by
  rcases h with ⟨rfl, h⟩ | ⟨rfl, h⟩ | ⟨rfl, h⟩ <;> simp
theorem HasSg.mul {f g : Sq} {s t : Int} (h : HasSg f s) (k : HasSg g t) (bf : Bdd f) (bg : Bdd g) : HasSg (fun n => f n * g n) (s * t) := by
  rcases h with ⟨rfl, h⟩ | ⟨rfl, h⟩ | ⟨rfl, h⟩
  · rcases k with ⟨rfl, k⟩ | ⟨rfl, k⟩ | ⟨rfl, k⟩
    · exact .inl ⟨rfl, pos_mul h k⟩
    · exact .inr (.inl ⟨rfl, null_mul bf k⟩)
    · exact .inr (.inr ⟨rfl, pos_congr (fun n => by grind) (pos_mul h k)⟩)
  · exact .inr (.inl ⟨by omega, null_congr (fun n => by grind) (null_mul bg h)⟩)
  · rcases k with ⟨rfl, k⟩ | ⟨rfl, k⟩ | ⟨rfl, k⟩
    · exact .inr (.inr ⟨rfl, pos_congr (fun n => by grind) (pos_mul h k)⟩)
    · exact .inr (.inl ⟨rfl, null_mul bf k⟩)
    · exact .inl ⟨rfl, pos_congr (fun n => by grind) (pos_mul h k)⟩
theorem pos_cancel {u v : Sq} (bu : Bdd u) (hu : PosS u) (h : PosS fun n => u n * v n) : PosS v := by
  obtain ⟨b, hb, hB⟩ := bu
  obtain ⟨e, he, K, hK⟩ := hu
  obtain ⟨e', he', L, hL⟩ := h
  refine ⟨e' / b, div_pos' he' hb, max K L, fun n hn => ?_⟩
  have h1 := hK n (by omega)
  have h2 : e' ≤ u n * v n := hL n (by omega)
  have h3 := hB n
  rcases le_tot (e' / b) (v n) with h | h
  · exact h
  · -- v n ≤ e'/b; u v ≥ e'
    have hv : 0 < v n := by
      rcases le_tot (v n) 0 with q | q
      · have : 0 ≤ u n * (- v n) := Rat.mul_nonneg (by grind) (by grind)
        grind
      · by_cases q0 : v n = 0
        · rw [q0] at h2; grind
        · grind
    have h5 : 0 ≤ (b - u n) * v n := Rat.mul_nonneg (by grind) (by grind)
    have h6 : b * (e' / b) = e' := mul_div' hb
    have h7 : 0 ≤ b * v n - b * (e' / b) := by grind
    by_cases q : v n = e' / b
    · grind
    · have : 0 < b * (e' / b - v n) := Rat.mul_pos hb (by grind)
      grind
theorem null_cancel {u v : Sq} (hu : PosS u) (h : Null fun n => u n * v n) : Null v := by
  obtain ⟨e, he, K, hK⟩ := hu
  intro d hd
  obtain ⟨L, hL⟩ := h (e * d) (Rat.mul_pos he hd)
  refine ⟨max K L, fun n hn => ?_⟩
  have h1 := hK n (by omega)
  have h2 := hL n (by omega)
  constructor
  · rcases le_tot (-d) (v n) with q | q
    · exact q
    · by_cases q0 : v n = -d
      · grind
      · have k1 : 0 < e * (-d - v n) := Rat.mul_pos he (by grind)
        have k2 : 0 ≤ (u n - e) * (- v n) := Rat.mul_nonneg (by grind) (by grind)
        grind
  · rcases le_tot (v n) d with q | q
    · exact q
    · by_cases q0 : v n = d
      · grind
      · have k1 : 0 < e * (v n - d) := Rat.mul_pos he (by grind)
        have k2 : 0 ≤ (u n - e) * (v n) := Rat.mul_nonneg (by grind) (by grind)
        grind
theorem HasSg.cancel {u v : Sq} {s : Int} (bu : Bdd u) (hu : PosS u) (h : HasSg (fun n => u n * v n) s) : HasSg v s := by
  rcases h with ⟨rfl, h⟩ | ⟨rfl, h⟩ | ⟨rfl, h⟩
  · exact .inl ⟨rfl, pos_cancel bu hu h⟩
  · exact .inr (.inl ⟨rfl, null_cancel hu h⟩)
  · exact .inr (.inr ⟨rfl, pos_cancel bu hu (pos_congr (fun n => by grind) h)⟩)
def sumSg (s t d : Int) : Int := if s = 0 then t else if t = 0 then s else if s = t then s else s * d
theorem HasSg.sum {f g : Sq} {s t d : Int} (h : HasSg f s) (k : HasSg g t) (bf : Bdd f) (bg : Bdd g) (hd : HasSg (fun n => f n * f n - g n * g n) d) : HasSg (fun n => f n + g n) (sumSg s t d) := by
  unfold sumSg
  rcases h with ⟨rfl, h⟩ | ⟨rfl, h⟩ | ⟨rfl, h⟩
  · rcases k with ⟨rfl, k⟩ | ⟨rfl, k⟩ | ⟨rfl, k⟩
    · exact .inl ⟨rfl, pos_add h k⟩
    · exact .inl ⟨rfl, pos_add_null h k⟩
    · rw [if_neg (by decide), if_neg (by decide), if_neg (by decide), Int.one_mul]
      refine HasSg.cancel (u := fun n => f n - g n) (bdd_sub bf bg) (pos_congr (fun n => by grind) (pos_add h k)) (hd.of_eq fun n => by grind)
  · rw [if_pos rfl]
    exact (k.add_null h).of_eq fun n => by grind
  · rcases k with ⟨rfl, k⟩ | ⟨rfl, k⟩ | ⟨rfl, k⟩
    · rw [if_neg (by decide), if_neg (by decide), if_neg (by decide)]
      have := HasSg.cancel (u := fun n => g n - f n) (v := fun n => f n + g n) (s := -d) (bdd_sub bg bf) (pos_congr (fun n => by grind) (pos_add h k)) (hd.neg.of_eq fun n => by grind)
      rw [show -1 * d = -d by omega]
      exact this
    · exact .inr (.inr ⟨rfl, pos_congr (fun n => by grind) (pos_add_null h (null_neg k))⟩)
    · exact .inr (.inr ⟨rfl, pos_congr (fun n => by grind) (pos_add h k)⟩)
def sgQ' (a : Rat) : Int := if 0 < a then 1 else if a = 0 then 0 else -1
theorem hasSg_const (a : Rat) : HasSg (fun _ => a) (sgQ' a) := by
  unfold sgQ'
  split
  · rename_i h; exact .inl ⟨rfl, a, h, 0, fun _ _ => by grind⟩
  · split
    · rename_i h; subst h; exact .inr (.inl ⟨rfl, null_zero⟩)
    · exact .inr (.inr ⟨rfl, -a, by grind, 0, fun _ _ => by grind⟩)
structure IsRt (c : Rat) (m : Sq) : Prop where
  nn : ∀ k, 0 ≤ m k
  le : ∀ k, m k * m k ≤ c
  lim : Null fun k => c - m k * m k
  low : ∀ (j : Nat), (j : Rat) * (j : Rat) ≤ c * (65536 * 65536) → ∀ k, (j : Rat) ≤ m k * 65536
theorem nat_sqrt (n : Nat) : ∃ t : Nat, t * t ≤ n ∧ n < (t + 1) * (t + 1) := by
  induction n with
  | zero => exact ⟨0, by omega, by omega⟩
  | succ n ih =>
    obtain ⟨t, h1, h2⟩ := ih
    by_cases h : n + 1 < (t + 1) * (t + 1)
    · exact ⟨t, by omega, h⟩
    · refine ⟨t + 1, by omega, ?_⟩
      have : (t + 1 + 1) * (t + 1 + 1) = (t + 1) * (t + 1) + 2 * t + 3 := by
        simp only [Nat.add_mul, Nat.mul_add]; omega
      omega
theorem rt_sq_mono {x y : Rat} (_ : 0 ≤ x) (hy : 0 ≤ y) (h : x * x < y * y) : x < y := by
  rcases le_tot y x with q | q
  · have := mul_le hy q hy q
    grind
  · by_cases e : x = y
    · subst e; grind
    · grind
theorem mul_den' (e : Rat) : e * (e.den : Rat) = (e.num : Rat) := by
  have h : (e.den : Rat) ≠ 0 := by
    have := e.den_pos
    intro h
    have h' : ((e.den : Nat) : Rat) = ((0 : Nat) : Rat) := h
    have := Rat.natCast_inj.1 h'
    omega
  have := Rat.num_divInt_den e
  rw [Rat.divInt_eq_div] at this
  have h2 : ((e.den : Int) : Rat) = (e.den : Rat) := Rat.intCast_natCast _
  rw [h2] at this
  have h3 : (e.den : Rat) * ((e.num : Rat) / (e.den : Rat)) = (e.num : Rat) := by grind
  rw [this] at h3
  grind
theorem num_pos' {e : Rat} (h : 0 < e) : 0 < e.num := by
  have h1 := Rat.num_nonneg.2 (show (0 : Rat) ≤ e by grind)
  by_cases q : e.num = 0
  · rw [Rat.num_eq_zero] at q; grind
  · omega
theorem exists_unit {e : Rat} (he : 0 < e) : ∃ K : Nat, ∀ k : Nat, K ≤ k → 1 / ((k : Rat) + 1) ≤ e := by
  refine ⟨e.den, fun k hk => ?_⟩
  have h1 : (0 : Rat) < (k : Rat) + 1 := by
    have : (0 : Rat) ≤ (k : Rat) := Rat.natCast_nonneg
    grind
  have h2 : 1 ≤ e * (e.den : Rat) := by
    have hn : 0 < e.num := num_pos' he
    rw [mul_den' e]
    have : ((1 : Int) : Rat) ≤ (e.num : Rat) := Rat.intCast_le_intCast.2 (by omega)
    exact this
  have h3 : (e.den : Rat) ≤ (k : Rat) := Rat.natCast_le_natCast.2 hk
  have h4 : 0 ≤ e * ((k : Rat) - (e.den : Rat)) := Rat.mul_nonneg (by grind) (by grind)
  have h5 : ((k : Rat) + 1) * (1 / ((k : Rat) + 1)) = 1 := mul_div' h1
  rcases le_tot (1 / ((k : Rat) + 1)) e with q | q
  · exact q
  · have : 0 ≤ ((k : Rat) + 1) * (1 / ((k : Rat) + 1) - e) := Rat.mul_nonneg (by grind) (by grind)
    grind
theorem hlp1 {u v d w e : Rat} (hu : 0 < u) (hd : 0 < d) (a1 : u * v = 1) (a2 : d * w = e) (h : v ≤ w) : d ≤ e * u := by
  have : 0 ≤ (d * u) * (w - v) := Rat.mul_nonneg (Rat.mul_nonneg (by grind) (by grind)) (by grind)
  have e1 : (d * u) * (w - v) = (d * w) * u - d * (u * v) := by grind
  rw [e1, a1, a2] at this
  grind
theorem hlp2 {u c m e : Rat} (_ : 0 < e) (hu : 1 ≤ u) (h5 : 0 ≤ m) (g1 : 2 * c + 3 ≤ e * u) (g2 : m ≤ c + 1) (h1 : c * (65536 * u * (65536 * u)) < (65536 * u * m + 1) * (65536 * u * m + 1)) : c - m * m ≤ e := by
  rcases le_tot (c - m * m) e with q | q
  · exact q
  · have b3 : 0 ≤ (u * u) * (c - m * m - e) := Rat.mul_nonneg (Rat.mul_nonneg (by grind) (by grind)) (by grind)
    have b4 : 0 ≤ u * (c + 1 - m) := Rat.mul_nonneg (by grind) (by grind)
    have b5 : 0 ≤ u * (e * u - (2 * c + 3)) := Rat.mul_nonneg (by grind) (by grind)
    have b6 : c * (65536 * u * (65536 * u)) = 4294967296 * (c * (u * u)) := by grind
    have b7 : (65536 * u * m + 1) * (65536 * u * m + 1) = 4294967296 * (u * u * (m * m)) + 131072 * (u * m) + 1 := by grind
    have b8 : 0 ≤ u * m := Rat.mul_nonneg (by grind) h5
    have b9 : 0 < u * u := Rat.mul_pos (by grind) (by grind)
    rw [b6, b7] at h1
    grind
theorem exists_rt {c : Rat} (hc : 0 ≤ c) : ∃ m, IsRt c m := by
  have hD : ∀ k : Nat, (0 : Rat) < 65536 * ((k : Rat) + 1) := fun k => by
    have : (0 : Rat) ≤ (k : Rat) := Rat.natCast_nonneg
    grind
  have key : ∀ k : Nat, ∃ t : Nat, (t : Rat) * (t : Rat) ≤ c * ((65536 * ((k : Rat) + 1)) * (65536 * ((k : Rat) + 1))) ∧ c * ((65536 * ((k : Rat) + 1)) * (65536 * ((k : Rat) + 1))) < ((t : Rat) + 1) * ((t : Rat) + 1) := by
    intro k
    have hx : 0 ≤ c * ((65536 * ((k : Rat) + 1)) * (65536 * ((k : Rat) + 1))) := Rat.mul_nonneg hc (Rat.mul_nonneg (by have := hD k; grind) (by have := hD k; grind))
    generalize c * ((65536 * ((k : Rat) + 1)) * (65536 * ((k : Rat) + 1))) = x at hx
    obtain ⟨t, h1, h2⟩ := nat_sqrt x.floor.toNat
    have hf : 0 ≤ x.floor := Rat.le_floor_iff.2 (by simpa using hx)
    refine ⟨t, ?_, ?_⟩
    · have : ((t * t : Nat) : Int) ≤ x.floor := by omega
      have := Rat.le_floor_iff.1 this
      simpa [Rat.intCast_natCast] using this
    · have : x.floor < (((t + 1) * (t + 1) : Nat) : Int) := by omega
      have := Rat.floor_lt_iff.1 this
      simpa [Rat.intCast_natCast] using this
  obtain ⟨t, ht⟩ : ∃ t : Nat → Nat, ∀ k, (t k : Rat) * (t k : Rat) ≤ c * ((65536 * ((k : Rat) + 1)) * (65536 * ((k : Rat) + 1))) ∧ c * ((65536 * ((k : Rat) + 1)) * (65536 * ((k : Rat) + 1))) < ((t k : Rat) + 1) * ((t k : Rat) + 1) :=
    ⟨fun k => (key k).choose, fun k => (key k).choose_spec⟩
  have hm : ∀ k : Nat, (65536 * ((k : Rat) + 1)) * ((t k : Rat) / (65536 * ((k : Rat) + 1))) = (t k : Rat) := fun k => mul_div' (hD k)
  have hnn : ∀ k : Nat, 0 ≤ (t k : Rat) / (65536 * ((k : Rat) + 1)) := by
    intro k
    rw [Rat.div_def]
    exact Rat.mul_nonneg Rat.natCast_nonneg (by have := Rat.inv_pos.2 (hD k); grind)
  have hle : ∀ k : Nat, (t k : Rat) / (65536 * ((k : Rat) + 1)) * ((t k : Rat) / (65536 * ((k : Rat) + 1))) ≤ c := by
    intro k
    have h1 := (ht k).1
    have h2 := hm k
    have h3 := hD k
    generalize (t k : Rat) / (65536 * ((k : Rat) + 1)) = m at *
    generalize 65536 * ((k : Rat) + 1) = D at *
    rw [← h2] at h1
    rcases le_tot (m * m) c with q | q
    · exact q
    · by_cases e : m * m = c
      · rw [e]; exact Rat.le_refl
      · have : 0 < D * D * (m * m - c) := Rat.mul_pos (Rat.mul_pos h3 h3) (by grind)
        grind
  refine ⟨fun k => (t k : Rat) / (65536 * ((k : Rat) + 1)), hnn, hle, ?_, ?_⟩
  · intro e he
    have hc3 : (0 : Rat) < 2 * c + 3 := by grind
    obtain ⟨K, hK⟩ := exists_unit (div_pos' he hc3)
    refine ⟨K, fun k hk => ?_⟩
    have h1 := (ht k).2
    have h2 := hm k
    have h4 := hle k
    have h5 := hnn k
    have h6 := hK k hk
    have hk1 : (0 : Rat) < (k : Rat) + 1 := by have := hD k; grind
    have hk2 : (1 : Rat) ≤ (k : Rat) + 1 := by
      have : (0 : Rat) ≤ (k : Rat) := Rat.natCast_nonneg
      grind
    show -e ≤ c - (t k : Rat) / (65536 * ((k : Rat) + 1)) * ((t k : Rat) / (65536 * ((k : Rat) + 1))) ∧ c - (t k : Rat) / (65536 * ((k : Rat) + 1)) * ((t k : Rat) / (65536 * ((k : Rat) + 1))) ≤ e
    generalize (t k : Rat) / (65536 * ((k : Rat) + 1)) = m at *
    have g1 : 2 * c + 3 ≤ e * ((k : Rat) + 1) := hlp1 hk1 hc3 (mul_div' hk1) (mul_div' hc3) h6
    generalize (k : Rat) + 1 = u at *
    have g2 : m ≤ c + 1 := by
      rcases le_tot m (c + 1) with q | q
      · exact q
      · have := mul_le (show 0 ≤ c + 1 by grind) q (show 0 ≤ c + 1 by grind) q
        have : 0 ≤ c * c := Rat.mul_nonneg hc hc
        grind
    rw [← h2] at h1
    refine ⟨by grind, hlp2 he hk2 h5 g1 g2 h1⟩
  · intro j hj k
    have h1 := (ht k).2
    have h2 := hm k
    have hk1 : (0 : Rat) < (k : Rat) + 1 := by have := hD k; grind
    have g1 : (j : Rat) * ((k : Rat) + 1) < (t k : Rat) + 1 := by
      refine rt_sq_mono ?_ ?_ ?_
      · exact Rat.mul_nonneg Rat.natCast_nonneg (by grind)
      · have : (0 : Rat) ≤ (t k : Rat) := Rat.natCast_nonneg
        grind
      · have : 0 ≤ (((k : Rat) + 1) * ((k : Rat) + 1)) * (c * (65536 * 65536) - (j : Rat) * (j : Rat)) := Rat.mul_nonneg (Rat.mul_nonneg (by grind) (by grind)) (by grind)
        grind
    have g2 : j * (k + 1) < t k + 1 := by
      have : ((j * (k + 1) : Nat) : Rat) < ((t k + 1 : Nat) : Rat) := by simpa using g1
      exact Rat.natCast_lt_natCast.1 this
    have g3 : (j : Rat) * ((k : Rat) + 1) ≤ (t k : Rat) := by
      have : ((j * (k + 1) : Nat) : Rat) ≤ ((t k : Nat) : Rat) := Rat.natCast_le_natCast.2 (by omega)
      simpa using this
    show (j : Rat) ≤ (t k : Rat) / (65536 * ((k : Rat) + 1)) * 65536
    generalize (t k : Rat) / (65536 * ((k : Rat) + 1)) = m at *
    rw [← h2] at g3
    rcases le_tot (j : Rat) (m * 65536) with q | q
    · exact q
    · have : 0 ≤ ((k : Rat) + 1) * ((j : Rat) - m * 65536) := Rat.mul_nonneg (by grind) (by grind)
      by_cases e : (j : Rat) = m * 65536
      · grind
      · have : 0 < ((k : Rat) + 1) * ((j : Rat) - m * 65536) := Rat.mul_pos hk1 (by grind)
        grind
theorem IsRt.bdd {c : Rat} {m : Sq} (hc : 0 ≤ c) (h : IsRt c m) : Bdd m := by
  refine ⟨c + 1, by grind, fun k => ⟨by have := h.nn k; grind, ?_⟩⟩
  have := h.le k
  rcases le_tot (m k) (c + 1) with q | q
  · exact q
  · have := mul_le (show 0 ≤ c + 1 by grind) q (show 0 ≤ c + 1 by grind) q
    have : 0 ≤ c * c := Rat.mul_nonneg hc hc
    grind
theorem IsRt.zero {m : Sq} (h : IsRt 0 m) : ∀ k, m k = 0 := by
  intro k
  have h1 := h.le k
  have h2 := h.nn k
  by_cases e : m k = 0
  · exact e
  · have : 0 < m k * m k := Rat.mul_pos (by grind) (by grind)
    grind
theorem IsRt.pos {c : Rat} {m : Sq} (hc : 0 < c) (h : IsRt c m) : PosS m := by
  have h1 : PosS fun k => m k * m k := by
    have := pos_add_null (f := fun _ => c) ⟨c, hc, 0, fun _ _ => Rat.le_refl⟩ (null_neg h.lim)
    exact pos_congr (fun k => by grind) this
  obtain ⟨e, he, K, hK⟩ := h1
  refine ⟨e / (c + 1), div_pos' he (by grind), K, fun k hk => ?_⟩
  have h2 := hK k hk
  have h3 := h.nn k
  have h4 : m k ≤ c + 1 := by
    have := h.le k
    rcases le_tot (m k) (c + 1) with q | q
    · exact q
    · have := mul_le (show 0 ≤ c + 1 by grind) q (show 0 ≤ c + 1 by grind) q
      have : 0 < c * c := Rat.mul_pos hc hc
      grind
  have h5 : (c + 1) * (e / (c + 1)) = e := mul_div' (by grind)
  have h6 : 0 ≤ m k * (c + 1 - m k) := Rat.mul_nonneg h3 (by grind)
  rcases le_tot (e / (c + 1)) (m k) with q | q
  · exact q
  · by_cases e0 : e / (c + 1) = m k
    · grind
    · have : 0 < (c + 1) * (e / (c + 1) - m k) := Rat.mul_pos (by grind) (by grind)
      grind
theorem IsRt.sg {c : Rat} {m : Sq} (hc : 0 ≤ c) (h : IsRt c m) : HasSg m (sgQ' c) := by
  unfold sgQ'
  split
  · rename_i q; exact .inl ⟨rfl, h.pos q⟩
  · split
    · rename_i q
      subst q
      exact .inr (.inl ⟨rfl, null_congr (fun k => (h.zero k).symm) null_zero⟩)
    · grind
end Go.Proofs.YtifeacfljfmnpaaGreat
end

section
set_option maxRecDepth 100000
namespace Go.Proofs.YtifeacfljfmnpaaGreat
theorem sgQ'_pos {a : Rat} (h : 0 < a) : sgQ' a = 1 := if_pos h
theorem sgQ'_zero : sgQ' 0 = 0 := rfl
theorem sgQ'_neg {a : Rat} (h : a < 0) : sgQ' a = -1 := by
  unfold sgQ'
  rw [if_neg (by grind), if_neg (by grind)]
def sg2 (a b m : Rat) : Int := sumSg (sgQ' a) (sgQ' b * sgQ' m) (sgQ' (a * a - b * b * m))
def sg4 (A B C D M N : Rat) : Int := sumSg (sg2 A B M) (sg2 C D M * sgQ' N) (sg2 (A * A + B * B * M - N * (C * C + D * D * M)) ((A * B - N * (C * D)) + (A * B - N * (C * D))) M)
theorem sqv2 {a b M : Rat} {m : Sq} (hM : 0 ≤ M) (h : IsRt M m) : HasSg (fun k => a + b * m k) (sg2 a b M) := by
  refine HasSg.sum (f := fun _ => a) (g := fun k => b * m k) (hasSg_const a) (HasSg.mul (f := fun _ => b) (hasSg_const b) (h.sg hM) (bdd_const b) (h.bdd hM)) (bdd_const a) (bdd_mul (bdd_const b) (h.bdd hM)) ?_
  refine (hasSg_const (a * a - b * b * M)).near ?_
  refine null_congr (fun k => ?_) (null_mul (bdd_const (b * b)) h.lim)
  grind
theorem bdd2 {a b M : Rat} {m : Sq} (hM : 0 ≤ M) (h : IsRt M m) : Bdd (fun k => a + b * m k) := bdd_add (f := fun _ => a) (bdd_const a) (bdd_mul (f := fun _ => b) (bdd_const b) (h.bdd hM))
theorem sqv4 {A B C D M N : Rat} {m n : Sq} (hM : 0 ≤ M) (hN : 0 ≤ N) (h : IsRt M m) (k : IsRt N n) : HasSg (fun i => (A + B * m i) + (C + D * m i) * n i) (sg4 A B C D M N) := by
  have b1 : Bdd fun i => A + B * m i := bdd2 hM h
  have b2 : Bdd fun i => C + D * m i := bdd2 hM h
  refine HasSg.sum (f := fun i => A + B * m i) (g := fun i => (C + D * m i) * n i) (sqv2 hM h) (HasSg.mul (f := fun i => C + D * m i) (sqv2 hM h) (k.sg hN) b2 (k.bdd hN)) b1 (bdd_mul b2 (k.bdd hN)) ?_
  refine (sqv2 (a := A * A + B * B * M - N * (C * C + D * D * M)) (b := (A * B - N * (C * D)) + (A * B - N * (C * D))) hM h).near ?_
  have n1 := null_mul (f := fun _ => N * (D * D) - B * B) (bdd_const _) h.lim
  have n2 := null_mul (f := fun i => (C + D * m i) * (C + D * m i)) (bdd_mul b2 b2) k.lim
  refine null_congr (fun i => ?_) (null_add n1 n2)
  grind
def IvIn (l h : Int) (f : Sq) : Prop := ∀ k, (l : Rat) ≤ f k * 65536 ∧ f k * 65536 ≤ (h : Rat)
theorem IvIn.add {l h l' h' : Int} {f g : Sq} (a : IvIn l h f) (b : IvIn l' h' g) : IvIn (l + l') (h + h') fun k => f k + g k := fun k => by
  have := a k
  have := b k
  rw [Rat.intCast_add, Rat.intCast_add]
  grind
theorem IvIn.neg {l h : Int} {f : Sq} (a : IvIn l h f) : IvIn (-h) (-l) fun k => - f k := fun k => by
  have := a k
  rw [Rat.intCast_neg, Rat.intCast_neg]
  grind
theorem mul_between {a b c d x y : Rat} (h1 : a ≤ x) (h2 : x ≤ b) (h3 : c ≤ y) (h4 : y ≤ d) {lo : Rat} (l1 : lo ≤ a * c) (l2 : lo ≤ a * d) (l3 : lo ≤ b * c) (l4 : lo ≤ b * d) : lo ≤ x * y := by
  have hy : lo ≤ x * c ∧ lo ≤ x * d := by
    constructor
    · rcases le_tot 0 c with q | q
      · have : 0 ≤ (x - a) * c := Rat.mul_nonneg (by grind) q
        grind
      · have : 0 ≤ (b - x) * (-c) := Rat.mul_nonneg (by grind) (by grind)
        grind
    · rcases le_tot 0 d with q | q
      · have : 0 ≤ (x - a) * d := Rat.mul_nonneg (by grind) q
        grind
      · have : 0 ≤ (b - x) * (-d) := Rat.mul_nonneg (by grind) (by grind)
        grind
  rcases le_tot 0 x with q | q
  · have : 0 ≤ (y - c) * x := Rat.mul_nonneg (by grind) q
    grind
  · have : 0 ≤ (d - y) * (-x) := Rat.mul_nonneg (by grind) (by grind)
    grind
def fl16 (p : Int) : Int := p / 65536
def cl16 (p : Int) : Int := -((-p) / 65536)
theorem fl16_le (p : Int) : (fl16 p : Rat) * 65536 ≤ (p : Rat) := by
  have : fl16 p * 65536 ≤ p := by unfold fl16; omega
  have h := Rat.intCast_le_intCast.2 this
  rw [Rat.intCast_mul] at h
  exact h
theorem le_cl16 (p : Int) : (p : Rat) ≤ (cl16 p : Rat) * 65536 := by
  have : p ≤ cl16 p * 65536 := by unfold cl16; omega
  have h := Rat.intCast_le_intCast.2 this
  rw [Rat.intCast_mul] at h
  exact h
def mulLo (a b c d : Int) : Int := min (min (fl16 (a * c)) (fl16 (a * d))) (min (fl16 (b * c)) (fl16 (b * d)))
def mulHi (a b c d : Int) : Int := max (max (cl16 (a * c)) (cl16 (a * d))) (max (cl16 (b * c)) (cl16 (b * d)))
theorem mulLo_spec {a b c d p : Int} {q : Rat} (h : mulLo a b c d ≤ fl16 p) (hq : q = (p : Rat)) : (mulLo a b c d : Rat) * 65536 ≤ q := by
  have h1 := fl16_le p
  have h2 := Rat.intCast_le_intCast.2 h
  grind
theorem mulHi_spec {a b c d p : Int} {q : Rat} (h : cl16 p ≤ mulHi a b c d) (hq : q = (p : Rat)) : q ≤ (mulHi a b c d : Rat) * 65536 := by
  have h1 := le_cl16 p
  have h2 := Rat.intCast_le_intCast.2 h
  grind
theorem mulLo_le (a b c d : Int) : mulLo a b c d ≤ fl16 (a * c) ∧ mulLo a b c d ≤ fl16 (a * d) ∧ mulLo a b c d ≤ fl16 (b * c) ∧ mulLo a b c d ≤ fl16 (b * d) := by
  unfold mulLo; omega
theorem le_mulHi (a b c d : Int) : cl16 (a * c) ≤ mulHi a b c d ∧ cl16 (a * d) ≤ mulHi a b c d ∧ cl16 (b * c) ≤ mulHi a b c d ∧ cl16 (b * d) ≤ mulHi a b c d := by
  unfold mulHi; omega
theorem IvIn.mul {a b c d : Int} {f g : Sq} (h : IvIn a b f) (k : IvIn c d g) : IvIn (mulLo a b c d) (mulHi a b c d) fun i => f i * g i := fun i => by
  obtain ⟨h1, h2⟩ := h i
  obtain ⟨k1, k2⟩ := k i
  obtain ⟨l1, l2, l3, l4⟩ := mulLo_le a b c d
  obtain ⟨u1, u2, u3, u4⟩ := le_mulHi a b c d
  have e1 := mul_between h1 h2 k1 k2 (mulLo_spec l1 (Rat.intCast_mul a c).symm) (mulLo_spec l2 (Rat.intCast_mul a d).symm) (mulLo_spec l3 (Rat.intCast_mul b c).symm) (mulLo_spec l4 (Rat.intCast_mul b d).symm)
  have e2 := mul_between (a := -(b : Rat)) (b := -(a : Rat)) (x := -(f i * 65536)) (lo := -((mulHi a b c d : Rat) * 65536)) (by grind) (by grind) k1 k2 (by have := mulHi_spec u3 (Rat.intCast_mul b c).symm; grind) (by have := mulHi_spec u4 (Rat.intCast_mul b d).symm; grind) (by have := mulHi_spec u1 (Rat.intCast_mul a c).symm; grind) (by have := mulHi_spec u2 (Rat.intCast_mul a d).symm; grind)
  constructor <;> grind
theorem IvIn.sqrt {l h lo hi : Int} {C : Rat} {m : Sq} (_ : 0 ≤ C) (hm : IsRt C m) (hc : IvIn l h fun _ => C) (h0 : 0 ≤ lo) (h1 : lo * lo ≤ max 0 l * 65536) (h2 : 0 ≤ hi) (h3 : h * 65536 ≤ hi * hi) : IvIn lo hi m := fun k => by
  have hC := hc 0
  constructor
  · obtain ⟨j, rfl⟩ := Int.eq_ofNat_of_zero_le h0
    have := hm.low j ?_ k
    · exact this
    · rcases Int.le_total 0 l with q | q
      · rw [Int.max_eq_right q] at h1
        have h1' := Rat.intCast_le_intCast.2 h1
        rw [Rat.intCast_mul, Rat.intCast_mul] at h1'
        have e : ((j : Int) : Rat) = (j : Rat) := rfl
        rw [e] at h1'
        have e2 : ((65536 : Int) : Rat) = 65536 := rfl
        rw [e2] at h1'
        grind
      · rw [Int.max_eq_left q] at h1
        have h1' := Rat.intCast_le_intCast.2 h1
        rw [Rat.intCast_mul] at h1'
        have e : ((j : Int) : Rat) = (j : Rat) := rfl
        rw [e] at h1'
        have e2 : ((0 * 65536 : Int) : Rat) = 0 := rfl
        rw [e2] at h1'
        grind
  · have h3' := Rat.intCast_le_intCast.2 h3
    rw [Rat.intCast_mul, Rat.intCast_mul] at h3'
    have e2 : ((65536 : Int) : Rat) = 65536 := rfl
    rw [e2] at h3'
    have h2' := Rat.intCast_le_intCast.2 h2
    have e0 : ((0 : Int) : Rat) = 0 := rfl
    rw [e0] at h2'
    have g := hm.le k
    have g0 := hm.nn k
    rcases le_tot (m k * 65536) (hi : Rat) with q | q
    · exact q
    · by_cases e : m k * 65536 = (hi : Rat)
      · grind
      · have : 0 < (m k * 65536 - (hi : Rat)) * (m k * 65536 - (hi : Rat)) := Rat.mul_pos (by grind) (by grind)
        have : 0 ≤ (hi : Rat) * (m k * 65536 - (hi : Rat)) := Rat.mul_nonneg h2' (by grind)
        grind
def ivSg (l h : Int) : Option Int := if 0 < l then some 1 else if h < 0 then some (-1) else if l = 0 ∧ h = 0 then some 0 else none
theorem ivSg_spec {l h s : Int} {f : Sq} (hs : ivSg l h = some s) (hf : IvIn l h f) : HasSg f s := by
  unfold ivSg at hs
  split at hs
  · rename_i q
    injection hs with hs
    subst hs
    have q' := Rat.intCast_le_intCast.2 (show 1 ≤ l by omega)
    have e1 : ((1 : Int) : Rat) = 1 := rfl
    rw [e1] at q'
    exact .inl ⟨rfl, 1 / 65536, by grind, 0, fun k _ => by have := hf k; grind⟩
  · split at hs
    · rename_i q
      injection hs with hs
      subst hs
      have q' := Rat.intCast_le_intCast.2 (show h ≤ -1 by omega)
      have e1 : ((-1 : Int) : Rat) = -1 := rfl
      rw [e1] at q'
      exact .inr (.inr ⟨rfl, 1 / 65536, by grind, 0, fun k _ => by have := hf k; grind⟩)
    · split at hs
      · rename_i q
        injection hs with hs
        subst hs
        obtain ⟨rfl, rfl⟩ := q
        refine .inr (.inl ⟨rfl, null_congr (fun k => ?_) null_zero⟩)
        have := hf k
        have e0 : ((0 : Int) : Rat) = 0 := rfl
        rw [e0] at this
        grind
      · cases hs
def flR (a : Rat) : Int := (a * 65536).floor
def clR (a : Rat) : Int := -(-(a * 65536)).floor
theorem IvIn.const (a : Rat) : IvIn (flR a) (clR a) fun _ => a := fun _ => by
  have h1 := Rat.floor_le (a * 65536)
  have h2 := Rat.floor_le (-(a * 65536))
  unfold flR clR
  rw [Rat.intCast_neg]
  constructor
  · exact h1
  · grind
end Go.Proofs.YtifeacfljfmnpaaGreat
end

section
set_option maxRecDepth 100000
namespace Go.Proofs.YtifeacfljfmnpaaGreat
theorem sgQ'_scale {k a : Rat} (h : 0 < k) : sgQ' (k * a) = sgQ' a := by
  unfold sgQ'
  by_cases h1 : 0 < a
  · rw [if_pos h1, if_pos (Rat.mul_pos h h1)]
  · by_cases h2 : a = 0
    · subst h2
      rw [Rat.mul_zero]
    · have h3 : 0 < k * (-a) := Rat.mul_pos h (by grind)
      rw [if_neg h1, if_neg h2, if_neg (by grind), if_neg (by grind)]
theorem sgQ'_mul (a b : Rat) : sgQ' (a * b) = sgQ' a * sgQ' b := by
  by_cases h1 : 0 < a
  · rw [sgQ'_scale h1, sgQ'_pos h1, Int.one_mul]
  · by_cases h2 : a = 0
    · subst h2
      rw [Rat.zero_mul, sgQ'_zero, Int.zero_mul]
    · have h3 : 0 < -a := by grind
      have e : a * b = (-a) * (-b) := by grind
      rw [e, sgQ'_scale h3, sgQ'_neg (a := a) (by grind)]
      by_cases k1 : 0 < b
      · rw [sgQ'_pos k1, sgQ'_neg (by grind)]; rfl
      · by_cases k2 : b = 0
        · subst k2; rfl
        · rw [sgQ'_neg (a := b) (by grind), sgQ'_pos (by grind)]; rfl
theorem sg2_scale {k a b m : Rat} (h : 0 < k) : sg2 (k * a) (k * b) m = sg2 a b m := by
  unfold sg2
  rw [sgQ'_scale h, sgQ'_scale h]
  have e : k * a * (k * a) - k * b * (k * b) * m = (k * k) * (a * a - b * b * m) := by grind
  rw [e, sgQ'_scale (Rat.mul_pos h h)]
theorem sgQ'_range (a : Rat) : sgQ' a = 1 ∨ sgQ' a = 0 ∨ sgQ' a = -1 := by
  unfold sgQ'
  split
  · exact .inl rfl
  · split
    · exact .inr (.inl rfl)
    · exact .inr (.inr rfl)
theorem sumSg_range {s t d : Int} (hs : s = 1 ∨ s = 0 ∨ s = -1) (ht : t = 1 ∨ t = 0 ∨ t = -1) (hd : d = 1 ∨ d = 0 ∨ d = -1) : sumSg s t d = 1 ∨ sumSg s t d = 0 ∨ sumSg s t d = -1 := by
  unfold sumSg
  rcases hs with rfl | rfl | rfl <;> rcases ht with rfl | rfl | rfl <;> rcases hd with rfl | rfl | rfl <;> decide
theorem mul_range {s t : Int} (hs : s = 1 ∨ s = 0 ∨ s = -1) (ht : t = 1 ∨ t = 0 ∨ t = -1) : s * t = 1 ∨ s * t = 0 ∨ s * t = -1 := by
  rcases hs with rfl | rfl | rfl <;> rcases ht with rfl | rfl | rfl <;> decide
theorem sg2_range (a b m : Rat) : sg2 a b m = 1 ∨ sg2 a b m = 0 ∨ sg2 a b m = -1 := sumSg_range (sgQ'_range a) (mul_range (sgQ'_range b) (sgQ'_range m)) (sgQ'_range _)
theorem sg4_range (A B C D M N : Rat) : sg4 A B C D M N = 1 ∨ sg4 A B C D M N = 0 ∨ sg4 A B C D M N = -1 := sumSg_range (sg2_range _ _ _) (mul_range (sg2_range _ _ _) (sgQ'_range _)) (sg2_range _ _ _)
theorem sg4_scaled {A B C D M N L mD nD a b c d mN nN : Rat} (hL : 0 < L) (hm : 0 < mD) (hn : 0 < nD) (ha : a = A * L) (hb : b = B * L) (hc : c = C * L) (hd : d = D * L) (hM : mN = M * mD) (hN : nN = N * nD) :
    sg4 A B C D M N = sumSg (sg2 a b M) (sg2 c d M * sgQ' N) (sg2 ((a * a * mD + b * b * mN) * nD - (c * c * mD + d * d * mN) * nN) ((a * b * mD * nD - c * d * mD * nN) + (a * b * mD * nD - c * d * mD * nN)) M) := by
  unfold sg4
  have e1 : sg2 a b M = sg2 A B M := by rw [ha, hb, Rat.mul_comm A, Rat.mul_comm B]; exact sg2_scale hL
  have e2 : sg2 c d M = sg2 C D M := by rw [hc, hd, Rat.mul_comm C, Rat.mul_comm D]; exact sg2_scale hL
  have hk : 0 < L * L * (mD * nD) := Rat.mul_pos (Rat.mul_pos hL hL) (Rat.mul_pos hm hn)
  have e3 : (a * a * mD + b * b * mN) * nD - (c * c * mD + d * d * mN) * nN = (L * L * (mD * nD)) * (A * A + B * B * M - N * (C * C + D * D * M)) := by subst ha hb hc hd hM hN; grind
  have e4 : (a * b * mD * nD - c * d * mD * nN) + (a * b * mD * nD - c * d * mD * nN) = (L * L * (mD * nD)) * ((A * B - N * (C * D)) + (A * B - N * (C * D))) := by subst ha hb hc hd hM hN; grind
  rw [e1, e2, e3, e4, sg2_scale hk]
end Go.Proofs.YtifeacfljfmnpaaGreat
end

section
set_option maxRecDepth 100000
namespace Go.Proofs.YtifeacfljfmnpaaGreat
open Go.RowKit
end Go.Proofs.YtifeacfljfmnpaaGreat
end

section
set_option maxRecDepth 100000
namespace Go.Proofs.YtifeacfljfmnpaaGreat
open Go.RowKit
end Go.Proofs.YtifeacfljfmnpaaGreat
end

section
set_option maxRecDepth 100000
namespace Go.Proofs.YtifeacfljfmnpaaGreat
open Go.RowKit
end Go.Proofs.YtifeacfljfmnpaaGreat
end

section
set_option maxRecDepth 100000
namespace Go.Proofs.YtifeacfljfmnpaaGreat
open Go.RowKit
theorem limbs_top9 {n : Nat} (h : (limbs n).length = 3) : n = val ((limbs n).take 2) + 1000000000000000000 * (limbs n).getD 2 0 ∧ val ((limbs n).take 2) < 1000000000000000000 := by
  have h1 := val_split (limbs n) 2 (by omega)
  rw [val_limbs, val_drop _ 2 (by omega)] at h1
  have h2 : (limbs n).drop (2 + 1) = [] := List.drop_of_length_le (by omega)
  rw [h2] at h1
  have h3 := val_lt ((dig_limbs n).take 2)
  rw [List.length_take, h] at h3
  simp only [val] at h1
  have e : 1000000000 ^ min 2 3 = 1000000000000000000 := rfl
  rw [e] at h3
  omega
theorem big_len {n : Nat} (h : 10000000000000000000 ≤ n) : 3 < (limbs n).length ∨ ((limbs n).length = 3 ∧ 9 < (limbs n).getD 2 0) := by
  rcases Nat.lt_or_ge 3 (limbs n).length with h1 | h1
  · exact .inl h1
  · right
    have h3 : (limbs n).length = 3 := by
      rcases Nat.lt_or_ge (limbs n).length 3 with h2 | h2
      · have := lt_of_limbs_len (n := n) (k := 2) (by omega); omega
      · omega
    obtain ⟨h4, h5⟩ := limbs_top9 h3
    exact ⟨h3, by omega⟩
theorem small_len {n : Nat} (h : n < 10000000000000000000) : (limbs n).length ≤ 3 ∧ ((limbs n).length = 3 → (limbs n).getD 2 0 ≤ 9) := by
  refine ⟨limbs_len_le (by omega), fun h3 => ?_⟩
  obtain ⟨h4, h5⟩ := limbs_top9 h3
  omega
theorem neg_conv (n : Nat) (h0 : 0 < n) (h : n ≤ 9223372036854775808) : wrap64 (IntKind.u64.wrap (-(n : Int))) = -(n : Int) := by
  simp only [wrap64, IntKind.wrap_u64]
  omega
theorem wrap64_small {m : Int} (n : Nat) (h : (n : Int) = m) (k : m ≤ 9223372036854775807) : wrap64 m = m := by
  simp only [wrap64]
  omega
theorem ret2 {a b : Int} {c d : Bool} (h : a = b) (k : c = d) : Ending.returned (.tuple #[.int .i64 a, .bool c]) = .returned (.tuple #[.int .i64 b, .bool d]) := by rw [h, k]

set_option maxRecDepth 100000 in
set_option maxHeartbeats 1600000 in
theorem int64_calls (w : World) (v : Value) (z : Int) (h : IsInt w v z) :
    Calls Tryz.prog 229 #[v] w fun e w' => e = .returned (.tuple #[.int .i64 (i64v z), .bool (i64ok z)]) ∧ Ext w w' := by
  obtain ⟨ao, cap, s, n, rfl, h1, h2, h3, H4, H5, H6⟩ := h.open_
  obtain ⟨W, hW, eW, c0, c1⟩ := box1 w (.bool s) (.slice ao (limbs n).length cap) 24
  by_cases hb : 10000000000000000000 ≤ n
  · have HO := Lib.hid (i64_out (z := z) (by have := H4.out; omega))
    rcases big_len hb with hl | ⟨hl, ht⟩
    · have hlI : decide ((3 : Int) < ((limbs n).length : Int)) = true := decide_eq_true (by omega)
      clear hb hl
      go_enter Tryz.func229, Tryz.ntmps229
      go_wp2
      go_ret2
      exact ⟨ret2 HO.out.1.symm HO.out.2.symm, eW⟩
    · obtain ⟨b1, o1, rfl, hx⟩ := (h3.ext eW).at_ (by omega)
      have hc := hx 2 (by omega)
      clear hx
      generalize (limbs n).getD 2 0 = t at *
      have htI : (9 : Int) < (t : Int) := by omega
      generalize (limbs n).length = L at *
      subst hl
      clear hb ht
      go_enter Tryz.func229, Tryz.ntmps229
      go_wp2
      go_ret2
      exact ⟨ret2 HO.out.1.symm HO.out.2.symm, eW⟩
  · obtain ⟨hl, ht⟩ := small_len (n := n) (by omega)
    have hv := valueOf_calls W ao (limbs n) cap h1 h2 (h3.ext eW) (by rw [val_limbs]; omega)
    rw [val_limbs] at hv
    have HV := Lib.hid hv
    have hfin : Hid ((∃ L : Nat, L = (limbs n).length ∧ L ≤ 3 ∧ (L = 3 → ∃ b1 o1 t, ao = some ⟨b1, o1, none⟩ ∧ W.cell? ⟨b1, o1 + 2, none⟩ = some (.int .u32 ((t : Nat) : Int)) ∧ t ≤ 9))) := by
      refine ⟨_, rfl, hl, fun h' => ?_⟩
      obtain ⟨b1, o1, rfl, hx⟩ := (h3.ext eW).at_ (by omega)
      exact ⟨b1, o1, _, rfl, hx 2 (by omega), ht h'⟩
    obtain ⟨L, hL, hL3, hLt⟩ := hfin.out
    rw [← hL] at HV
    rw [← hL] at hW c1
    have HLE := Lib.hid (show (Value.slice ao (limbs n).length cap) = .slice ao L cap by rw [hL])
    have HN := Lib.hid (show n < 10000000000000000000 by omega)
    have hz : z = sgn s n := H5.out
    clear hv hl ht h1 h2 h3 hb hfin h
    rw [HLE.out]
    clear hL HLE
    have hgo : ∀ (P : Prop), True := fun _ => trivial
    have HZ := Lib.hid hz
    clear hz hgo
    rcases Nat.lt_or_ge L 3 with hl | hl
    · have hlI : (L : Int) < 3 := by omega
      clear hLt hl hL3
      cases s
      by_cases hn : n ≤ 9223372036854775807
      · have HI := Lib.hid (i64_in (z := z) (by rw [HZ.out]; simp only [sgn]; simp; try omega) (by rw [HZ.out]; simp only [sgn]; simp; try omega))
        have hnI : (n : Int) ≤ 9223372036854775807 := by omega
        have HE : Hid (z = n) := HZ.out
        clear hn
        go_enter Tryz.func229, Tryz.ntmps229
        go_wp2_with fail
        refine HV.out.mono ?_
        rintro e w' ⟨rfl, rfl⟩
        generalize hm : (n : Int) = m at hnI ⊢
        have HM := Lib.hid hm
        clear hm
        go_wp2
        go_ret2
        exact ⟨ret2 (by rw [HI.out.1, HE.out, HM.out]; exact wrap64_small n HM.out hnI) HI.out.2.symm, eW⟩
      · have HI := Lib.hid (i64_out (z := z) (.inr (by rw [HZ.out]; simp only [sgn]; simp; try omega)))
        have hnI : (9223372036854775807 : Int) < n := by omega
        clear hn
        go_enter Tryz.func229, Tryz.ntmps229
        go_wp2_with fail
        refine HV.out.mono ?_
        rintro e w' ⟨rfl, rfl⟩
        generalize hm : (n : Int) = m at hnI ⊢
        have HM := Lib.hid hm
        clear hm
        go_wp2
        go_ret2
        exact ⟨ret2 HI.out.1.symm HI.out.2.symm, eW⟩
      by_cases hn : n ≤ 9223372036854775808
      · have HI := Lib.hid (i64_in (z := z) (by rw [HZ.out]; simp only [sgn]; simp; try omega) (by rw [HZ.out]; simp only [sgn]; simp; try omega))
        have hnI : decide ((n : Int) ≤ 9223372036854775808) = true := decide_eq_true (by omega)
        have HE : Hid (z = -n) := HZ.out
        have HP := Lib.hid (H6.out rfl)
        have HB := Lib.hid hn
        clear hn
        go_enter Tryz.func229, Tryz.ntmps229
        go_wp2_with fail
        refine HV.out.mono ?_
        rintro e w' ⟨rfl, rfl⟩
        go_wp2
        go_ret2
        exact ⟨ret2 (by rw [HI.out.1, HE.out]; exact neg_conv n HP.out HB.out) HI.out.2.symm, eW⟩
      · have HI := Lib.hid (i64_out (z := z) (.inl (by rw [HZ.out]; simp only [sgn]; simp; try omega)))
        have hnI : decide ((n : Int) ≤ 9223372036854775808) = false := decide_eq_false (by omega)
        clear hn
        go_enter Tryz.func229, Tryz.ntmps229
        go_wp2_with fail
        refine HV.out.mono ?_
        rintro e w' ⟨rfl, rfl⟩
        go_wp2
        go_ret2
        exact ⟨ret2 HI.out.1.symm HI.out.2.symm, eW⟩
    · obtain ⟨b1, o1, t, rfl, hc, htt⟩ := hLt (by omega)
      obtain rfl : L = 3 := by omega
      have htI : (t : Int) ≤ 9 := by omega
      clear hLt hl hL3 htt
      cases s
      by_cases hn : n ≤ 9223372036854775807
      · have HI := Lib.hid (i64_in (z := z) (by rw [HZ.out]; simp only [sgn]; simp; try omega) (by rw [HZ.out]; simp only [sgn]; simp; try omega))
        have hnI : (n : Int) ≤ 9223372036854775807 := by omega
        have HE : Hid (z = n) := HZ.out
        clear hn
        go_enter Tryz.func229, Tryz.ntmps229
        go_wp2_with fail
        refine HV.out.mono ?_
        rintro e w' ⟨rfl, rfl⟩
        generalize hm : (n : Int) = m at hnI ⊢
        have HM := Lib.hid hm
        clear hm
        go_wp2
        go_ret2
        exact ⟨ret2 (by rw [HI.out.1, HE.out, HM.out]; exact wrap64_small n HM.out hnI) HI.out.2.symm, eW⟩
      · have HI := Lib.hid (i64_out (z := z) (.inr (by rw [HZ.out]; simp only [sgn]; simp; try omega)))
        have hnI : (9223372036854775807 : Int) < n := by omega
        clear hn
        go_enter Tryz.func229, Tryz.ntmps229
        go_wp2_with fail
        refine HV.out.mono ?_
        rintro e w' ⟨rfl, rfl⟩
        generalize hm : (n : Int) = m at hnI ⊢
        have HM := Lib.hid hm
        clear hm
        go_wp2
        go_ret2
        exact ⟨ret2 HI.out.1.symm HI.out.2.symm, eW⟩
      by_cases hn : n ≤ 9223372036854775808
      · have HI := Lib.hid (i64_in (z := z) (by rw [HZ.out]; simp only [sgn]; simp; try omega) (by rw [HZ.out]; simp only [sgn]; simp; try omega))
        have hnI : decide ((n : Int) ≤ 9223372036854775808) = true := decide_eq_true (by omega)
        have HE : Hid (z = -n) := HZ.out
        have HP := Lib.hid (H6.out rfl)
        have HB := Lib.hid hn
        clear hn
        go_enter Tryz.func229, Tryz.ntmps229
        go_wp2_with fail
        refine HV.out.mono ?_
        rintro e w' ⟨rfl, rfl⟩
        go_wp2
        go_ret2
        exact ⟨ret2 (by rw [HI.out.1, HE.out]; exact neg_conv n HP.out HB.out) HI.out.2.symm, eW⟩
      · have HI := Lib.hid (i64_out (z := z) (.inl (by rw [HZ.out]; simp only [sgn]; simp; try omega)))
        have hnI : decide ((n : Int) ≤ 9223372036854775808) = false := decide_eq_false (by omega)
        clear hn
        go_enter Tryz.func229, Tryz.ntmps229
        go_wp2_with fail
        refine HV.out.mono ?_
        rintro e w' ⟨rfl, rfl⟩
        go_wp2
        go_ret2
        exact ⟨ret2 HI.out.1.symm HI.out.2.symm, eW⟩

end Go.Proofs.YtifeacfljfmnpaaGreat
end

section
set_option maxRecDepth 100000
namespace Go.Proofs.YtifeacfljfmnpaaGreat
open Go.RowKit
def u64T (G : Asm) (t : IT) : Bool :=
  match t.cl with
  | some z => decide (0 ≤ z) && decide (z < 18446744073709551616)
  | none => match t with
    | .a1 21 _ => true
    | t => G.find (.le (.lit 0) t) == some true && G.find (.le t (.lit 18446744073709551615)) == some true
theorem u64T_spec {E : Env} {G : Asm} (hG : G.holds E) {t : IT} (h : u64T G t = true) : 0 ≤ t.den E ∧ t.den E < 18446744073709551616 := by
  unfold u64T at h
  split at h
  · rename_i z hz
    rw [Bool.and_eq_true, decide_eq_true_iff, decide_eq_true_iff] at h
    rw [IT.cl_spec hz]
    exact h
  · split at h
    · rename_i x _
      show 0 ≤ IntKind.u64.wrap (x.den E) ∧ IntKind.u64.wrap (x.den E) < 18446744073709551616
      rw [IntKind.wrap_u64]
      omega
    · rw [Bool.and_eq_true, beq_iff_eq, beq_iff_eq] at h
      have f1 := of_decide_eq_true (Asm.find_spec hG h.1)
      have f2 := of_decide_eq_true (Asm.find_spec hG h.2)
      simp only [IT.den] at f1 f2
      omega
def kMul64 : Con
  | [.val false [.n .u64 a], .val false [.n .u64 b]], G => if u64T G a && u64T G b then some (.tup [(false, [.n .u64 (IT.a2 19 a b).fold]), (false, [.n .u64 (IT.a1 21 (.a2 2 a b)).fold])]) else none
  | _, _ => none
theorem kMul64_ok {E : Env} : ConOK Tryz.prog E 231 kMul64 := by
  refine ⟨?_, ?_, ⟨_, Tryz.func231, by decide +kernel, by kernel_rfl⟩⟩
  · intro args G r h hG β w vs hv hlen
    unfold kMul64 at h
    split at h
    · rename_i a b
      split at h
      · rename_i hc
        rw [Bool.and_eq_true] at hc
        obtain ⟨a1, a2⟩ := u64T_spec hG hc.1
        obtain ⟨b1, b2⟩ := u64T_spec hG hc.2
        injection h with h
        subst h
        obtain ⟨v, u, rfl, h1, h2⟩ := args2 hv hlen
        have h1' := one_num.1 h1
        have h2' := one_num.1 h2
        obtain ⟨x, hx⟩ : ∃ x : Nat, a.den E = (x : Int) := ⟨(a.den E).toNat, by omega⟩
        obtain ⟨y, hy⟩ : ∃ y : Nat, b.den E = (y : Int) := ⟨(b.den E).toNat, by omega⟩
        rw [hx] at h1'
        rw [hy] at h2'
        subst h1' h2'
        refine (mul64_calls w x y (by omega) (by omega)).mono ?_
        rintro e w' ⟨rfl, rfl⟩
        refine ⟨_, rfl, ⟨[_, _], rfl, _, _, rfl, one_num.2 ?_, _, _, rfl, one_num.2 ?_, rfl⟩, Ext.refl _⟩
        · rw [IT.fold_den]
          show _ = Value.int .u64 (a.den E * b.den E / 18446744073709551616)
          rw [hx, hy, Int.natCast_ediv, Int.natCast_mul]; rfl
        · rw [IT.fold_den]
          show _ = Value.int .u64 (IntKind.u64.wrap (a.den E * b.den E))
          rw [hx, hy, IntKind.wrap_u64, Int.natCast_emod, Int.natCast_mul]; rfl
      · cases h
    · cases h
  · intro args G r h x off
    unfold kMul64 at h
    split at h
    · split at h
      · injection h with h; subst h; intro e; cases e
      · cases h
    · cases h
def i64R (x : IT) : BT := .and (.le (.lit (-9223372036854775808)) x) (.le x (.lit 9223372036854775807))
def kI64 : Con
  | [.val true [.int x _]], G => match (i64R x.fold).ev G with
    | some true => some (.tup [(false, [.n .i64 x.fold]), (false, [.b (.lit true)])])
    | some false => some (.tup [(false, [.n .i64 (.lit 0)]), (false, [.b (.lit false)])])
    | none => none
  | _, _ => none
theorem kI64_ok {E : Env} {f : Nat} (hc : ∀ (w : World) (v : Value) (z : Int), IsInt w v z → Calls Tryz.prog f #[v] w fun e w' => e = .returned (.tuple #[.int .i64 (i64v z), .bool (i64ok z)]) ∧ Ext w w')
    (hb : ∃ fn, Tryz.prog.funcs[f]? = some fn ∧ fn.name ≠ "runtime.NumGoroutine" ∧ fn.body.isNone = false) : ConOK Tryz.prog E f kI64 := by
  refine ⟨?_, ?_, hb⟩
  · intro args G r h hG β w vs hv hlen
    unfold kI64 at h
    split at h
    · rename_i x l
      have hev : ∀ b, (i64R x.fold).ev G = some b → i64ok (x.den E) = b := by
        intro b hb
        have := BT.ev_spec hG hb
        rw [← this]
        show _ = (decide (-9223372036854775808 ≤ x.fold.den E) && decide (x.fold.den E ≤ 9223372036854775807))
        rw [IT.fold_den]
        unfold i64ok
        rw [Bool.decide_and]
      obtain ⟨v, u, rfl⟩ : ∃ v, ∃ _u : Unit, vs = [v] := by
        match vs, hlen with
        | [v], _ => exact ⟨v, (), rfl⟩
      obtain ⟨v', hv', h1⟩ := hv 0 _ rfl
      injection hv' with hv'
      subst hv'
      obtain ⟨i1, _⟩ := one_int.1 h1
      split at h
      · rename_i ho
        injection h with h
        subst h
        have hk := hev _ ho
        refine (hc w v _ i1).mono ?_
        rintro e w' ⟨rfl, ex⟩
        refine ⟨_, rfl, ⟨[_, _], rfl, _, _, rfl, one_num.2 ?_, _, _, rfl, one_bool.2 (by rw [hk]; rfl), rfl⟩, ex⟩
        rw [IT.fold_den]
        unfold i64v
        rw [if_pos (of_decide_eq_true hk)]
      · rename_i ho
        injection h with h
        subst h
        have hk := hev _ ho
        refine (hc w v _ i1).mono ?_
        rintro e w' ⟨rfl, ex⟩
        refine ⟨_, rfl, ⟨[_, _], rfl, _, _, rfl, one_num.2 ?_, _, _, rfl, one_bool.2 (by rw [hk]; rfl), rfl⟩, ex⟩
        unfold i64v
        rw [if_neg (of_decide_eq_false hk)]; rfl
      · cases h
    · cases h
  · intro args G r h x off
    unfold kI64 at h
    split at h
    · split at h
      · injection h with h; subst h; intro e; cases e
      · injection h with h; subst h; intro e; cases e
      · cases h
    · cases h
end Go.Proofs.YtifeacfljfmnpaaGreat
end

section
set_option maxRecDepth 100000
namespace Go.Proofs.YtifeacfljfmnpaaGreat
open Go.RowKit
theorem mathSqrt_calls (w : World) (x r : Nat) (h : FloatKind.f64.format.sqrt x = some r) : Calls Tryz.prog 254 #[.float .f64 x] w fun e w' => e = .returned (.float .f64 r) ∧ Ext w w' := by
  go_enter Tryz.func254, Tryz.ntmps254
  go_wp2_with fail
  rw [run_callFunc_extern Tryz.func265 (by kernel_rfl) (by kernel_rfl) (by kernel_rfl) (show Extern.find Tryz.f265 = some Extern.MathSqrt.sqrt by kernel_rfl)]
  have hr : (Extern.MathSqrt.sqrt #[.float .f64 x]).run Tryz.prog w = .ok (.float .f64 r) w := by
    change Sem.run _ (match FloatKind.f64.format.sqrt x with | some r => (pure (.float .f64 r) : Sem Value) | none => do pure (.float .f64 (← choose (.nanBits .f64 x x)))) w = _
    rw [h]
    rfl
  rw [hr]
  simp only [Result.andThen, Oper.upon_value]
  go_wp2
  go_ret
  exact ⟨rfl, Ext.refl w⟩
end Go.Proofs.YtifeacfljfmnpaaGreat
end

section
set_option maxRecDepth 100000
namespace Go.Proofs.YtifeacfljfmnpaaGreat
open Go.RowKit
end Go.Proofs.YtifeacfljfmnpaaGreat
end

section
set_option maxRecDepth 100000
namespace Go.Proofs.YtifeacfljfmnpaaGreat
open Go.RowKit
end Go.Proofs.YtifeacfljfmnpaaGreat
end

section
set_option maxRecDepth 100000
namespace Go.Proofs.YtifeacfljfmnpaaGreat
open Go.RowKit
end Go.Proofs.YtifeacfljfmnpaaGreat
end

section
set_option maxRecDepth 100000
namespace Go.Proofs.YtifeacfljfmnpaaGreat
open Go.RowKit
def allT : Tree → Bool
  | .leaf [(false, [.b (.lit true)])] => true
  | .leaf _ => false
  | .ite _ x y => allT x && allT y
theorem allT_out {E : Env} {β : Nat → Nat} {w : World} {v : Value} : ∀ {T : Tree}, allT T = true → (toAV (T.pick E)).holds E β w v → v = .bool true := by
  intro T
  induction T with
  | leaf l =>
    intro h hh
    unfold allT at h
    split at h
    · rename_i e
      injection e with e
      subst e
      exact one_bool.1 hh
    · cases h
    · rename_i e
      cases e
  | ite b x y ihx ihy =>
    intro h hh
    simp only [allT, Bool.and_eq_true] at h
    simp only [Tree.pick] at hh
    split at hh
    · exact ihx h.1 hh
    · exact ihy h.2 hh
def okTr : Option Tree → Bool
  | some T => allT T
  | none => false
theorem okTr_spec {o : Option Tree} (h : okTr o = true) : ∃ T, o = some T ∧ allT T = true := by
  cases o with
  | none => cases h
  | some T => exact ⟨T, rfl, h⟩
def IsT (w : World) (e : Ending) (w' : World) : Prop := e = .returned (.bool true) ∧ Ext w w'
def aIv (i : Nat) : AV := .val true [.n .i64 (.var (2 * i)), .n .i64 (.var (2 * i + 2))]
theorem qE_int {l : List Rat} {i : Nat} {x : Int} (h : l.getD i 0 = (x : Rat)) : (qE l).i (2 * i) = x := by
  show (if 2 * i % 2 = 0 then (l.getD (2 * i / 2) 0).num else _) = x
  rw [if_pos (by omega), show 2 * i / 2 = i by omega, h, Rat.num_intCast]
theorem aIv_holds {l : List Rat} {β : Nat → Nat} {w : World} {i : Nat} {x y : Int} (hx : l.getD i 0 = (x : Rat)) (hy : l.getD (i + 1) 0 = (y : Rat)) : (aIv i).holds (qE l) β w (.agg #[.int .i64 x, .int .i64 y]) := by
  refine ⟨[_, _], rfl, [_], _, rfl, ?_, [_], [], rfl, ?_, rfl⟩
  · show [Value.int .i64 x] = [Value.int .i64 ((qE l).i (2 * i))]
    rw [qE_int hx]
  · show [Value.int .i64 y] = [Value.int .i64 ((qE l).i (2 * (i + 1)))]
    rw [qE_int hy]
end Go.Proofs.YtifeacfljfmnpaaGreat
end

section
set_option maxRecDepth 100000
namespace Go.Proofs.YtifeacfljfmnpaaGreat
open Go.RowKit
def lM : IT := .lit (-2305843009213693952)
def lP : IT := .lit 2305843009213693952
def gR (t : IT) : Asm := [(.le (.lit (-9223372036854775808)) t, true), (.le t (.lit 9223372036854775807), true)]
def sS0 : IT := .a2 0 (.var 0) (.var 4)
def sS1 : IT := .a2 0 (.var 2) (.var 6)
theorem asm_app {E : Env} {G H : Asm} (h : G.holds E) (k : H.holds E) : Asm.holds E (G ++ H) := fun p hp => by
  rcases List.mem_append.1 hp with hp | hp
  · exact h p hp
  · exact k p hp
theorem asm_c {E : Env} {t : BT} {b : Bool} {G : Asm} (h : t.den E = b) (k : G.holds E) : Asm.holds E ((t, b) :: G) := fun p hp => by
  rcases List.mem_cons.1 hp with rfl | hp
  · exact h
  · exact k p hp
theorem gR_ok {E : Env} {t : IT} (h : -9223372036854775808 ≤ t.den E ∧ t.den E ≤ 9223372036854775807) : Asm.holds E (gR t) := asm_c (decide_eq_true h.1) (asm_c (decide_eq_true h.2) no_asm)
def Prp (x y : Int) : Prop := x ≤ y ∧ -2305843009213693952 ≤ x ∧ y ≤ 2305843009213693952
end Go.Proofs.YtifeacfljfmnpaaGreat
end

section
set_option maxRecDepth 100000
namespace Go.Proofs.YtifeacfljfmnpaaGreat
open Go.RowKit
def twoW (hi lo : IT) : IT := .a2 0 (.a2 17 hi (.lit 64)) lo
def kDiv64 : Con
  | [.val false [.n .u64 hi], .val false [.n .u64 lo], .val false [.n .u64 y]], G => if u64T G hi && (u64T G lo && (u64T G y && (BT.lt hi y).ev G == some true)) then
      some (.tup [(false, [.n .u64 (IT.a2 16 (twoW hi lo) y).fold]), (false, [.n .u64 (IT.a2 15 (twoW hi lo) y).fold])]) else none
  | _, _ => none
theorem kDiv64_ok {E : Env} : ConOK Tryz.prog E 233 kDiv64 := by
  refine ⟨?_, ?_, ⟨_, Tryz.func233, by decide +kernel, by kernel_rfl⟩⟩
  · intro args G r h hG β w vs hv hlen
    unfold kDiv64 at h
    split at h
    · rename_i a b c
      split at h
      · rename_i hc
        simp only [Bool.and_eq_true, beq_iff_eq] at hc
        obtain ⟨c1, c2, c3, c4⟩ := hc
        obtain ⟨a1, a2⟩ := u64T_spec hG c1
        obtain ⟨b1, b2⟩ := u64T_spec hG c2
        obtain ⟨y1, y2⟩ := u64T_spec hG c3
        have hlt : a.den E < c.den E := of_decide_eq_true (BT.ev_spec hG c4)
        injection h with h
        subst h
        obtain ⟨v1, h1, g1⟩ := hv 0 _ rfl
        obtain ⟨v2, h2, g2⟩ := hv 1 _ rfl
        obtain ⟨v3, h3, g3⟩ := hv 2 _ rfl
        obtain rfl : vs = [v1, v2, v3] := by
          match vs, hlen, h1, h2, h3 with
          | [p, q, r], _, h1, h2, h3 =>
            injection h1 with h1; injection h2 with h2; injection h3 with h3
            subst h1 h2 h3; rfl
        have g1' := one_num.1 g1
        have g2' := one_num.1 g2
        have g3' := one_num.1 g3
        obtain ⟨x, hx⟩ : ∃ x : Nat, a.den E = (x : Int) := ⟨(a.den E).toNat, by omega⟩
        obtain ⟨l, hl⟩ : ∃ l : Nat, b.den E = (l : Int) := ⟨(b.den E).toNat, by omega⟩
        obtain ⟨y, hy⟩ : ∃ y : Nat, c.den E = (y : Int) := ⟨(c.den E).toNat, by omega⟩
        rw [hx] at g1'
        rw [hl] at g2'
        rw [hy] at g3'
        subst g1' g2' g3'
        have hw : (twoW a b).den E = ((x * 18446744073709551616 + l : Nat) : Int) := by
          show a.den E * 2 ^ (Int.toNat 64) + b.den E = _
          rw [hx, hl]
          have : (2 : Int) ^ (Int.toNat 64) = 18446744073709551616 := rfl
          rw [this]
          omega
        refine (div64_any w x l y (by omega) (by omega) (by omega)).mono ?_
        rintro e w' ⟨rfl, he⟩
        refine ⟨_, rfl, ⟨[_, _], rfl, _, _, rfl, one_num.2 ?_, _, _, rfl, one_num.2 ?_, rfl⟩, he⟩
        · rw [IT.fold_den]
          show _ = Value.int .u64 (((twoW a b).den E).tdiv (c.den E))
          rw [hw, hy, ← Int.ofNat_tdiv]
        · rw [IT.fold_den]
          show _ = Value.int .u64 (((twoW a b).den E).tmod (c.den E))
          rw [hw, hy, ← Int.ofNat_tmod]
      · cases h
    · cases h
  · intro args G r h x off
    unfold kDiv64 at h
    split at h
    · split at h
      · injection h with h; subst h; intro e; cases e
      · cases h
    · cases h
end Go.Proofs.YtifeacfljfmnpaaGreat
end

section
set_option maxRecDepth 100000
namespace Go.Proofs.YtifeacfljfmnpaaGreat
open Ieee
theorem cut_even {n drop : Nat} (h : drop ≤ n.log2 + 2) : 2 * (Toward.even.cut false n drop * 2 ^ drop) ≤ 2 * n + 2 ^ drop ∧ 2 * n ≤ 2 * (Toward.even.cut false n drop * 2 ^ drop) + 2 ^ drop := by
  unfold Toward.cut
  rw [Nat.min_eq_left h]
  have hg : 1 <<< drop = 2 ^ drop := by rw [Nat.shiftLeft_eq, Nat.one_mul]
  have hp : 0 < 2 ^ drop := Nat.pow_pos (by decide)
  simp only [hg]
  generalize 2 ^ drop = g at *
  have hn : n / g * g + n % g = n := by have := Nat.div_add_mod n g; rw [Nat.mul_comm] at this; exact this
  have hr : n % g < g := Nat.mod_lt _ hp
  generalize n / g = q at *
  generalize n % g = r at *
  have e : ∀ b : Bool, (q + b.toNat) * g = q * g + (if b then g else 0) := by
    intro b
    cases b
    · simp
    · simp [Nat.add_mul]
  rw [e]
  generalize q * g = Q at *
  split
  · rename_i hb
    simp only [Bool.or_eq_true, decide_eq_true_iff, Bool.and_eq_true, beq_iff_eq] at hb
    rcases hb with hb | ⟨hb, _⟩ <;> omega
  · rename_i hb
    simp only [Bool.or_eq_true, decide_eq_true_iff, Bool.and_eq_true, beq_iff_eq, not_or] at hb
    omega
theorem cut_zero {n : Nat} : Toward.even.cut false n 0 = n := by
  have h := cut_even (n := n) (drop := 0) (by omega)
  rw [Nat.pow_zero] at h
  omega
theorem read_normal {k : Nat} {last : Int} (h1 : 4503599627370496 ≤ k) (h2 : k < 9007199254740992) (h3 : -1074 ≤ last) (h4 : last ≤ 900) :
    double.read ((last + 1074).toNat * 4503599627370496 + k) = .number false k last := by
  obtain ⟨L, hL⟩ : ∃ L : Nat, last = (L : Int) - 1074 := ⟨(last + 1074).toNat, by omega⟩
  subst hL
  have e0 : ((L : Int) - 1074 + 1074).toNat = L := by omega
  rw [e0]
  have hL2 : L ≤ 1974 := by omega
  unfold Format.read
  have s1 : double.signWeight = 9223372036854775808 := by decide
  have s2 : double.binade = 4503599627370496 := by decide
  have s3 : double.infRung = 9218868437227405312 := by decide
  have s4 : double.leastPlace = -1074 := by decide
  simp only [s1, s2, s3, s4]
  have m0 : (L * 4503599627370496 + k) / 9223372036854775808 % 2 = 0 := by omega
  have m1 : (L * 4503599627370496 + k) % 9223372036854775808 = L * 4503599627370496 + k := by omega
  simp only [m0, m1]
  have c1 : ¬ (L * 4503599627370496 + k < 4503599627370496) := by omega
  have c2 : L * 4503599627370496 + k < 9218868437227405312 := by omega
  simp only [c1, c2, if_false, if_true]
  have m2 : (L * 4503599627370496 + k) / 4503599627370496 = L + 1 := by omega
  have m3 : (L * 4503599627370496 + k) % 4503599627370496 = k - 4503599627370496 := by omega
  simp only [m2, m3]
  have e1 : 4503599627370496 + (k - 4503599627370496) = k := by omega
  have e2 : (-1074 : Int) + ((L + 1 - 1 : Nat) : Int) = (L : Int) - 1074 := by omega
  rw [e1, e2]
  rfl
theorem log2_bounds {n : Nat} (h : n ≠ 0) : 2 ^ n.log2 ≤ n ∧ n < 2 ^ (n.log2 + 1) := ⟨Nat.log2_self_le h, Nat.lt_log2_self⟩
theorem near_exact {m : Nat} {p : Int} (h0 : m ≠ 0) (hb : m.log2 ≤ 52) (h1 : -1000 ≤ p + m.log2 - 52) (h2 : p + m.log2 - 52 ≤ 900) :
    double.read (double.nearest false m p) = .number false (m * 2 ^ (52 - m.log2)) (p + m.log2 - 52) := by
  obtain ⟨b1, b2⟩ := log2_bounds h0
  unfold Format.nearest
  rw [if_neg h0]
  have s4 : double.leastPlace = -1074 := by decide
  have s5 : (double.fractionBits : Int) = 52 := by decide
  have s2 : double.binade = 4503599627370496 := by decide
  have s3 : double.infRung = 9218868437227405312 := by decide
  simp only [s4, s5, s2, s3]
  have hlast : max (p + (m.log2 : Int) - 52) (-1074) = p + m.log2 - 52 := by omega
  rw [hlast]
  have hd : (p + (m.log2 : Int) - 52 - p).toNat = 0 := by omega
  have hu : (p - (p + (m.log2 : Int) - 52)).toNat = 52 - m.log2 := by omega
  rw [hd, hu, cut_zero, Nat.shiftLeft_eq]
  have k1 : 4503599627370496 ≤ m * 2 ^ (52 - m.log2) := by
    have e : (4503599627370496 : Nat) = 2 ^ m.log2 * 2 ^ (52 - m.log2) := by rw [← Nat.pow_add, show m.log2 + (52 - m.log2) = 52 by omega]
    rw [e]
    exact Nat.mul_le_mul_right _ b1
  have k2 : m * 2 ^ (52 - m.log2) < 9007199254740992 := by
    have e : (9007199254740992 : Nat) = 2 ^ (m.log2 + 1) * 2 ^ (52 - m.log2) := by rw [← Nat.pow_add, show m.log2 + 1 + (52 - m.log2) = 53 by omega]
    rw [e]
    exact Nat.mul_lt_mul_of_pos_right b2 (Nat.pow_pos (by decide))
  generalize m * 2 ^ (52 - m.log2) = k at *
  generalize p + (m.log2 : Int) - 52 = last at *
  have hr := read_normal k1 k2 (by omega) h2
  obtain ⟨L, hL⟩ : ∃ L, L = (last + 1074).toNat := ⟨_, rfl⟩
  have hs : (last - -1074).toNat = L := by omega
  have hL2 : L ≤ 1974 := by omega
  rw [← hL] at hr
  rw [hs]
  have hm : L * 4503599627370496 + k ≤ 9218868437227405312 := by omega
  rw [Nat.min_eq_left hm]
  exact hr
theorem near_round {n d : Nat} (hd : n.log2 = 52 + d) (h0 : 1 ≤ d) (h2 : d ≤ 100) :
    ∃ k e : Nat, double.read (double.nearest false n 0) = .number false k (e : Int) ∧ 4503599627370496 ≤ k ∧ k < 9007199254740992 ∧ 2 * (k * 2 ^ e) ≤ 2 * n + 2 ^ d ∧ 2 * n ≤ 2 * (k * 2 ^ e) + 2 ^ d ∧ (e = d ∨ e = d + 1 ∧ k = 4503599627370496) := by
  have hn : n ≠ 0 := by
    intro h
    subst h
    simp at hd
    omega
  obtain ⟨b1, b2⟩ := log2_bounds hn
  rw [hd] at b1 b2
  have hcut := cut_even (n := n) (drop := d) (by omega)
  have hP : 0 < 2 ^ d := Nat.pow_pos (by decide)
  have q1 : (2 : Nat) ^ 52 = 4503599627370496 := by decide
  have q2 : (2 : Nat) ^ 53 = 9007199254740992 := by decide
  have p1 : (2 : Nat) ^ (52 + d) = 4503599627370496 * 2 ^ d := by rw [Nat.pow_add, q1]
  have p2 : (2 : Nat) ^ (52 + d + 1) = 9007199254740992 * 2 ^ d := by
    rw [show 52 + d + 1 = 53 + d by omega, Nat.pow_add, q2]
  rw [p1] at b1
  rw [p2] at b2
  have p3 : (2 : Nat) ^ (d + 1) = 2 * 2 ^ d := by rw [Nat.pow_succ, Nat.mul_comm]
  obtain ⟨c, hc⟩ : ∃ c, c = Toward.even.cut false n d := ⟨_, rfl⟩
  rw [← hc] at hcut
  have hw : double.nearest false n 0 = min ((d + 1074) * 4503599627370496 + c) 9218868437227405312 := by
    unfold Format.nearest
    rw [if_neg hn]
    have s4 : double.leastPlace = -1074 := by decide
    have s5 : (double.fractionBits : Int) = 52 := by decide
    have s2 : double.binade = 4503599627370496 := by decide
    have s3 : double.infRung = 9218868437227405312 := by decide
    simp only [s4, s5, s2, s3, hd]
    have hlast : max ((0 : Int) + ((52 + d : Nat) : Int) - 52) (-1074) = (d : Int) := by omega
    rw [hlast]
    have e1 : ((0 : Int) - (d : Int)).toNat = 0 := by omega
    have e2 : ((d : Int) - 0).toNat = d := by omega
    have e3 : ((d : Int) - -1074).toNat = d + 1074 := by omega
    rw [e1, e2, e3, Nat.shiftLeft_zero, ← hc]
    simp only [Format.word, Bool.false_eq_true, if_false]
  have c1 : 4503599627370496 ≤ c := by
    refine Decidable.byContradiction fun h => ?_
    have h' : c + 1 ≤ 4503599627370496 := by omega
    have := Nat.mul_le_mul_right (2 ^ d) h'
    rw [Nat.add_mul, Nat.one_mul] at this
    omega
  have c2 : c ≤ 9007199254740992 := by
    refine Decidable.byContradiction fun h => ?_
    have h' : 9007199254740992 + 1 ≤ c := by omega
    have := Nat.mul_le_mul_right (2 ^ d) h'
    rw [Nat.add_mul, Nat.one_mul] at this
    omega
  rw [hw]
  clear hw hc
  have hle : (d + 1074) * 4503599627370496 + c ≤ 9218868437227405312 := by omega
  rw [Nat.min_eq_left hle]
  rcases Nat.lt_or_ge c 9007199254740992 with h | h
  · have hr := read_normal (k := c) (last := (d : Int)) c1 h (by omega) (by omega)
    have e3 : ((d : Int) + 1074).toNat = d + 1074 := by omega
    rw [e3] at hr
    exact ⟨c, d, hr, c1, h, hcut.1, hcut.2, .inl rfl⟩
  · have hcc : c = 9007199254740992 := by omega
    have hr := read_normal (k := 4503599627370496) (last := ((d + 1 : Nat) : Int)) (by omega) (by omega) (by omega) (by omega)
    have e3 : (((d + 1 : Nat) : Int) + 1074).toNat = d + 1075 := by omega
    rw [e3] at hr
    have e4 : (d + 1074) * 4503599627370496 + c = (d + 1075) * 4503599627370496 + 4503599627370496 := by omega
    rw [e4]
    refine ⟨4503599627370496, d + 1, hr, by omega, by omega, ?_, ?_, .inr ⟨rfl, rfl⟩⟩
    · rw [p3]; rw [hcc] at hcut; omega
    · rw [p3]; rw [hcc] at hcut; omega
theorem rootFrom_spec {n : Nat} : ∀ (todo root : Nat), root * root ≤ n → n < (root + 2 ^ todo) * (root + 2 ^ todo) → Datum.rootFrom n todo root * Datum.rootFrom n todo root ≤ n ∧ n < (Datum.rootFrom n todo root + 1) * (Datum.rootFrom n todo root + 1)
  | 0, root, h1, h2 => by
    unfold Datum.rootFrom
    exact ⟨h1, h2⟩
  | todo + 1, root, h1, h2 => by
    have hg : 1 <<< todo = 2 ^ todo := by rw [Nat.shiftLeft_eq, Nat.one_mul]
    have hs : 2 ^ (todo + 1) = 2 ^ todo + 2 ^ todo := by rw [Nat.pow_succ]; omega
    rw [hs, ← Nat.add_assoc] at h2
    unfold Datum.rootFrom
    simp only [hg]
    split
    · rename_i h
      exact rootFrom_spec todo _ h h2
    · rename_i h
      exact rootFrom_spec todo _ h1 (by omega)
theorem root_digits (n : Nat) : Datum.rootFrom n (n.log2 / 2 + 1) 0 * Datum.rootFrom n (n.log2 / 2 + 1) 0 ≤ n ∧ n < (Datum.rootFrom n (n.log2 / 2 + 1) 0 + 1) * (Datum.rootFrom n (n.log2 / 2 + 1) 0 + 1) := by
  refine rootFrom_spec _ _ (by omega) ?_
  rw [Nat.zero_add, ← Nat.pow_add]
  refine Nat.lt_of_lt_of_le (Nat.lt_log2_self (n := n)) (Nat.pow_le_pow_right (by decide) (by omega))
theorem cut_mul {k t : Nat} (h : t ≤ (k * 2 ^ t).log2 + 2) : Toward.even.cut false (k * 2 ^ t) t = k := by
  obtain ⟨h1, h2⟩ := cut_even h
  have hg : 0 < 2 ^ t := Nat.pow_pos (by decide)
  generalize Toward.even.cut false (k * 2 ^ t) t = c at *
  generalize 2 ^ t = g at *
  rcases Nat.lt_trichotomy c k with hc | hc | hc
  · exfalso
    have := Nat.mul_le_mul_right g (show c + 1 ≤ k by omega)
    rw [Nat.add_mul, Nat.one_mul] at this
    omega
  · exact hc
  · exfalso
    have := Nat.mul_le_mul_right g (show k + 1 ≤ c by omega)
    rw [Nat.add_mul, Nat.one_mul] at this
    omega
theorem log2_mul {k t : Nat} (h1 : 4503599627370496 ≤ k) (h2 : k < 9007199254740992) : (k * 2 ^ t).log2 = 52 + t := by
  have q1 : (2 : Nat) ^ 52 = 4503599627370496 := by decide
  have q2 : (2 : Nat) ^ 53 = 9007199254740992 := by decide
  have hg : 0 < 2 ^ t := Nat.pow_pos (by decide)
  have hne : k * 2 ^ t ≠ 0 := Nat.ne_of_gt (Nat.mul_pos (by omega) hg)
  refine (Nat.log2_eq_iff hne).2 ⟨?_, ?_⟩
  · rw [Nat.pow_add, q1]
    exact Nat.mul_le_mul_right _ h1
  · rw [show 52 + t + 1 = 53 + t by omega, Nat.pow_add, q2]
    exact Nat.mul_lt_mul_of_pos_right h2 hg
theorem near_shift {k t : Nat} {p : Int} (h1 : 4503599627370496 ≤ k) (h2 : k < 9007199254740992) (h3 : -1000 ≤ p + t) (h4 : p + t ≤ 900) :
    double.read (double.nearest false (k * 2 ^ t) p) = .number false k (p + t) := by
  have hl := log2_mul (t := t) h1 h2
  have hg : 0 < 2 ^ t := Nat.pow_pos (by decide)
  have hne : k * 2 ^ t ≠ 0 := Nat.ne_of_gt (Nat.mul_pos (by omega) hg)
  have hc : Toward.even.cut false (k * 2 ^ t) t = k := cut_mul (by omega)
  have hr := read_normal (k := k) (last := p + t) h1 h2 (by omega) h4
  obtain ⟨L, hL⟩ : ∃ L, L = (p + (t : Int) + 1074).toNat := ⟨_, rfl⟩
  have hw : double.nearest false (k * 2 ^ t) p = min (L * 4503599627370496 + k) 9218868437227405312 := by
    unfold Format.nearest
    rw [if_neg hne]
    have s4 : double.leastPlace = -1074 := by decide
    have s5 : (double.fractionBits : Int) = 52 := by decide
    have s2 : double.binade = 4503599627370496 := by decide
    have s3 : double.infRung = 9218868437227405312 := by decide
    simp only [s4, s5, s2, s3, hl]
    have hlast : max (p + ((52 + t : Nat) : Int) - 52) (-1074) = p + t := by omega
    rw [hlast]
    have e1 : (p - (p + (t : Int))).toNat = 0 := by omega
    have e2 : (p + (t : Int) - p).toNat = t := by omega
    have e3 : (p + (t : Int) - -1074).toNat = L := by omega
    rw [e1, e2, e3, Nat.shiftLeft_zero, hc]
    simp only [Format.word, Bool.false_eq_true, if_false]
  rw [← hL] at hr
  rw [hw]
  have hL2 : L ≤ 1974 := by omega
  clear hw hc hl hL
  have hle : L * 4503599627370496 + k ≤ 9218868437227405312 := by omega
  rw [Nat.min_eq_left hle]
  exact hr
theorem near_place {n d : Nat} {p : Int} (hd : n.log2 = 52 + d) (h1 : -1000 ≤ p + d) (h2 : p + d ≤ 800) :
    ∃ c k e : Nat, double.read (double.nearest false n p) = .number false k (p + d + e) ∧ 4503599627370496 ≤ k ∧ k < 9007199254740992 ∧ (k * 2 ^ e = c ∧ e ≤ 1) ∧ 2 * (c * 2 ^ d) ≤ 2 * n + 2 ^ d ∧ 2 * n ≤ 2 * (c * 2 ^ d) + 2 ^ d := by
  have hn : n ≠ 0 := by
    intro h
    subst h
    simp at hd
    omega
  obtain ⟨b1, b2⟩ := log2_bounds hn
  rw [hd] at b1 b2
  have hcut := cut_even (n := n) (drop := d) (by omega)
  have hP : 0 < 2 ^ d := Nat.pow_pos (by decide)
  have q1 : (2 : Nat) ^ 52 = 4503599627370496 := by decide
  have q2 : (2 : Nat) ^ 53 = 9007199254740992 := by decide
  have p1 : (2 : Nat) ^ (52 + d) = 4503599627370496 * 2 ^ d := by rw [Nat.pow_add, q1]
  have p2 : (2 : Nat) ^ (52 + d + 1) = 9007199254740992 * 2 ^ d := by
    rw [show 52 + d + 1 = 53 + d by omega, Nat.pow_add, q2]
  rw [p1] at b1
  rw [p2] at b2
  obtain ⟨c, hc⟩ : ∃ c, c = Toward.even.cut false n d := ⟨_, rfl⟩
  rw [← hc] at hcut
  obtain ⟨L, hL⟩ : ∃ L, L = (p + (d : Int) + 1074).toNat := ⟨_, rfl⟩
  have hw : double.nearest false n p = min (L * 4503599627370496 + c) 9218868437227405312 := by
    unfold Format.nearest
    rw [if_neg hn]
    have s4 : double.leastPlace = -1074 := by decide
    have s5 : (double.fractionBits : Int) = 52 := by decide
    have s2 : double.binade = 4503599627370496 := by decide
    have s3 : double.infRung = 9218868437227405312 := by decide
    simp only [s4, s5, s2, s3, hd]
    have hlast : max (p + ((52 + d : Nat) : Int) - 52) (-1074) = p + (d : Int) := by omega
    rw [hlast]
    have e1 : (p - (p + (d : Int))).toNat = 0 := by omega
    have e2 : (p + (d : Int) - p).toNat = d := by omega
    have e3 : (p + (d : Int) - -1074).toNat = L := by omega
    rw [e1, e2, e3, Nat.shiftLeft_zero, ← hc]
    simp only [Format.word, Bool.false_eq_true, if_false]
  have c1 : 4503599627370496 ≤ c := by
    refine Decidable.byContradiction fun h => ?_
    have h' : c + 1 ≤ 4503599627370496 := by omega
    have := Nat.mul_le_mul_right (2 ^ d) h'
    rw [Nat.add_mul, Nat.one_mul] at this
    omega
  have c2 : c ≤ 9007199254740992 := by
    refine Decidable.byContradiction fun h => ?_
    have h' : 9007199254740992 + 1 ≤ c := by omega
    have := Nat.mul_le_mul_right (2 ^ d) h'
    rw [Nat.add_mul, Nat.one_mul] at this
    omega
  rw [hw]
  have hL2 : L ≤ 1874 := by omega
  clear hw hc b1 b2 p1 p2
  have hle : L * 4503599627370496 + c ≤ 9218868437227405312 := by omega
  rw [Nat.min_eq_left hle]
  rcases Nat.lt_or_ge c 9007199254740992 with h | h
  · have hr := read_normal (k := c) (last := p + (d : Int)) c1 h (by omega) (by omega)
    rw [← hL] at hr
    refine ⟨c, c, 0, ?_, c1, h, ⟨by simp, by omega⟩, hcut.1, hcut.2⟩
    rw [hr]
    simp
  · have hcc : c = 9007199254740992 := by omega
    have hr := read_normal (k := 4503599627370496) (last := p + (d : Int) + 1) (by omega) (by omega) (by omega) (by omega)
    have e3 : (p + (d : Int) + 1 + 1074).toNat = L + 1 := by omega
    rw [e3] at hr
    have e4 : L * 4503599627370496 + c = (L + 1) * 4503599627370496 + 4503599627370496 := by omega
    rw [e4]
    refine ⟨c, 4503599627370496, 1, ?_, by omega, by omega, ⟨by omega, by omega⟩, hcut.1, hcut.2⟩
    rw [hr]
    rfl
theorem root_normal {k : Nat} {i : Int} (h1 : 4503599627370496 ≤ k) (h2 : k < 9007199254740992) : ∃ q W st : Nat, q ≤ 1 ∧ (i - 56 - q) % 2 = 0 ∧ st ≤ 1 ∧ (st = 0 ↔ W * W = k * 2 ^ (56 + q)) ∧ W * W ≤ k * 2 ^ (56 + q) ∧ k * 2 ^ (56 + q) < (W + 1) * (W + 1) ∧
    (Datum.number false k i).root 54 = some (.number false (2 * W + st) ((i - 56 - q) / 2 - 1)) := by
  obtain ⟨q, hq⟩ : ∃ q, q = ((i - 56) % 2).toNat := ⟨_, rfl⟩
  have hl : k.log2 = 52 := by
    have := log2_mul (t := 0) h1 h2
    rwa [Nat.pow_zero, Nat.mul_one] at this
  have hk : k ≠ 0 := by omega
  obtain ⟨n, hn⟩ : ∃ n, n = k * 2 ^ (56 + q) := ⟨_, rfl⟩
  obtain ⟨d1, d2⟩ := root_digits n
  obtain ⟨W, hW⟩ : ∃ W, W = Datum.rootFrom n (n.log2 / 2 + 1) 0 := ⟨_, rfl⟩
  rw [← hW] at d1 d2
  refine ⟨q, W, (W * W != n).toNat, by omega, by omega, by cases (W * W != n) <;> decide, ?_, by rw [← hn]; exact d1, by rw [← hn]; exact d2, ?_⟩
  · rw [← hn]
    cases hb : (W * W != n) with
    | true =>
      have : W * W ≠ n := by simpa using hb
      simp [this]
    | false =>
      have : W * W = n := by simpa using hb
      simp [this]
  · unfold Datum.root
    simp only [hk, Bool.false_eq_true, if_false, hl]
    have e1 : 2 * 54 - 52 = 56 := rfl
    rw [e1]
    have e2 : ((i - ((56 : Nat) : Int)) % 2).toNat = q := by rw [hq]; rfl
    rw [e2, Nat.shiftLeft_eq, ← hn, ← hW]
    have e3 : (i - ((56 + q : Nat) : Int)) = i - 56 - q := by omega
    rw [e3]
theorem root_reaches {n W st c X : Nat} (h1 : W * W ≤ n) (h2 : n < (W + 1) * (W + 1)) (h3 : st = 0 ↔ W * W = n) (hr : 2 * (2 * W + st) ≤ 2 * (c * 2 ^ 3) + 2 ^ 3) (hX : 2 ≤ X) (h4 : X % 4 = 0) (hn : (X - 2) * (X - 2) < n) : X ≤ 4 * c := by
  refine Decidable.byContradiction fun hc => ?_
  have e : (2 : Nat) ^ 3 = 8 := by decide
  rw [e] at hr
  have hW : W ≤ X - 2 := by omega
  rcases Nat.lt_or_ge W (X - 2) with h | h
  · have := Nat.mul_le_mul (show W + 1 ≤ X - 2 by omega) (show W + 1 ≤ X - 2 by omega)
    omega
  · obtain rfl : W = X - 2 := by omega
    have hs : st = 0 := by omega
    have := h3.1 hs
    omega
theorem root_below {n W st c Y : Nat} (h1 : W * W ≤ n) (hst : st ≤ 1) (hr : 2 * (c * 2 ^ 3) ≤ 2 * (2 * W + st) + 2 ^ 3) (hY : 4 ≤ Y) (hn : n < (Y - 3) * (Y - 3)) : 4 * c < Y := by
  have e : (2 : Nat) ^ 3 = 8 := by decide
  rw [e] at hr
  have hW : W < Y - 3 := by
    refine Decidable.byContradiction fun h => ?_
    have := Nat.mul_le_mul (show Y - 3 ≤ W by omega) (show Y - 3 ≤ W by omega)
    omega
  omega
theorem toInt_zero (k d : Nat) : (Datum.number false k (-(d : Int))).toInt .zero = some ((k / 2 ^ d : Nat) : Int) := by
  unfold Datum.toInt Datum.integral
  have e1 : (-(d : Int)).toNat = 0 := by omega
  have e2 : (- -(d : Int)).toNat = d := by omega
  simp only [e1, e2, Nat.shiftLeft_zero]
  have hc : Toward.zero.cut false k d = k / 2 ^ d := by
    unfold Toward.cut
    simp only [Bool.toNat_false, Nat.add_zero]
    rw [Nat.shiftLeft_eq, Nat.one_mul]
    rcases Nat.le_total d (k.log2 + 2) with h | h
    · rw [Nat.min_eq_left h]
    · rw [Nat.min_eq_right h]
      have b : k < 2 ^ (k.log2 + 1) := Nat.lt_log2_self
      have b1 : k < 2 ^ (k.log2 + 2) := Nat.lt_of_lt_of_le b (Nat.pow_le_pow_right (by decide) (by omega))
      have b2 : k < 2 ^ d := Nat.lt_of_lt_of_le b1 (Nat.pow_le_pow_right (by decide) h)
      rw [Nat.div_eq_of_lt b1, Nat.div_eq_of_lt b2]
  rw [hc]
  unfold signed
  simp
theorem sqrt_normal {x k : Nat} {i : Int} (hx : double.read x = .number false k i) (h1 : 4503599627370496 ≤ k) (h2 : k < 9007199254740992) (h3 : -800 ≤ i) (h4 : i ≤ 600) :
    ∃ r q W st c k' e : Nat, double.sqrt x = some r ∧ double.read r = .number false k' ((i - 56 - q) / 2 + 2 + e) ∧ (k' * 2 ^ e = c ∧ e ≤ 1) ∧ q ≤ 1 ∧ (i - 56 - q) % 2 = 0 ∧ st ≤ 1 ∧ (st = 0 ↔ W * W = k * 2 ^ (56 + q)) ∧ W * W ≤ k * 2 ^ (56 + q) ∧ k * 2 ^ (56 + q) < (W + 1) * (W + 1) ∧
      2 * (2 * W + st) ≤ 2 * (c * 2 ^ 3) + 2 ^ 3 ∧ 2 * (c * 2 ^ 3) ≤ 2 * (2 * W + st) + 2 ^ 3 := by
  obtain ⟨q, W, st, hq, hpar, hst, hst0, hW1, hW2, hroot⟩ := root_normal (i := i) h1 h2
  have q54 : (2 : Nat) ^ 54 = 18014398509481984 := by decide
  have q55 : (2 : Nat) ^ 55 = 36028797018963968 := by decide
  have lo : 18014398509481984 ≤ W := by
    refine Decidable.byContradiction fun h => ?_
    have a1 := Nat.mul_le_mul (show W + 1 ≤ 18014398509481984 by omega) (show W + 1 ≤ 18014398509481984 by omega)
    have a2 : 4503599627370496 * 2 ^ 56 ≤ k * 2 ^ (56 + q) := Nat.mul_le_mul h1 (Nat.pow_le_pow_right (by decide) (by omega))
    have a3 : (18014398509481984 * 18014398509481984 : Nat) = 4503599627370496 * 2 ^ 56 := by decide
    omega
  have hi : W < 36028797018963968 := by
    refine Decidable.byContradiction fun h => ?_
    have a1 := Nat.mul_le_mul (show 36028797018963968 ≤ W by omega) (show 36028797018963968 ≤ W by omega)
    have a2 : k * 2 ^ (56 + q) ≤ k * 2 ^ 57 := Nat.mul_le_mul_left k (Nat.pow_le_pow_right (by decide) (by omega))
    have a3 : (36028797018963968 * 36028797018963968 : Nat) = 9007199254740992 * 2 ^ 57 := by decide
    have a4 : k * 2 ^ 57 < 9007199254740992 * 2 ^ 57 := Nat.mul_lt_mul_of_pos_right h2 (by decide)
    omega
  have hl : (2 * W + st).log2 = 52 + 3 := by
    refine (Nat.log2_eq_iff (by omega)).2 ⟨?_, ?_⟩
    · rw [show 52 + 3 = 55 from rfl, q55]; omega
    · have q56 : (2 : Nat) ^ 56 = 72057594037927936 := by decide
      rw [show 52 + 3 + 1 = 56 from rfl, q56]; omega
  obtain ⟨c, k', e, hr, _, _, hk, hc1, hc2⟩ := near_place (n := 2 * W + st) (d := 3) (p := (i - 56 - q) / 2 - 1) hl (by omega) (by omega)
  refine ⟨double.nearest false (2 * W + st) ((i - 56 - q) / 2 - 1), q, W, st, c, k', e, ?_, ?_, hk, hq, hpar, hst, hst0, hW1, hW2, hc2, hc1⟩
  · have s5 : double.fractionBits + 2 = 54 := by decide
    unfold Format.sqrt
    rw [hx, s5, hroot]
    rfl
  · rw [hr]
    congr 1
    omega
theorem mul_scale {x k : Nat} {i : Int} (hx : double.read x = .number false k i) (h1 : 4503599627370496 ≤ k) (h2 : k < 9007199254740992) (h3 : -800 ≤ i) (h4 : i ≤ 600) :
    ∃ r : Nat, double.mul x 4679240012837945344 = some r ∧ double.read r = .number false k (i + 16) := by
  have hs : double.read 4679240012837945344 = .number false 4503599627370496 (-36) := by decide +kernel
  have q1 : (2 : Nat) ^ 52 = 4503599627370496 := by decide
  have hr := near_shift (t := 52) (p := i + -36) h1 h2 (by omega) (by omega)
  rw [q1] at hr
  refine ⟨double.nearest false (k * 4503599627370496) (i + -36), ?_, ?_⟩
  · unfold Format.mul
    rw [hx, hs]
    rfl
  · rw [hr]
    congr 1
    omega
theorem near_int {n : Nat} (h0 : n ≠ 0) (hn : n < 4611686018427387904) : ∃ (k : Nat) (i : Int), double.read (double.nearest false n 0) = .number false k i ∧ 4503599627370496 ≤ k ∧ k < 9007199254740992 ∧ -52 ≤ i ∧ i ≤ 10 ∧
    ((i ≤ 0 ∧ k = n * 2 ^ (-i).toNat) ∨ (1 ≤ i ∧ 2 * (k * 2 ^ i.toNat) ≤ 2 * n + 2 ^ i.toNat ∧ 2 * n ≤ 2 * (k * 2 ^ i.toNat) + 2 ^ i.toNat)) := by
  have q62 : (2 : Nat) ^ 62 = 4611686018427387904 := by decide
  have hl : n.log2 < 62 := (Nat.log2_lt h0).2 (by omega)
  obtain ⟨b1, b2⟩ := log2_bounds h0
  rcases Nat.lt_or_ge 52 n.log2 with h | h
  · obtain ⟨d, hd⟩ : ∃ d, n.log2 = 52 + d := ⟨n.log2 - 52, by omega⟩
    obtain ⟨k, e, hr, k1, k2, c1, c2, he⟩ := near_round hd (by omega) (by omega)
    have hE : 2 ^ d ≤ 2 ^ e := Nat.pow_le_pow_right (by decide) (by omega)
    refine ⟨k, (e : Int), hr, k1, k2, by omega, by omega, .inr ⟨by omega, ?_, ?_⟩⟩
    · rw [Int.toNat_natCast]; omega
    · rw [Int.toNat_natCast]; omega
  · have hr := near_exact (m := n) (p := 0) h0 h (by omega) (by omega)
    have q1 : (2 : Nat) ^ 52 = 4503599627370496 := by decide
    have q2 : (2 : Nat) ^ 53 = 9007199254740992 := by decide
    have hG : 0 < 2 ^ (52 - n.log2) := Nat.pow_pos (by decide)
    refine ⟨n * 2 ^ (52 - n.log2), 0 + (n.log2 : Int) - 52, hr, ?_, ?_, by omega, by omega, .inl ⟨by omega, ?_⟩⟩
    · rw [← q1, show 52 = n.log2 + (52 - n.log2) by omega, Nat.pow_add, show n.log2 + (52 - n.log2) = 52 by omega]
      exact Nat.mul_le_mul_right _ b1
    · rw [← q2, show 53 = n.log2 + 1 + (52 - n.log2) by omega, Nat.pow_add]
      exact Nat.mul_lt_mul_of_pos_right b2 hG
    · have : (-(0 + (n.log2 : Int) - 52)).toNat = 52 - n.log2 := by omega
      rw [this]
theorem between_squares {N n s D h L : Nat} (hn1 : (N - h) * (D * D) ≤ n) (hn2 : n ≤ (N + h) * (D * D)) (h1 : s * s ≤ N) (h2 : N < (s + 1) * (s + 1)) (hL : L ≤ s) (hlin : h * (D * D) + 4 < 4 * (L * D)) (hD : 4 ≤ D) (hh : h * D ≤ 2 * (L * (D - 3))) :
    (s * D - 2) * (s * D - 2) < n ∧ n < ((s + 2) * D - 3) * ((s + 2) * D - 3) := by
  have hLs : L * D ≤ s * D := Nat.mul_le_mul_right D hL
  constructor
  · obtain ⟨X, hX⟩ : ∃ X, X = s * D := ⟨_, rfl⟩
    rw [← hX] at hLs ⊢
    have hXX : X * X = s * s * (D * D) := by rw [hX]; grind
    have a1 : s * s * (D * D) ≤ N * (D * D) := Nat.mul_le_mul_right _ h1
    rw [Nat.sub_mul] at hn1
    obtain ⟨Y, hY⟩ : ∃ Y, X = Y + 2 := ⟨X - 2, by omega⟩
    have e1 : X * X + 4 = Y * Y + 4 * X := by rw [hY]; grind
    have e2 : X - 2 = Y := by omega
    rw [e2]
    omega
  · obtain ⟨Z, hZ⟩ : ∃ Z, Z = (s + 1) * D := ⟨_, rfl⟩
    obtain ⟨F, hF⟩ : ∃ F, D = F + 3 := ⟨D - 3, by omega⟩
    have e1 : (s + 2) * D - 3 = Z + F := by
      have : (s + 2) * D = Z + D := by rw [hZ]; grind
      omega
    rw [e1]
    have e2 : (Z + F) * (Z + F) = Z * Z + 2 * (Z * F) + F * F := by grind
    rw [e2]
    have hZZ : Z * Z = (s + 1) * (s + 1) * (D * D) := by rw [hZ]; grind
    have a1 : (N + 1) * (D * D) ≤ (s + 1) * (s + 1) * (D * D) := Nat.mul_le_mul_right _ h2
    rw [Nat.add_mul, Nat.one_mul] at a1
    rw [Nat.add_mul] at hn2
    have hDD : 0 < D * D := Nat.mul_pos (by omega) (by omega)
    have a2 : h * D ≤ 2 * (s * F) := by
      have : D - 3 = F := by omega
      rw [this] at hh
      have := Nat.mul_le_mul_right F hL
      omega
    have a3 : h * D * D ≤ 2 * (s * F) * D := Nat.mul_le_mul_right D a2
    have a4 : h * D * D = h * (D * D) := by grind
    have a5 : 2 * (s * F) * D ≤ 2 * (Z * F) := by
      have : 2 * (Z * F) = 2 * (s * F) * D + 2 * (F * D) := by rw [hZ]; grind
      omega
    omega
theorem squares_rounded {n s k j q : Nat} {i : Int} (k1 : 4503599627370496 ≤ k) (hi : 1 ≤ i) (hi2 : i ≤ 10) (hq : q ≤ 1) (hj : (2 * j : Int) = 40 + q - i) (hc1 : 2 * (k * 2 ^ i.toNat) ≤ 2 * n + 2 ^ i.toNat) (hc2 : 2 * n ≤ 2 * (k * 2 ^ i.toNat) + 2 ^ i.toNat) (h1 : s * s ≤ n * 65536) (h2 : n * 65536 < (s + 1) * (s + 1)) :
    (s * 2 ^ j - 2) * (s * 2 ^ j - 2) < k * 2 ^ (56 + q) ∧ k * 2 ^ (56 + q) < ((s + 2) * 2 ^ j - 3) * ((s + 2) * 2 ^ j - 3) := by
  have hcs : i = 1 ∨ i = 2 ∨ i = 3 ∨ i = 4 ∨ i = 5 ∨ i = 6 ∨ i = 7 ∨ i = 8 ∨ i = 9 ∨ i = 10 := by omega
  rcases hcs with rfl | rfl | rfl | rfl | rfl | rfl | rfl | rfl | rfl | rfl
  · obtain rfl : q = 1 := by omega
    obtain rfl : j = 20 := by omega
    have g1 : (2 : Nat) ^ 20 = 1048576 := by decide
    have g2 : (2 : Nat) ^ (56 + 1) = 144115188075855872 := by decide
    have g3 : (2 : Nat) ^ ((1 : Int).toNat) = 2 := by decide
    rw [g1, g2]
    rw [g3] at hc1 hc2
    have hL : 24296003998 ≤ s := by
      refine Decidable.byContradiction fun h => ?_
      have := Nat.mul_le_mul (show s + 1 ≤ 24296003998 by omega) (show s + 1 ≤ 24296003998 by omega)
      omega
    exact between_squares (L := 24296003998) (h := 65536) (by omega) (by omega) h1 h2 hL (by decide) (by decide) (by decide)
  · obtain rfl : q = 0 := by omega
    obtain rfl : j = 19 := by omega
    have g1 : (2 : Nat) ^ 19 = 524288 := by decide
    have g2 : (2 : Nat) ^ (56 + 0) = 72057594037927936 := by decide
    have g3 : (2 : Nat) ^ ((2 : Int).toNat) = 4 := by decide
    rw [g1, g2]
    rw [g3] at hc1 hc2
    have hL : 34359738366 ≤ s := by
      refine Decidable.byContradiction fun h => ?_
      have := Nat.mul_le_mul (show s + 1 ≤ 34359738366 by omega) (show s + 1 ≤ 34359738366 by omega)
      omega
    exact between_squares (L := 34359738366) (h := 131072) (by omega) (by omega) h1 h2 hL (by decide) (by decide) (by decide)
  · obtain rfl : q = 1 := by omega
    obtain rfl : j = 19 := by omega
    have g1 : (2 : Nat) ^ 19 = 524288 := by decide
    have g2 : (2 : Nat) ^ (56 + 1) = 144115188075855872 := by decide
    have g3 : (2 : Nat) ^ ((3 : Int).toNat) = 8 := by decide
    rw [g1, g2]
    rw [g3] at hc1 hc2
    have hL : 48592007998 ≤ s := by
      refine Decidable.byContradiction fun h => ?_
      have := Nat.mul_le_mul (show s + 1 ≤ 48592007998 by omega) (show s + 1 ≤ 48592007998 by omega)
      omega
    exact between_squares (L := 48592007998) (h := 262144) (by omega) (by omega) h1 h2 hL (by decide) (by decide) (by decide)
  · obtain rfl : q = 0 := by omega
    obtain rfl : j = 18 := by omega
    have g1 : (2 : Nat) ^ 18 = 262144 := by decide
    have g2 : (2 : Nat) ^ (56 + 0) = 72057594037927936 := by decide
    have g3 : (2 : Nat) ^ ((4 : Int).toNat) = 16 := by decide
    rw [g1, g2]
    rw [g3] at hc1 hc2
    have hL : 68719476734 ≤ s := by
      refine Decidable.byContradiction fun h => ?_
      have := Nat.mul_le_mul (show s + 1 ≤ 68719476734 by omega) (show s + 1 ≤ 68719476734 by omega)
      omega
    exact between_squares (L := 68719476734) (h := 524288) (by omega) (by omega) h1 h2 hL (by decide) (by decide) (by decide)
  · obtain rfl : q = 1 := by omega
    obtain rfl : j = 18 := by omega
    have g1 : (2 : Nat) ^ 18 = 262144 := by decide
    have g2 : (2 : Nat) ^ (56 + 1) = 144115188075855872 := by decide
    have g3 : (2 : Nat) ^ ((5 : Int).toNat) = 32 := by decide
    rw [g1, g2]
    rw [g3] at hc1 hc2
    have hL : 97184015998 ≤ s := by
      refine Decidable.byContradiction fun h => ?_
      have := Nat.mul_le_mul (show s + 1 ≤ 97184015998 by omega) (show s + 1 ≤ 97184015998 by omega)
      omega
    exact between_squares (L := 97184015998) (h := 1048576) (by omega) (by omega) h1 h2 hL (by decide) (by decide) (by decide)
  · obtain rfl : q = 0 := by omega
    obtain rfl : j = 17 := by omega
    have g1 : (2 : Nat) ^ 17 = 131072 := by decide
    have g2 : (2 : Nat) ^ (56 + 0) = 72057594037927936 := by decide
    have g3 : (2 : Nat) ^ ((6 : Int).toNat) = 64 := by decide
    rw [g1, g2]
    rw [g3] at hc1 hc2
    have hL : 137438953470 ≤ s := by
      refine Decidable.byContradiction fun h => ?_
      have := Nat.mul_le_mul (show s + 1 ≤ 137438953470 by omega) (show s + 1 ≤ 137438953470 by omega)
      omega
    exact between_squares (L := 137438953470) (h := 2097152) (by omega) (by omega) h1 h2 hL (by decide) (by decide) (by decide)
  · obtain rfl : q = 1 := by omega
    obtain rfl : j = 17 := by omega
    have g1 : (2 : Nat) ^ 17 = 131072 := by decide
    have g2 : (2 : Nat) ^ (56 + 1) = 144115188075855872 := by decide
    have g3 : (2 : Nat) ^ ((7 : Int).toNat) = 128 := by decide
    rw [g1, g2]
    rw [g3] at hc1 hc2
    have hL : 194368031997 ≤ s := by
      refine Decidable.byContradiction fun h => ?_
      have := Nat.mul_le_mul (show s + 1 ≤ 194368031997 by omega) (show s + 1 ≤ 194368031997 by omega)
      omega
    exact between_squares (L := 194368031997) (h := 4194304) (by omega) (by omega) h1 h2 hL (by decide) (by decide) (by decide)
  · obtain rfl : q = 0 := by omega
    obtain rfl : j = 16 := by omega
    have g1 : (2 : Nat) ^ 16 = 65536 := by decide
    have g2 : (2 : Nat) ^ (56 + 0) = 72057594037927936 := by decide
    have g3 : (2 : Nat) ^ ((8 : Int).toNat) = 256 := by decide
    rw [g1, g2]
    rw [g3] at hc1 hc2
    have hL : 274877906942 ≤ s := by
      refine Decidable.byContradiction fun h => ?_
      have := Nat.mul_le_mul (show s + 1 ≤ 274877906942 by omega) (show s + 1 ≤ 274877906942 by omega)
      omega
    exact between_squares (L := 274877906942) (h := 8388608) (by omega) (by omega) h1 h2 hL (by decide) (by decide) (by decide)
  · obtain rfl : q = 1 := by omega
    obtain rfl : j = 16 := by omega
    have g1 : (2 : Nat) ^ 16 = 65536 := by decide
    have g2 : (2 : Nat) ^ (56 + 1) = 144115188075855872 := by decide
    have g3 : (2 : Nat) ^ ((9 : Int).toNat) = 512 := by decide
    rw [g1, g2]
    rw [g3] at hc1 hc2
    have hL : 388736063995 ≤ s := by
      refine Decidable.byContradiction fun h => ?_
      have := Nat.mul_le_mul (show s + 1 ≤ 388736063995 by omega) (show s + 1 ≤ 388736063995 by omega)
      omega
    exact between_squares (L := 388736063995) (h := 16777216) (by omega) (by omega) h1 h2 hL (by decide) (by decide) (by decide)
  · obtain rfl : q = 0 := by omega
    obtain rfl : j = 15 := by omega
    have g1 : (2 : Nat) ^ 15 = 32768 := by decide
    have g2 : (2 : Nat) ^ (56 + 0) = 72057594037927936 := by decide
    have g3 : (2 : Nat) ^ ((10 : Int).toNat) = 1024 := by decide
    rw [g1, g2]
    rw [g3] at hc1 hc2
    have hL : 549755813886 ≤ s := by
      refine Decidable.byContradiction fun h => ?_
      have := Nat.mul_le_mul (show s + 1 ≤ 549755813886 by omega) (show s + 1 ≤ 549755813886 by omega)
      omega
    exact between_squares (L := 549755813886) (h := 33554432) (by omega) (by omega) h1 h2 hL (by decide) (by decide) (by decide)
theorem squares_exact {n s k j q : Nat} {i : Int} (hi : i ≤ 0) (hj : (2 * j : Int) = 40 + q - i) (hk : k = n * 2 ^ (-i).toNat) (h0 : 1 ≤ s) (h1 : s * s ≤ n * 65536) (h2 : n * 65536 < (s + 1) * (s + 1)) :
    (s * 2 ^ j - 2) * (s * 2 ^ j - 2) < k * 2 ^ (56 + q) ∧ k * 2 ^ (56 + q) < ((s + 2) * 2 ^ j - 3) * ((s + 2) * 2 ^ j - 3) := by
  have e : k * 2 ^ (56 + q) = n * 65536 * (2 ^ j * 2 ^ j) := by
    have g : (65536 : Nat) = 2 ^ 16 := by decide
    rw [hk, g, Nat.mul_assoc, Nat.mul_assoc, ← Nat.pow_add, ← Nat.pow_add, ← Nat.pow_add]
    congr 2
    omega
  rw [e]
  have hD : 4 ≤ 2 ^ j := by
    have : (4 : Nat) = 2 ^ 2 := by decide
    rw [this]
    exact Nat.pow_le_pow_right (by decide) (by omega)
  generalize 2 ^ j = D at *
  exact between_squares (L := 1) (h := 0) (by rw [Nat.sub_zero]; exact Nat.le_refl _) (by rw [Nat.add_zero]; exact Nat.le_refl _) h1 h2 h0 (by omega) hD (by omega)
theorem float_sqrt {n s : Nat} (h0 : n ≠ 0) (hn : n < 4611686018427387904) (h1 : s * s ≤ n * 65536) (h2 : n * 65536 < (s + 1) * (s + 1)) :
    ∃ x r t : Nat, double.mul (double.nearest false n 0) 4679240012837945344 = some x ∧ double.sqrt x = some r ∧ (double.read r).toInt .zero = some (t : Int) ∧ (t = s ∨ t = s + 1) := by
  obtain ⟨k, i, hr, k1, k2, i1, i2, hcase⟩ := near_int h0 hn
  obtain ⟨x, hx, hxr⟩ := mul_scale hr k1 k2 (by omega) (by omega)
  obtain ⟨r, q, W, st, c, k', e, hsq, hrr, ⟨hk, he⟩, hq1, hpar, hst, hst0, hW1, hW2, hc1, hc2⟩ := sqrt_normal hxr k1 k2 (by omega) (by omega)
  obtain ⟨j, hj1, hj2⟩ : ∃ j : Nat, (i + 16 - 56 - q) / 2 = -(j : Int) ∧ (2 * j : Int) = 40 + q - i := ⟨((40 + q - i) / 2).toNat, by omega, by omega⟩
  have hj : 15 ≤ j := by omega
  have hs1 : 1 ≤ s := by
    refine Decidable.byContradiction fun h => ?_
    obtain rfl : s = 0 := by omega
    omega
  have key : (s * 2 ^ j - 2) * (s * 2 ^ j - 2) < k * 2 ^ (56 + q) ∧ k * 2 ^ (56 + q) < ((s + 2) * 2 ^ j - 3) * ((s + 2) * 2 ^ j - 3) := by
    rcases hcase with ⟨a1, a2⟩ | ⟨a1, a2, a3⟩
    · exact squares_exact a1 hj2 a2 hs1 h1 h2
    · exact squares_rounded k1 a1 i2 hq1 hj2 a2 a3 h1 h2
  have hD : (2 : Nat) ^ j = 2 ^ (j - 2) * 4 := by
    have : (4 : Nat) = 2 ^ 2 := by decide
    rw [this, ← Nat.pow_add, show j - 2 + 2 = j by omega]
  have hP : 0 < 2 ^ (j - 2) := Nat.pow_pos (by decide)
  have t1 : s * 2 ^ j ≤ 4 * c := by
    refine root_reaches hW1 hW2 hst0 hc1 ?_ ?_ key.1
    · rw [hD]
      have := Nat.mul_le_mul hs1 (show 4 ≤ 2 ^ (j - 2) * 4 by omega)
      omega
    · rw [hD, ← Nat.mul_assoc]
      omega
  have t2 : 4 * c < (s + 2) * 2 ^ j := by
    refine root_below hW1 hst hc2 ?_ key.2
    rw [hD]
    have := Nat.mul_le_mul (show 1 ≤ s + 2 by omega) (show 4 ≤ 2 ^ (j - 2) * 4 by omega)
    omega
  have hpl : (i + 16 - 56 - q) / 2 + 2 + (e : Int) = -((j - 2 - e : Nat) : Int) := by omega
  rw [hpl] at hrr
  have hval : k' / 2 ^ (j - 2 - e) = 4 * c / 2 ^ j := by
    have e1 : 4 * c = k' * (2 ^ e * 4) := by rw [← hk, Nat.mul_comm, Nat.mul_assoc]
    have e2 : (2 : Nat) ^ j = 2 ^ (j - 2 - e) * (2 ^ e * 4) := by
      rw [hD, ← Nat.mul_assoc, ← Nat.pow_add, show j - 2 - e + e = j - 2 by omega]
    rw [e1, e2, Nat.mul_div_mul_right _ _ (Nat.mul_pos (Nat.pow_pos (by decide)) (by decide))]
  refine ⟨x, r, 4 * c / 2 ^ j, hx, hsq, ?_, ?_⟩
  · rw [hrr, toInt_zero, hval]
  · have hDp : 0 < 2 ^ j := Nat.pow_pos (by decide)
    have b1 : s ≤ 4 * c / 2 ^ j := (Nat.le_div_iff_mul_le hDp).2 t1
    have b2 : 4 * c / 2 ^ j < s + 2 := (Nat.div_lt_iff_lt_mul hDp).2 t2
    omega
end Go.Proofs.YtifeacfljfmnpaaGreat
end

section
set_option maxRecDepth 100000
namespace Go.Proofs.YtifeacfljfmnpaaGreat
theorem or_shift (P : Nat) : ((P / 18446744073709551616 * 281474976710656) ||| (P % 18446744073709551616 / 65536)) = P / 65536 := by
  have e : P / 18446744073709551616 * 281474976710656 = 2 ^ 48 * (P / 18446744073709551616) := by rw [Nat.mul_comm]
  have h2 : P % 18446744073709551616 / 65536 < 2 ^ 48 := by omega
  rw [e, ← Nat.two_pow_add_eq_or_of_lt h2]
  omega
end Go.Proofs.YtifeacfljfmnpaaGreat
end

section
set_option maxRecDepth 100000
namespace Go.Proofs.YtifeacfljfmnpaaGreat
open Go.RowKit
def eN (l : List Int) : Env := ⟨fun i => l.getD i 0, fun _ => false, fun _ => (false, []), fun _ => []⟩
def vN (k : IntKind) (i : Nat) : AV := .val false [.n k (.var i)]
theorem vN_holds {l : List Int} {β : Nat → Nat} {w : World} {k : IntKind} {i : Nat} {x : Int} (h : l.getD i 0 = x) : (vN k i).holds (eN l) β w (.int k x) := by
  refine one_num.2 ?_
  show _ = Value.int k (l.getD i 0)
  rw [h]
def gU (t : IT) : Asm := [(.le (.lit 0) t, true), (.le t (.lit 18446744073709551615), true)]
theorem gU_ok {E : Env} {t : IT} (h : 0 ≤ t.den E ∧ t.den E ≤ 18446744073709551615) : Asm.holds E (gU t) := asm_c (decide_eq_true h.1) (asm_c (decide_eq_true h.2) no_asm)
noncomputable def cM : Cfg := cfgOf [(231, kMul64)]
def csqT : Tree :=
  .ite (.eq (.a2 19 (.var 0) (.var 0)) (.var 1))
    (.ite (.eq (.a1 21 (.a2 2 (.var 0) (.var 0))) (.var 2)) (.leaf [(false, [.n .i64 (.lit 0)])])
      (.ite (.lt (.a2 19 (.var 0) (.var 0)) (.var 1)) (.leaf [(false, [.n .i64 (.lit (-1))])])
        (.ite (.lt (.a1 21 (.a2 2 (.var 0) (.var 0))) (.var 2)) (.leaf [(false, [.n .i64 (.lit (-1))])]) (.leaf [(false, [.n .i64 (.lit 1)])]))))
    (.ite (.lt (.a2 19 (.var 0) (.var 0)) (.var 1)) (.leaf [(false, [.n .i64 (.lit (-1))])]) (.leaf [(false, [.n .i64 (.lit 1)])]))
theorem csqT_pick {E : Env} {r N : Nat} (h0 : E.i 0 = (r : Int)) (h1 : E.i 1 = ((N / 18446744073709551616 : Nat) : Int)) (h2 : E.i 2 = ((N % 18446744073709551616 : Nat) : Int)) :
    ∃ z : Int, csqT.pick E = [(false, [.n .i64 (.lit z)])] ∧ z = cmpZ ((r : Int) * r) N := by
  have a : (IT.a2 19 (.var 0) (.var 0)).den E = (((r * r) / 18446744073709551616 : Nat) : Int) := by
    show E.i 0 * E.i 0 / 18446744073709551616 = _
    rw [h0]; omega
  have b : (IT.a1 21 (.a2 2 (.var 0) (.var 0))).den E = (((r * r) % 18446744073709551616 : Nat) : Int) := by
    show IntKind.u64.wrap (E.i 0 * E.i 0) = _
    rw [h0, IntKind.wrap_u64]; omega
  have e1 : ((r : Int) * r) = ((r * r : Nat) : Int) := by omega
  rw [e1]
  generalize r * r = q at *
  have c1 : (BT.eq (.a2 19 (.var 0) (.var 0)) (.var 1)).den E = decide (q / 18446744073709551616 = N / 18446744073709551616) := by
    show (_ == E.i 1) = _
    rw [a, h1, Bool.eq_iff_iff, beq_iff_eq, decide_eq_true_iff]; omega
  have c2 : (BT.eq (.a1 21 (.a2 2 (.var 0) (.var 0))) (.var 2)).den E = decide (q % 18446744073709551616 = N % 18446744073709551616) := by
    show (_ == E.i 2) = _
    rw [b, h2, Bool.eq_iff_iff, beq_iff_eq, decide_eq_true_iff]; omega
  have c3 : (BT.lt (.a2 19 (.var 0) (.var 0)) (.var 1)).den E = decide (q / 18446744073709551616 < N / 18446744073709551616) := by
    show decide (_ < E.i 1) = _
    rw [a, h1, decide_eq_decide]; omega
  have c4 : (BT.lt (.a1 21 (.a2 2 (.var 0) (.var 0))) (.var 2)).den E = decide (q % 18446744073709551616 < N % 18446744073709551616) := by
    show decide (_ < E.i 2) = _
    rw [b, h2, decide_eq_decide]; omega
  have hcase : (q = N ∧ cmpZ (q : Int) N = 0) ∨ (q < N ∧ cmpZ (q : Int) N = -1) ∨ (N < q ∧ cmpZ (q : Int) N = 1) := by
    rcases Nat.lt_trichotomy q N with h | h | h
    · exact .inr (.inl ⟨h, cmpZ_lt (by omega)⟩)
    · exact .inl ⟨h, cmpZ_eq (by omega)⟩
    · exact .inr (.inr ⟨h, cmpZ_gt (by omega)⟩)
  simp only [csqT, Tree.pick, c1, c2, c3, c4, decide_eq_true_eq]
  split
  · split
    · exact ⟨_, rfl, by omega⟩
    · split
      · exact ⟨_, rfl, by omega⟩
      · split
        · exact ⟨_, rfl, by omega⟩
        · exact ⟨_, rfl, by omega⟩
  · split
    · exact ⟨_, rfl, by omega⟩
    · exact ⟨_, rfl, by omega⟩
theorem csq_any (w : World) (r N : Nat) (hr : r < 18446744073709551616) (v : Value) (hv : v = .int .u64 (r : Int)) (v1 : Value) (hv1 : v1 = .int .u64 ((N / 18446744073709551616 : Nat) : Int)) (v2 : Value) (hv2 : v2 = .int .u64 ((N % 18446744073709551616 : Nat) : Int)) :
    Calls Tryz.prog 255 #[v, v1, v2] w fun e w' => e = .returned (.int .i64 (cmpZ ((r : Int) * r) N)) ∧ Ext w w' := by
  subst hv hv1 hv2
  refine (fun_sound (C := cM) (E := eN [(r : Int), ((N / 18446744073709551616 : Nat) : Int), ((N % 18446744073709551616 : Nat) : Int)]) (G := gU (.var 0)) (args := [vN .u64 0, vN .u64 1, vN .u64 2]) (T := csqT)
    mixed (cfg_ok (.cons kMul64_ok .nil)) (gU_ok ?_) Tryz.func255 (by decide +kernel) (by kernel_rfl) (by decide +kernel) rfl w [.int .u64 (r : Int), .int .u64 _, .int .u64 _] rfl ?_).mono ?_
  · show 0 ≤ (r : Int) ∧ (r : Int) ≤ 18446744073709551615
    omega
  · intro i x hx
    match i, hx with
    | 0, hx => injection hx with hx; subst hx; exact ⟨fun _ => 0, _, rfl, vN_holds rfl⟩
    | 1, hx => injection hx with hx; subst hx; exact ⟨fun _ => 0, _, rfl, vN_holds rfl⟩
    | 2, hx => injection hx with hx; subst hx; exact ⟨fun _ => 0, _, rfl, vN_holds rfl⟩
  · rintro e w' ⟨β, u, rfl, hh, ex⟩
    obtain ⟨z, hz, hz2⟩ := csqT_pick (E := eN [(r : Int), ((N / 18446744073709551616 : Nat) : Int), ((N % 18446744073709551616 : Nat) : Int)]) (r := r) (N := N) rfl rfl rfl
    rw [hz] at hh
    have h1 : u = .int .i64 z := one_num.1 hh
    rw [h1, hz2]
    exact ⟨rfl, ex⟩
theorem float_root (n : Nat) (hn : n < 4611686018427387904) : ∃ x r t : Nat, FloatKind.f64.format.mul (floatOfInt .f64 (n : Int)) 4679240012837945344 = some x ∧ FloatKind.f64.format.sqrt x = some r ∧ floatToIntVal .f64 r .u64 = some (t : Int) ∧ (t = isqN (n * 65536) ∨ t = isqN (n * 65536) + 1) ∧ t < 4294967296 * 4294967296 := by
  by_cases h0 : n = 0
  · subst h0
    refine ⟨0, 0, 0, by decide +kernel, by decide +kernel, by decide +kernel, .inl (by decide), by decide⟩
  · obtain ⟨h1, h2⟩ := isqN_spec (n * 65536)
    obtain ⟨x, r, t, e1, e2, e3, e4⟩ := float_sqrt h0 hn h1 h2
    have hb : t < 18446744073709551616 := by
      have : isqN (n * 65536) ≤ n * 65536 := by
        refine Nat.le_trans ?_ h1
        exact Nat.le_mul_self _
      have : isqN (n * 65536) < 4611686018427387904 := by
        refine Decidable.byContradiction fun h => ?_
        have := Nat.mul_le_mul (show 4611686018427387904 ≤ isqN (n * 65536) by omega) (show 4611686018427387904 ≤ isqN (n * 65536) by omega)
        omega
      omega
    refine ⟨x, r, t, ?_, e2, ?_, e4, hb⟩
    · have : floatOfInt .f64 (n : Int) = Ieee.double.nearest false n 0 := by
        show Ieee.double.nearest (decide ((n : Int) < 0)) ((n : Int).natAbs) 0 = _
        rw [show decide ((n : Int) < 0) = false from decide_eq_false (by omega), Int.natAbs_natCast]
      rw [this]
      exact e1
    · unfold floatToIntVal
      have : (FloatKind.decode .f64 r).toInt .zero = some (t : Int) := e3
      rw [this]
      have m1 : IntKind.u64.min = 0 := rfl
      have m2 : IntKind.u64.max = 18446744073709551615 := rfl
      simp only [m1, m2]
      rw [if_pos (by omega)]
end Go.Proofs.YtifeacfljfmnpaaGreat
end

section
set_option maxRecDepth 100000
namespace Go.Proofs.YtifeacfljfmnpaaGreat
open Go.RowKit
def RetFs (n : Nat) (w : World) (e : Ending) (w' : World) : Prop :=
  e = .returned (.tuple #[.int .u64 (isqN (n * 65536) : Int), .bool (isqN (n * 65536) * isqN (n * 65536) == n * 65536)]) ∧ Ext w w'
set_option maxRecDepth 100000 in
theorem fsqrt_any (w : World) (n : Nat) (hn : n < 4611686018427387904) : Calls Tryz.prog 236 #[.int .i64 (n : Int)] w (RetFs n w) := by
  obtain ⟨x, r, t, e1, e2, e3, e4, hb⟩ := float_root n hn
  obtain ⟨s, hs⟩ : ∃ s, s = isqN (n * 65536) := ⟨_, rfl⟩
  obtain ⟨s1, s2⟩ : IsSq (n * 65536) s := by rw [hs]; exact isqN_spec _
  rw [← hs] at e4
  unfold RetFs
  rw [← hs]
  obtain ⟨N, hN⟩ : ∃ N, N = n * 65536 := ⟨_, rfl⟩
  rw [← hN] at s1 s2 ⊢
  have hfm := Lib.hid e1
  have hsq := Lib.hid e2
  have hti := Lib.hid e3
  clear e1 e2 e3
  have hNn := Lib.hid hN
  have hnn := Lib.hid hn
  have S1 := Lib.hid s1
  have S2 := Lib.hid s2
  have E4 := Lib.hid e4
  have HB := Lib.hid hb
  clear hN hn s1 s2 e4 hb hs
  obtain ⟨m, hm⟩ : ∃ m : Int, m = (n : Int) := ⟨_, rfl⟩
  rw [← hm]
  have HM := Lib.hid hm
  clear hm
  go_enter Tryz.func236, Tryz.ntmps236
  go_wp2_with fail
  have hw : IntKind.u64.wrap m = (n : Int) := by
    have := HM.out
    have := hnn.out
    rw [IntKind.wrap_u64]; omega
  rw [hw]
  refine (mul64_calls w n 65536 (by have := hnn.out; omega) (by omega)).mono ?_
  rintro e w' ⟨rfl, rfl⟩
  rw [← hNn.out]
  go_wp2_with fail
  have hm := run_float_arith (P := Tryz.prog) w' .mul 212 .f64 (floatOfInt .f64 m) 4679240012837945344 x (by rw [HM.out]; exact hfm.out)
  rw [hm]
  simp only [Result.andThen_ok, Oper.upon_value]
  clear hm
  go_wp2_with fail
  refine (mathSqrt_calls w' x r hsq.out).mono ?_
  rintro e w2 ⟨rfl, ex⟩
  go_wp2_with fail
  rw [run_convert_float_int (P := Tryz.prog) (w := w2) 212 115 .f64 .u64 r (t : Int) (by kernel_rfl) Tryz.underlying115 hti.out]
  simp only [Result.andThen_ok, Oper.upon_value]
  go_wp2_with fail
  refine (csq_any w2 t N (by have := HB.out; omega) _ rfl _ rfl _ rfl).mono ?_
  rintro e w3 ⟨rfl, ex3⟩
  have hcase : (cmpZ ((t : Int) * t) N = 0 ∧ t = s ∧ s * s = N) ∨ (cmpZ ((t : Int) * t) N = -1 ∧ t = s ∧ s * s < N) ∨ (cmpZ ((t : Int) * t) N = 1 ∧ t = s + 1) := by
    have k1 := S1.out
    have k2 := S2.out
    rcases E4.out with rfl | rfl
    · have e : ((t : Int) * t) = ((t * t : Nat) : Int) := by omega
      rcases Nat.lt_or_eq_of_le k1 with h | h
      · exact .inr (.inl ⟨cmpZ_lt (by rw [e]; omega), rfl, h⟩)
      · exact .inl ⟨cmpZ_eq (by rw [e]; omega), rfl, h⟩
    · have e : (((s + 1 : Nat) : Int) * ((s + 1 : Nat) : Int)) = (((s + 1) * (s + 1) : Nat) : Int) := by omega
      exact .inr (.inr ⟨cmpZ_gt (by rw [e]; omega), rfl⟩)
  have hb := HB.out
  rcases hcase with ⟨hc, ht, hx⟩ | ⟨hc, ht, hx⟩ | ⟨hc, ht⟩
  · rw [hc]
    clear hw
    subst ht
    go_wp2_with fail
    refine (csq_any w3 t N (by omega) _ rfl _ rfl _ rfl).mono ?_
    rintro e w4 ⟨rfl, ex4⟩
    rw [hc]
    go_wp2_with fail
    go_ret2
    refine ⟨?_, ex.trans (ex3.trans ex4)⟩
    rw [show (t * t == N) = true from beq_iff_eq.2 hx]
    rfl
  · rw [hc]
    clear hw
    subst ht
    go_wp2_with fail
    refine (csq_any w3 t N (by omega) _ rfl _ rfl _ rfl).mono ?_
    rintro e w4 ⟨rfl, ex4⟩
    rw [hc]
    go_wp2_with fail
    go_ret2
    refine ⟨?_, ex.trans (ex3.trans ex4)⟩
    rw [show (t * t == N) = false from beq_eq_false_iff_ne.2 (by omega)]
    rfl
  · rw [hc]
    clear hw
    have hw2 : IntKind.u64.wrap ((t : Int) - 1) = (s : Int) := by
      rw [IntKind.wrap_u64]; omega
    have HT := Lib.hid ht
    clear ht
    go_wp2_with fail
    refine (csq_any w3 s N (by have := HT.out; omega) _ rfl _ rfl _ rfl).mono ?_
    rintro e w4 ⟨rfl, ex4⟩
    have hd : (cmpZ ((s : Int) * s) N = 0 ∧ (s * s == N) = true) ∨ (cmpZ ((s : Int) * s) N = -1 ∧ (s * s == N) = false) := by
      have e : ((s : Int) * s) = ((s * s : Nat) : Int) := by omega
      rcases Nat.lt_or_eq_of_le S1.out with h | h
      · exact .inr ⟨cmpZ_lt (by rw [e]; omega), beq_eq_false_iff_ne.2 (by omega)⟩
      · exact .inl ⟨cmpZ_eq (by rw [e]; omega), beq_iff_eq.2 h⟩
    rcases hd with ⟨h1, h2⟩ | ⟨h1, h2⟩
    · rw [h1]
      go_wp2_with fail
      go_ret2
      refine ⟨?_, ex.trans (ex3.trans ex4)⟩
      rw [h2]
      rfl
    · rw [h1]
      go_wp2_with fail
      go_ret2
      refine ⟨?_, ex.trans (ex3.trans ex4)⟩
      rw [h2]
      rfl
end Go.Proofs.YtifeacfljfmnpaaGreat
end

section
set_option maxRecDepth 100000
namespace Go.Proofs.YtifeacfljfmnpaaGreat
open Go.RowKit
def sqfT (t : IT) : IT := .a1 2 (.a2 2 t (.lit 65536))
def natT (G : Asm) (t : IT) : Bool :=
  match t.cl with
  | some z => decide (0 ≤ z) && decide (z ≤ 2305843009213693952)
  | none => G.find (.le (.lit 0) t) == some true && G.find (.le t (.lit 2305843009213693952)) == some true
theorem natT_spec {E : Env} {G : Asm} (hG : G.holds E) {t : IT} (h : natT G t = true) : 0 ≤ t.den E ∧ t.den E ≤ 2305843009213693952 := by
  unfold natT at h
  split at h
  · rename_i z hz
    rw [Bool.and_eq_true, decide_eq_true_iff, decide_eq_true_iff] at h
    rw [IT.cl_spec hz]
    exact h
  · rw [Bool.and_eq_true, beq_iff_eq, beq_iff_eq] at h
    have f1 := of_decide_eq_true (Asm.find_spec hG h.1)
    have f2 := of_decide_eq_true (Asm.find_spec hG h.2)
    simp only [IT.den] at f1 f2
    omega
def kFs : Con
  | [.val false [.n .i64 t]], G => if natT G t then some (.tup [(false, [.n .u64 (sqfT t)]), (false, [.b (.eq (.a2 2 (sqfT t) (sqfT t)) (.a2 2 t (.lit 65536)))])]) else none
  | _, _ => none
theorem kFs_ok {E : Env} : ConOK Tryz.prog E 236 kFs := by
  refine ⟨?_, ?_, ⟨_, Tryz.func236, by decide +kernel, by kernel_rfl⟩⟩
  · intro args G r h hG β w vs hv hlen
    unfold kFs at h
    split at h
    · rename_i t
      split at h
      · rename_i hc
        obtain ⟨a1, a2⟩ := natT_spec hG hc
        injection h with h
        subst h
        obtain ⟨v, rfl, h1⟩ := args1 hv hlen
        have h1' := one_num.1 h1
        obtain ⟨n, hn⟩ : ∃ n : Nat, t.den E = (n : Int) := ⟨(t.den E).toNat, by omega⟩
        rw [hn] at h1'
        subst h1'
        have e1 : (sqfT t).den E = (isqN (n * 65536) : Int) := by
          show isq (t.den E * 65536) = _
          rw [hn]
          unfold isq
          rw [if_neg (by omega)]
          congr 2
        refine (fsqrt_any w n (by omega)).mono ?_
        rintro e w' ⟨rfl, ex⟩
        refine ⟨_, rfl, ⟨[_, _], rfl, _, _, rfl, one_num.2 ?_, _, _, rfl, one_bool.2 ?_, rfl⟩, ex⟩
        · rw [e1]
        · congr 1
          show _ = (((sqfT t).den E * (sqfT t).den E) == (t.den E * 65536))
          rw [e1, hn, Bool.eq_iff_iff, beq_iff_eq, beq_iff_eq]
          constructor
          · intro h; rw [← Int.natCast_mul, h]; omega
          · intro h
            have : ((isqN (n * 65536) * isqN (n * 65536) : Nat) : Int) = ((n * 65536 : Nat) : Int) := by rw [Int.natCast_mul, h]; omega
            exact Int.ofNat.inj this
      · cases h
    · cases h
  · intro args G r h x off
    unfold kFs at h
    split at h
    · split at h
      · injection h with h; subst h; intro e; cases e
      · cases h
    · cases h
def ivV (o : Option (Int × Int)) : Value := match o with
  | some (x, y) => .tuple #[.agg #[.int .i64 x, .int .i64 y], .bool true]
  | none => .tuple #[.agg #[.int .i64 0, .int .i64 0], .bool false]
def prpB (x y : Int) : Bool := decide (x ≤ y) && (decide (-2305843009213693952 ≤ x) && decide (y ≤ 2305843009213693952))
def prI (x y : Int) : Option (Int × Int) := if prpB x y then some (x, y) else none
def exT (x y : IT) : BT := .and (.le x y) (.and (.le lM x) (.le y lP))
theorem exT_den {E : Env} (x y : IT) : (exT x y).den E = prpB (x.den E) (y.den E) := rfl
def tIv (x y : IT) : AV := .tup [(true, [.n .i64 x, .n .i64 y]), (false, [.b (.lit true)])]
def tNo : AV := .tup [(true, [.n .i64 (.lit 0), .n .i64 (.lit 0)]), (false, [.b (.lit false)])]
theorem tIv_holds {E : Env} {β : Nat → Nat} {w : World} {x y : IT} {a b : Int} (hx : x.den E = a) (hy : y.den E = b) : (tIv x y).holds E β w (ivV (some (a, b))) := by
  subst hx hy
  exact ⟨[_, _], rfl, _, _, rfl, ⟨[_, _], rfl, [_], _, rfl, rfl, [_], [], rfl, rfl, rfl⟩, _, _, rfl, one_bool.2 rfl, rfl⟩
theorem tNo_holds {E : Env} {β : Nat → Nat} {w : World} : tNo.holds E β w (ivV none) :=
  ⟨[_, _], rfl, _, _, rfl, ⟨[_, _], rfl, [_], _, rfl, rfl, [_], [], rfl, rfl, rfl⟩, _, _, rfl, one_bool.2 rfl, rfl⟩
def kEx (lo hi : IT) (G : Asm) : Option AV := match (exT lo hi).ev G with
  | some true => some (tIv lo hi)
  | some false => some tNo
  | none => none
theorem kEx_holds {E : Env} {G : Asm} {lo hi : IT} {r : AV} (hG : G.holds E) (h : kEx lo hi G = some r) {β : Nat → Nat} {w : World} : r.holds E β w (ivV (prI (lo.den E) (hi.den E))) := by
  unfold kEx at h
  split at h
  · rename_i he
    injection h with h
    subst h
    have := BT.ev_spec hG he
    rw [exT_den] at this
    unfold prI
    rw [if_pos this]
    exact tIv_holds rfl rfl
  · rename_i he
    injection h with h
    subst h
    have := BT.ev_spec hG he
    rw [exT_den] at this
    unfold prI
    rw [if_neg (by rw [this]; decide)]
    exact tNo_holds
  · cases h
theorem kEx_nptr {lo hi : IT} {G : Asm} {r : AV} (h : kEx lo hi G = some r) : ∀ x off, r ≠ .ptr x off := by
  intro x off
  unfold kEx at h
  split at h
  · injection h with h; subst h; intro e; cases e
  · injection h with h; subst h; intro e; cases e
  · cases h
theorem fun_leaf {C : Cfg} {E : Env} (hC : CfgOK Tryz.prog E C) {G : Asm} (hG : G.holds E) {f : FuncId} {fn : Func} (hf : Tryz.prog.funcs[f]? = some fn) (h4 : fn.results.toList.length ≤ 4) {args : List AV} {l : List (Bool × List Chunk)} (hT : funE C fn G args = some (.leaf l)) (hn : args.length ≤ fn.ntmps) (hp : args.all noPtr = true) (hw : ∀ w, C.wok w) (w : World) (vs : List Value) (hl : vs.length = args.length)
    (hv : ∀ (i : Nat) (x : AV), args[i]? = some x → ∃ v, vs[i]? = some v ∧ ∀ β, x.holds E β w v) : Calls Tryz.prog f vs.toArray w (fun e w' => ∃ β v, e = .returned v ∧ (toAV l).holds E β w' v ∧ Ext w w') := by
  refine (fun_sound mixed hC hG hf h4 hT hn hp w vs hl (fun i x hx => ?_) (fun w' _ => hw w')).mono ?_
  · obtain ⟨v, h1, h2⟩ := hv i x hx
    exact ⟨fun _ => 0, v, h1, h2 _⟩
  · rintro e w' ⟨β, v, h1, h2, h3⟩
    exact ⟨β, v, h1, h2, h3⟩
end Go.Proofs.YtifeacfljfmnpaaGreat
end

section
set_option maxRecDepth 100000
namespace Go.Proofs.YtifeacfljfmnpaaGreat
open Go.RowKit
def RetIv (o : Option (Int × Int)) (w : World) (e : Ending) (w' : World) : Prop := e = .returned (ivV o) ∧ Ext w w'
def ivL (x y : IT) : List (Bool × List Chunk) := [(true, [.n .i64 x, .n .i64 y]), (false, [.b (.lit true)])]
def noL : List (Bool × List Chunk) := [(true, [.n .i64 (.lit 0), .n .i64 (.lit 0)]), (false, [.b (.lit false)])]
theorem agg_out {E : Env} {w : World} {x y : IT} {v : Value} (h : one E w (true, [.n .i64 x, .n .i64 y]) v) : v = .agg #[.int .i64 (x.den E), .int .i64 (y.den E)] := by
  obtain ⟨vs, rfl, l, r, rfl, h1, l', r', rfl, h2, h3⟩ := h
  simp only [Chunk.holds] at h1 h2
  simp only [chunks] at h3
  subst h1 h2 h3
  rfl
theorem ivL_out {E : Env} {β : Nat → Nat} {w : World} {x y : IT} {v : Value} (h : (toAV (ivL x y)).holds E β w v) : v = ivV (some (x.den E, y.den E)) := by
  obtain ⟨vs, rfl, v1, r, rfl, h1, v2, r', rfl, h2, h3⟩ := h
  simp only [tupAll] at h3
  subst h3
  rw [agg_out h1, one_bool.1 h2]
  rfl
theorem noL_out {E : Env} {β : Nat → Nat} {w : World} {v : Value} (h : (toAV noL).holds E β w v) : v = ivV none := by
  obtain ⟨vs, rfl, v1, r, rfl, h1, v2, r', rfl, h2, h3⟩ := h
  simp only [tupAll] at h3
  subst h3
  rw [agg_out h1, one_bool.1 h2]
  rfl
theorem iv_calls {C : Cfg} {E : Env} (hC : CfgOK Tryz.prog E C) {G : Asm} (hG : G.holds E) {f : FuncId} {fn : Func} (hf : Tryz.prog.funcs[f]? = some fn) (h4 : fn.results.toList.length ≤ 4) {args : List AV} {x y : IT} {a b : Int} (hT : funE C fn G args = some (.leaf (ivL x y))) (hx : x.den E = a) (hy : y.den E = b) (hn : args.length ≤ fn.ntmps) (hp : args.all noPtr = true) (hw : ∀ w, C.wok w) (w : World) (vs : List Value) (hl : vs.length = args.length)
    (hv : ∀ (i : Nat) (x : AV), args[i]? = some x → ∃ v, vs[i]? = some v ∧ ∀ β, x.holds E β w v) : Calls Tryz.prog f vs.toArray w (RetIv (some (a, b)) w) := by
  refine (fun_leaf hC hG hf h4 hT hn hp hw w vs hl hv).mono ?_
  rintro e w' ⟨β, v, rfl, hh, ex⟩
  rw [ivL_out hh, hx, hy]
  exact ⟨rfl, ex⟩
theorem no_calls {C : Cfg} {E : Env} (hC : CfgOK Tryz.prog E C) {G : Asm} (hG : G.holds E) {f : FuncId} {fn : Func} (hf : Tryz.prog.funcs[f]? = some fn) (h4 : fn.results.toList.length ≤ 4) {args : List AV} (hT : funE C fn G args = some (.leaf noL)) (hn : args.length ≤ fn.ntmps) (hp : args.all noPtr = true) (hw : ∀ w, C.wok w) (w : World) (vs : List Value) (hl : vs.length = args.length)
    (hv : ∀ (i : Nat) (x : AV), args[i]? = some x → ∃ v, vs[i]? = some v ∧ ∀ β, x.holds E β w v) : Calls Tryz.prog f vs.toArray w (RetIv none w) := by
  refine (fun_leaf hC hG hf h4 hT hn hp hw w vs hl hv).mono ?_
  rintro e w' ⟨β, v, rfl, hh, ex⟩
  rw [noL_out hh]
  exact ⟨rfl, ex⟩
theorem lt_t {E : Env} {x y : IT} {G : Asm} (h : x.den E < y.den E) (k : G.holds E) : Asm.holds E ((.lt x y, true) :: G) := asm_c (decide_eq_true h) k
theorem lt_f {E : Env} {x y : IT} {G : Asm} (h : ¬ x.den E < y.den E) (k : G.holds E) : Asm.holds E ((.lt x y, false) :: G) := asm_c (decide_eq_false h) k
theorem le_t {E : Env} {x y : IT} {G : Asm} (h : x.den E ≤ y.den E) (k : G.holds E) : Asm.holds E ((.le x y, true) :: G) := asm_c (decide_eq_true h) k
theorem le_f {E : Env} {x y : IT} {G : Asm} (h : ¬ x.den E ≤ y.den E) (k : G.holds E) : Asm.holds E ((.le x y, false) :: G) := asm_c (decide_eq_false h) k
theorem eq_t {E : Env} {x y : IT} {G : Asm} (h : x.den E = y.den E) (k : G.holds E) : Asm.holds E ((.eq x y, true) :: G) := asm_c (by show (_ == _) = true; rw [h, beq_self_eq_true]) k
theorem eq_f {E : Env} {x y : IT} {G : Asm} (h : ¬ x.den E = y.den E) (k : G.holds E) : Asm.holds E ((.eq x y, false) :: G) := asm_c (by show (_ == _) = false; exact beq_eq_false_iff_ne.2 h) k
def sqLo (x : Int) : Int := isq ((if x > 0 then x else 0) * 65536)
def sqHi (y : Int) : Int := isq (y * 65536) + cmpZ (y * 65536) (isq (y * 65536) * isq (y * 65536))
def sqrI (x y : Int) : Option (Int × Int) := if y < 0 then none else some (sqLo x, sqHi y)
theorem isq_bd {z : Int} (h : 0 ≤ z) : 0 ≤ isq z ∧ isq z * isq z ≤ z ∧ z < (isq z + 1) * (isq z + 1) := by
  obtain ⟨n, rfl⟩ := Int.eq_ofNat_of_zero_le h
  obtain ⟨h1, h2⟩ := isqN_spec n
  have e : isq (n : Int) = (isqN n : Int) := by
    unfold isq
    rw [if_neg (by omega), Int.natAbs_natCast]
  rw [e]
  refine ⟨by omega, by exact_mod_cast h1, by exact_mod_cast h2⟩
theorem isq_mono {a b : Int} (ha : 0 ≤ a) (h : a ≤ b) : isq a ≤ isq b := by
  obtain ⟨a1, a2, a3⟩ := isq_bd ha
  obtain ⟨b1, b2, b3⟩ := isq_bd (show 0 ≤ b by omega)
  refine Decidable.byContradiction fun q => ?_
  have h1 : 0 ≤ (isq a - (isq b + 1)) * (isq b + 1) := Int.mul_nonneg (by omega) (by omega)
  have h2 : 0 ≤ isq a * (isq a - (isq b + 1)) := Int.mul_nonneg a1 (by omega)
  grind
theorem isq_bound {a : Int} (h0 : 0 ≤ a) (h : a ≤ 151115727451828646838272) : isq a ≤ 388736063996 := by
  obtain ⟨a1, a2, a3⟩ := isq_bd h0
  refine Decidable.byContradiction fun q => ?_
  have h1 : 0 ≤ (isq a - 388736063997) * (isq a - 388736063997) := Int.mul_nonneg (by omega) (by omega)
  grind
theorem cmp_root {n : Int} (h : 0 ≤ n) : (cmpZ n (isq n * isq n) = 0 ∧ isq n * isq n = n) ∨ (cmpZ n (isq n * isq n) = 1 ∧ isq n * isq n < n) := by
  obtain ⟨a1, a2, a3⟩ := isq_bd h
  rcases Int.lt_or_le (isq n * isq n) n with q | q
  · exact .inr ⟨cmpZ_gt q, q⟩
  · exact .inl ⟨cmpZ_eq (by omega), by omega⟩
theorem sqLo_spec (x : Int) : 0 ≤ sqLo x ∧ sqLo x * sqLo x ≤ max 0 x * 65536 := by
  unfold sqLo
  have e : (if x > 0 then x else 0) = max 0 x := by split <;> omega
  rw [e]
  obtain ⟨a1, a2, a3⟩ := isq_bd (show 0 ≤ max 0 x * 65536 by omega)
  exact ⟨a1, a2⟩
theorem sqHi_spec {y : Int} (h : 0 ≤ y) : 0 ≤ sqHi y ∧ y * 65536 ≤ sqHi y * sqHi y := by
  unfold sqHi
  obtain ⟨a1, a2, a3⟩ := isq_bd (show 0 ≤ y * 65536 by omega)
  rcases cmp_root (show 0 ≤ y * 65536 by omega) with ⟨c, q⟩ | ⟨c, q⟩ <;> rw [c]
  · exact ⟨by omega, by rw [Int.add_zero]; omega⟩
  · exact ⟨by omega, by omega⟩
theorem sq_order {x y : Int} (hp : Prp x y) (hy : 0 ≤ y) : 0 ≤ sqLo x ∧ sqLo x ≤ sqHi y ∧ sqLo x ≤ isq (y * 65536) ∧ isq (y * 65536) ≤ sqHi y ∧ sqHi y ≤ 388736063997 ∧ isq (y * 65536) ≤ 388736063996 ∧ 0 ≤ isq (y * 65536) := by
  obtain ⟨h1, h2, h3⟩ := hp
  have m : sqLo x ≤ isq (y * 65536) := by
    unfold sqLo
    refine isq_mono (by split <;> omega) (by split <;> omega)
  have b := isq_bound (show 0 ≤ y * 65536 by omega) (by omega)
  have a := (isq_bd (show 0 ≤ y * 65536 by omega)).1
  unfold sqHi
  rcases cmp_root (show 0 ≤ y * 65536 by omega) with ⟨c, q⟩ | ⟨c, q⟩ <;> rw [c]
  · exact ⟨(sqLo_spec x).1, by omega, by omega, by omega, by omega, by omega, by omega⟩
  · exact ⟨(sqLo_spec x).1, by omega, by omega, by omega, by omega, by omega, by omega⟩
noncomputable def cSq : Cfg := cfgI (cfgOf [(236, kFs)]) (cfgOf []) [(234, Tryz.f234)]
theorem cSq_ok {E : Env} : CfgOK Tryz.prog E cSq := cfgI_ok mixed (cfg_ok (.cons kFs_ok .nil)) (cfg_ok .nil) (fun _ => trivial) (.cons Tryz.func234 (by decide +kernel) (by kernel_rfl) .nil)
def mxT : IT := .a2 13 (.lit 0) (.var 0)
def loS : IT := .a1 20 (sqfT mxT)
def hiS : Bool → IT
  | true => .a1 20 (sqfT (.var 2))
  | false => .a1 20 (.a1 21 (.a2 0 (sqfT (.var 2)) (.lit 1)))
def gSq (b : Bool) : Asm := [(.le (.lit 0) mxT, true), (.le mxT lP, true), (.le (.lit 0) (.var 2), true), (.le (.var 2) lP, true), (.lt (.var 2) (.lit 0), false), (.eq (.a2 2 (sqfT (.var 2)) (sqfT (.var 2))) (.a2 2 (.var 2) (.lit 65536)), b), (.lt (hiS b) loS, false), (.lt loS lM, false), (.lt lP (hiS b), false)]
theorem sq_walk : ∀ b : Bool, funE cSq Tryz.f192 (gSq b) [aIv 0] = some (.leaf (ivL loS (hiS b))) := by
  intro b
  cases b <;> kernel_rfl
theorem sq_walk_no : funE cSq Tryz.f192 [(.lt (.var 2) (.lit 0), true)] [aIv 0] = some (.leaf noL) := by kernel_rfl
theorem one_arg {E : Env} {w : World} {args : List AV} {vs : List Value} {x : AV} {v : Value} (ha : args = [x]) (hv : vs = [v]) (h : ∀ β, x.holds E β w v) : ∀ (i : Nat) (y : AV), args[i]? = some y → ∃ u, vs[i]? = some u ∧ ∀ β, y.holds E β w u := by
  subst ha hv
  intro i y hy
  match i, hy with
  | 0, hy => injection hy with hy; subst hy; exact ⟨v, rfl, h⟩
theorem two_args {E : Env} {w : World} {args : List AV} {vs : List Value} {x x' : AV} {v v' : Value} (ha : args = [x, x']) (hv : vs = [v, v']) (h : ∀ β, x.holds E β w v) (h' : ∀ β, x'.holds E β w v') : ∀ (i : Nat) (y : AV), args[i]? = some y → ∃ u, vs[i]? = some u ∧ ∀ β, y.holds E β w u := by
  subst ha hv
  intro i y hy
  match i, hy with
  | 0, hy => injection hy with hy; subst hy; exact ⟨v, rfl, h⟩
  | 1, hy => injection hy with hy; subst hy; exact ⟨v', rfl, h'⟩
theorem pSqrt_calls (w : World) (x y : Int) (hp : Prp x y) : Calls Tryz.prog 192 #[.agg #[.int .i64 x, .int .i64 y]] w (RetIv (sqrI x y) w) := by
  obtain ⟨E, hE⟩ : ∃ E, E = qE [(x : Rat), (y : Rat)] := ⟨_, rfl⟩
  have e0 : E.i 0 = x := by rw [hE]; exact qE_int (i := 0) rfl
  have e2 : E.i 2 = y := by rw [hE]; exact qE_int (i := 1) rfl
  have ha := one_arg (E := E) (w := w) (args := [aIv 0]) (vs := [.agg #[.int .i64 x, .int .i64 y]]) rfl rfl (fun β => by rw [hE]; exact aIv_holds (i := 0) rfl rfl)
  unfold sqrI
  split
  · rename_i hn
    exact no_calls (E := E) cSq_ok (lt_t (by show E.i 2 < 0; rw [e2]; exact hn) no_asm) Tryz.func192 (by decide +kernel) sq_walk_no (by decide +kernel) rfl (fun _ => trivial) w _ rfl ha
  · rename_i hn
    obtain ⟨o1, o2, o3, o4, o5, o6, o7⟩ := sq_order hp (by omega)
    obtain ⟨p1, p2, p3⟩ := hp
    have dm : mxT.den E = if x > 0 then x else 0 := by show (if E.i 0 > 0 then E.i 0 else 0) = _; rw [e0]
    have dl : loS.den E = sqLo x := by
      show IntKind.i64.wrap (isq (mxT.den E * 65536)) = _
      rw [dm]
      exact IntWalk.i64_in _ (by unfold sqLo at *; omega)
    have ds : (sqfT (.var 2)).den E = isq (y * 65536) := by show isq (E.i 2 * 65536) = _; rw [e2]
    obtain ⟨b, hb, hd⟩ : ∃ b : Bool, (BT.eq (.a2 2 (sqfT (.var 2)) (sqfT (.var 2))) (.a2 2 (.var 2) (.lit 65536))).den E = b ∧ (hiS b).den E = sqHi y := by
      refine ⟨_, rfl, ?_⟩
      have hb : (BT.eq (.a2 2 (sqfT (.var 2)) (sqfT (.var 2))) (.a2 2 (.var 2) (.lit 65536))).den E = decide (isq (y * 65536) * isq (y * 65536) = y * 65536) := by
        show ((sqfT (.var 2)).den E * (sqfT (.var 2)).den E == E.i 2 * 65536) = _
        rw [ds, e2, Bool.eq_iff_iff, beq_iff_eq, decide_eq_true_iff]
      rw [hb]
      rcases cmp_root (show 0 ≤ y * 65536 by omega) with ⟨c, q⟩ | ⟨c, q⟩
      · rw [decide_eq_true q]
        show IntKind.i64.wrap ((sqfT (.var 2)).den E) = _
        rw [ds, IntWalk.i64_in _ (by omega)]
        unfold sqHi
        rw [c, Int.add_zero]
      · rw [decide_eq_false (by omega)]
        show IntKind.i64.wrap (IntKind.u64.wrap ((sqfT (.var 2)).den E + 1)) = _
        have hu : IntKind.u64.wrap ((sqfT (.var 2)).den E + 1) = (sqfT (.var 2)).den E + 1 := by rw [IntKind.wrap_u64, ds]; omega
        rw [hu, ds, IntWalk.i64_in _ (by omega)]
        unfold sqHi
        rw [c]
    refine iv_calls (E := E) cSq_ok ?_ Tryz.func192 (by decide +kernel) (sq_walk b) dl hd (by decide +kernel) rfl (fun _ => trivial) w _ rfl ha
    refine le_t ?_ <| le_t ?_ <| le_t ?_ <| le_t ?_ <| lt_f ?_ <| asm_c hb <| lt_f ?_ <| lt_f ?_ <| lt_f ?_ no_asm
    · show 0 ≤ mxT.den E
      rw [dm]; split <;> omega
    · show mxT.den E ≤ 2305843009213693952
      rw [dm]; split <;> omega
    · show 0 ≤ E.i 2
      omega
    · show E.i 2 ≤ 2305843009213693952
      omega
    · show ¬ E.i 2 < 0
      omega
    · rw [hd, dl]; omega
    · show ¬ loS.den E < -2305843009213693952
      rw [dl]; omega
    · show ¬ 2305843009213693952 < (hiS b).den E
      rw [hd]; omega
end Go.Proofs.YtifeacfljfmnpaaGreat
end

section
set_option maxRecDepth 100000
namespace Go.Proofs.YtifeacfljfmnpaaGreat
open Go.RowKit
def cfgN (C : Cfg) (l : List (Nat × (List AV → Asm → Option BT))) : Cfg := { C with need := fun f args M G => match findR l f with | some k => k args G | none => C.need f args M G }
theorem cfgN_ok {E : Env} {C : Cfg} {l : List (Nat × (List AV → Asm → Option BT))} (h : CfgOK Tryz.prog E C) : CfgOK Tryz.prog E (cfgN C l) :=
  ⟨h.zero, h.ag, h.fld, h.flds, h.bool, h.row, h.arr, h.calls, h.nptr, h.body, h.slc, h.strT, h.cnv, h.apd, h.eq2⟩
def nI64 : List AV → Asm → Option BT
  | [.val true [.int x _]], _ => some (i64R x.fold)
  | _, _ => none
def Tree.noT : Tree := .leaf noL
def prT (x y : IT) : Tree := .ite (.lt y x) .noT (.ite (.lt x lM) .noT (.ite (.lt lP y) .noT (.leaf (ivL x y))))
theorem prpB_iff {x y : Int} : prpB x y = true ↔ Prp x y := by
  unfold prpB Prp
  simp only [Bool.and_eq_true, decide_eq_true_iff]
theorem prI_pos {x y : Int} (h : Prp x y) : prI x y = some (x, y) := if_pos (prpB_iff.2 h)
theorem prI_neg {x y : Int} (h : ¬ Prp x y) : prI x y = none := if_neg (fun k => h (prpB_iff.1 k))
theorem prT_pick {E : Env} (x y : IT) : (Prp (x.den E) (y.den E) ∧ (prT x y).pick E = ivL x y) ∨ (¬ Prp (x.den E) (y.den E) ∧ (prT x y).pick E = noL) := by
  unfold Prp
  simp only [prT, Tree.noT, Tree.pick, BT.den, decide_eq_true_eq]
  have d1 : lM.den E = -2305843009213693952 := rfl
  have d2 : lP.den E = 2305843009213693952 := rfl
  rw [d1, d2]
  split
  · exact .inr ⟨by omega, rfl⟩
  · split
    · exact .inr ⟨by omega, rfl⟩
    · split
      · exact .inr ⟨by omega, rfl⟩
      · exact .inl ⟨by omega, rfl⟩
theorem pick_calls {C : Cfg} {E : Env} (hC : CfgOK Tryz.prog E C) {G : Asm} (hG : G.holds E) {f : FuncId} {fn : Func} (hf : Tryz.prog.funcs[f]? = some fn) (h4 : fn.results.toList.length ≤ 4) {args : List AV} {T : Tree} (hT : funE C fn G args = some T) {x y : IT} {a b : Int} (hx : x.den E = a) (hy : y.den E = b) (hP : (Prp (x.den E) (y.den E) ∧ T.pick E = ivL x y) ∨ (¬ Prp (x.den E) (y.den E) ∧ T.pick E = noL)) (hn : args.length ≤ fn.ntmps) (hp : args.all noPtr = true) (hw : ∀ w, C.wok w) (w : World) (vs : List Value) (hl : vs.length = args.length)
    (hv : ∀ (i : Nat) (x : AV), args[i]? = some x → ∃ v, vs[i]? = some v ∧ ∀ β, x.holds E β w v) : Calls Tryz.prog f vs.toArray w (RetIv (prI a b) w) := by
  refine (fun_sound mixed hC hG hf h4 hT hn hp w vs hl (fun i x hx => ?_) (fun w' _ => hw w')).mono ?_
  · obtain ⟨v, h1, h2⟩ := hv i x hx
    exact ⟨fun _ => 0, v, h1, h2 _⟩
  · rintro e w' ⟨β, v, rfl, hh, ex⟩
    subst hx hy
    rcases hP with ⟨h1, h2⟩ | ⟨h1, h2⟩
    · rw [h2] at hh
      rw [ivL_out hh, prI_pos h1]
      exact ⟨rfl, ex⟩
    · rw [h2] at hh
      rw [noL_out hh, prI_neg h1]
      exact ⟨rfl, ex⟩
def lfX (x y : IT) (b : Bool) : Tree := .leaf (if b then ivL x y else noL)
theorem ex_calls {C : Cfg} {E : Env} (hC : CfgOK Tryz.prog E C) {G : Asm} (hG : G.holds E) {f : FuncId} {fn : Func} (hf : Tryz.prog.funcs[f]? = some fn) (h4 : fn.results.toList.length ≤ 4) {args : List AV} {x y : IT} (hT : ∀ b, funE C fn ((exT x y, b) :: G) args = some (lfX x y b)) {a b : Int} (hx : x.den E = a) (hy : y.den E = b) (hn : args.length ≤ fn.ntmps) (hp : args.all noPtr = true) (hw : ∀ w, C.wok w) (w : World) (vs : List Value) (hl : vs.length = args.length)
    (hv : ∀ (i : Nat) (x : AV), args[i]? = some x → ∃ v, vs[i]? = some v ∧ ∀ β, x.holds E β w v) : Calls Tryz.prog f vs.toArray w (RetIv (prI a b) w) := by
  refine pick_calls hC (asm_c (t := exT x y) (b := prpB (x.den E) (y.den E)) rfl hG) hf h4 (hT _) hx hy ?_ hn hp hw w vs hl hv
  by_cases h : Prp (x.den E) (y.den E)
  · refine .inl ⟨h, ?_⟩
    rw [prpB_iff.2 h]; rfl
  · refine .inr ⟨h, ?_⟩
    rw [show prpB (x.den E) (y.den E) = false from Bool.eq_false_iff.2 fun k => h (prpB_iff.1 k)]; rfl
theorem proper_calls (w : World) (x y : Int) : Calls Tryz.prog 234 #[.agg #[.int .i64 x, .int .i64 y]] w (RetIv (prI x y) w) := by
  obtain ⟨E, hE⟩ : ∃ E, E = qE [(x : Rat), (y : Rat)] := ⟨_, rfl⟩
  have e0 : E.i 0 = x := by rw [hE]; exact qE_int (i := 0) rfl
  have e2 : E.i 2 = y := by rw [hE]; exact qE_int (i := 1) rfl
  exact pick_calls (E := E) (C := cfgOf []) (cfg_ok .nil) no_asm Tryz.func234 (by decide +kernel) (T := prT (.var 0) (.var 2)) (by kernel_rfl) (x := .var 0) (y := .var 2) e0 e2 (prT_pick _ _) (by decide +kernel) (args := [aIv 0]) rfl (fun _ => trivial) w _ rfl (one_arg rfl rfl fun β => by rw [hE]; exact aIv_holds (i := 0) rfl rfl)
def kPr : Con
  | [.val true [.n .i64 x, .n .i64 y]], G => kEx x y G
  | _, _ => none
def nPr : List AV → Asm → Option BT
  | [.val true [.n .i64 x, .n .i64 y]], _ => some (exT x y)
  | _, _ => none
theorem kPr_ok {E : Env} : ConOK Tryz.prog E 234 kPr := by
  refine ⟨?_, ?_, ⟨_, Tryz.func234, by decide +kernel, by kernel_rfl⟩⟩
  · intro args G r h hG β w vs hv hlen
    unfold kPr at h
    split at h
    · rename_i x y
      obtain ⟨v, rfl, h1⟩ := args1 hv hlen
      rw [show v = _ from agg_out h1]
      refine (proper_calls w _ _).mono ?_
      rintro e w' ⟨rfl, ex⟩
      exact ⟨_, rfl, kEx_holds hG h, ex⟩
    · cases h
  · intro args G r h
    unfold kPr at h
    split at h
    · exact kEx_nptr h
    · cases h
end Go.Proofs.YtifeacfljfmnpaaGreat
end

section
set_option maxRecDepth 100000
namespace Go.Proofs.YtifeacfljfmnpaaGreat
open Go.RowKit
noncomputable def tabPf : List (Nat × Con) := [(234, kPr), (233, kDiv64), (231, kMul64), (229, kI64), (175, kIn fun x => .a2 3 x (.lit 0)), (151, kII (.a2 2) (· + ·)), (76, kFrom), (207, kDM)]
theorem tabPf_ok {E : Env} : TabOK Tryz.prog E tabPf :=
  .cons kPr_ok <| .cons kDiv64_ok <| .cons kMul64_ok <| .cons (kI64_ok (fun w v z h => int64_calls w v z h) ⟨_, Tryz.func229, by decide +kernel, by kernel_rfl⟩) <|
  .cons (kIn_ok (cmpZ · 0) (fun _ => rfl) (fun w v1 z1 h1 => sign_calls w v1 z1 h1) ⟨_, Tryz.func175, by decide +kernel, by kernel_rfl⟩) <|
  .cons (kII_ok (· * ·) (fun _ _ => rfl) (fun w v1 v2 z1 z2 l m h1 h2 l1 l2 b1 b2 => mul_calls w v1 v2 z1 z2 h1 h2 (l1.sm (by omega)) (l2.sm (by omega))) (fun _ _ _ _ h k => h.mul k) ⟨_, Tryz.func151, by decide +kernel, by kernel_rfl⟩) <|
  .cons (kFrom_ok (fun w n h1 h2 => fromInt64_calls w n h1 h2) ⟨_, Tryz.func76, by decide +kernel, by kernel_rfl⟩) <| .cons kDM_ok .nil
noncomputable def cP0 : Cfg := cfgN (cfgOf tabPf) [(234, nPr), (229, nI64)]
theorem cP0_ok {E : Env} : CfgOK Tryz.prog E cP0 := cfgN_ok (cfg_ok tabPf_ok)
end Go.Proofs.YtifeacfljfmnpaaGreat
end

section
set_option maxRecDepth 100000
namespace Go.Proofs.YtifeacfljfmnpaaGreat
open Go.RowKit
theorem floor_mul_den (q : Rat) (n : Int) : (n : Rat) ≤ q * 65536 ↔ n * (q.den : Int) ≤ q.num * 65536 := by
  have hd : (0 : Rat) < (q.den : Rat) := by
    have : ((0 : Nat) : Rat) < (q.den : Rat) := Rat.natCast_lt_natCast.2 q.den_pos
    exact this
  have e := mul_den' q
  rw [← Rat.intCast_le_intCast, Rat.intCast_mul, Rat.intCast_mul, ← e]
  have e2 : (((q.den : Int)) : Rat) = (q.den : Rat) := rfl
  have e3 : ((65536 : Int) : Rat) = 65536 := rfl
  rw [e2, e3]
  constructor
  · intro h
    have : 0 ≤ (q * 65536 - (n : Rat)) * (q.den : Rat) := Rat.mul_nonneg (by grind) (by grind)
    grind
  · intro h
    rcases le_tot (n : Rat) (q * 65536) with k | k
    · exact k
    · by_cases e0 : (n : Rat) = q * 65536
      · grind
      · have : 0 < ((n : Rat) - q * 65536) * (q.den : Rat) := Rat.mul_pos (by grind) hd
        grind
theorem flR_eq (q : Rat) : dq (q.num * 65536) (q.den : Int) = flR q := by
  have hd : 0 < (q.den : Int) := by have := q.den_pos; omega
  rw [dq_pos hd]
  unfold flR
  have h1 : ∀ n : Int, n ≤ (q * 65536).floor ↔ n ≤ q.num * 65536 / (q.den : Int) := fun n => by
    rw [Rat.le_floor_iff, floor_mul_den, Int.le_ediv_iff_mul_le hd]
  have a := (h1 (q * 65536).floor).1 (Int.le_refl _)
  have b := (h1 (q.num * 65536 / (q.den : Int))).2 (Int.le_refl _)
  omega
theorem clR_eq (q : Rat) : -dq (-(q.num * 65536)) (q.den : Int) = clR q := by
  have h := flR_eq (-q)
  rw [Rat.neg_num, Rat.neg_den] at h
  unfold clR
  rw [show -(q.num * 65536) = -q.num * 65536 by omega, h]
  unfold flR
  congr 2
  grind
theorem flR_le_clR (q : Rat) : flR q ≤ clR q := by
  have h1 := Rat.floor_le (q * 65536)
  have h2 := Rat.floor_le (-(q * 65536))
  unfold flR clR
  refine Rat.intCast_le_intCast.1 ?_
  rw [Rat.intCast_neg]
  grind
def frI (q : Rat) : Option (Int × Int) := prI (flR q) (clR q)
def aQf (l : Nat) : AV := .val true [.int (.var 0) l, .int (.var 1) l]
theorem ratArg {w : World} {v : Value} {q : Rat} (h : IsRat w v q) (l : LimQ 40 q) : ∀ β, (aQf 40).holds (qE [q]) β w v := fun β => by
  obtain ⟨a, b, c, d, rfl, h1, h2⟩ := h
  exact one_rat.2 ⟨a, b, c, d, rfl, h1, l.1, h2, l.2⟩
def adI (x y x' y' : Int) : Option (Int × Int) := prI (x + x') (y + y')
theorem gR_of {E : Env} {t : IT} {x : Int} (he : t.den E = x) (h : -2305843009213693952 ≤ x ∧ x ≤ 2305843009213693952) : Asm.holds E (gR t) := gR_ok (by rw [he]; omega)
theorem pAdd_walk : ∀ b, funE cP0 Tryz.f228 [(exT (.a1 20 sS0) (.a1 20 sS1), b)] [aIv 0, aIv 2] = some (lfX (.a1 20 sS0) (.a1 20 sS1) b) := by
  intro b
  cases b <;> kernel_rfl
theorem pAdd_calls (w : World) (x y x' y' : Int) (hp : Prp x y) (hp' : Prp x' y') : Calls Tryz.prog 228 #[.agg #[.int .i64 x, .int .i64 y], .agg #[.int .i64 x', .int .i64 y']] w (RetIv (adI x y x' y') w) := by
  obtain ⟨E, hE⟩ : ∃ E, E = qE [(x : Rat), (y : Rat), (x' : Rat), (y' : Rat)] := ⟨_, rfl⟩
  have e0 : E.i 0 = x := by rw [hE]; exact qE_int (i := 0) rfl
  have e2 : E.i 2 = y := by rw [hE]; exact qE_int (i := 1) rfl
  have e4 : E.i 4 = x' := by rw [hE]; exact qE_int (i := 2) rfl
  have e6 : E.i 6 = y' := by rw [hE]; exact qE_int (i := 3) rfl
  obtain ⟨p1, p2, p3⟩ := hp
  obtain ⟨q1, q2, q3⟩ := hp'
  refine ex_calls (E := E) (C := cP0) cP0_ok no_asm Tryz.func228 (by decide +kernel) pAdd_walk ?_ ?_ (by decide +kernel) (args := [aIv 0, aIv 2]) rfl (fun _ => trivial) w _ rfl (two_args rfl rfl (fun β => by rw [hE]; exact aIv_holds (i := 0) rfl rfl) (fun β => by rw [hE]; exact aIv_holds (i := 2) rfl rfl))
  · show IntKind.i64.wrap (E.i 0 + E.i 4) = _
    rw [e0, e4, IntWalk.i64_in _ (by omega)]
  · show IntKind.i64.wrap (E.i 2 + E.i 6) = _
    rw [e2, e6, IntWalk.i64_in _ (by omega)]
def pLo : IT := .a2 4 (.a2 2 (.var 0) (.lit 65536)) (.var 1)
def gLong (b : Bool) : Asm := [(.eq (.a1 1 (.var 1)) (.lit 0), true), (.eq (.var 1) (.lit 0), false), (.eq (.a2 3 (.a2 5 (.a2 2 (.var 0) (.lit 65536)) (.var 1)) (.lit 0)) (.lit 0), b)]
def pHiL : Bool → IT
  | true => pLo
  | false => .a1 20 (.a2 0 pLo (.lit 1))
theorem long_no1 : funE cP0 Tryz.f230 [(.eq (.a1 1 (.var 1)) (.lit 0), true), (i64R pLo, false)] [aQf 40] = some (.leaf noL) := by kernel_rfl
theorem long_no2 : funE cP0 Tryz.f230 [(.eq (.a1 1 (.var 1)) (.lit 0), true), (i64R pLo, true), (.lt lP pLo, true)] [aQf 40] = some (.leaf noL) := by kernel_rfl
theorem long_walk : ∀ c b, funE cP0 Tryz.f230 ((exT pLo (pHiL c), b) :: (i64R pLo, true) :: (.lt lP pLo, false) :: gLong c) [aQf 40] = some (lfX pLo (pHiL c) b) := by
  intro c b
  cases c <;> cases b <;> kernel_rfl
theorem ceil_cases (q : Rat) : (dr (q.num * 65536) (q.den : Int) = 0 ∧ clR q = flR q) ∨ (dr (q.num * 65536) (q.den : Int) ≠ 0 ∧ clR q = flR q + 1) := by
  have hd : 0 < (q.den : Int) := by have := q.den_pos; omega
  have e1 := flR_eq q
  have e2 := clR_eq q
  rw [dq_pos hd] at e1 e2
  have e3 : dr (q.num * 65536) (q.den : Int) = (q.num * 65536) % (q.den : Int) := by
    unfold dr
    rw [if_neg (by omega), Int.fmod_eq_emod_of_nonneg _ (by omega)]
  rw [Int.neg_ediv] at e2
  rw [e3]
  by_cases h : (q.den : Int) ∣ q.num * 65536
  · rw [if_pos h] at e2
    exact .inl ⟨Int.emod_eq_zero_of_dvd h, by omega⟩
  · rw [if_neg h, Int.sign_eq_one_of_pos hd] at e2
    exact .inr ⟨fun k => h (Int.dvd_of_emod_eq_zero k), by omega⟩
end Go.Proofs.YtifeacfljfmnpaaGreat
end

section
set_option maxRecDepth 100000
namespace Go.Proofs.YtifeacfljfmnpaaGreat
open Go.RowKit
theorem i64R_den {E : Env} (t : IT) : (i64R t).den E = decide (-9223372036854775808 ≤ t.den E ∧ t.den E ≤ 9223372036854775807) := by
  show (decide _ && decide _) = _
  rw [Bool.decide_and]
  rfl
theorem i64R_t {E : Env} {t : IT} {G : Asm} (h : -9223372036854775808 ≤ t.den E ∧ t.den E ≤ 9223372036854775807) (k : G.holds E) : Asm.holds E ((i64R t, true) :: G) := asm_c (by rw [i64R_den]; exact decide_eq_true h) k
theorem i64R_f {E : Env} {t : IT} {G : Asm} (h : ¬ (-9223372036854775808 ≤ t.den E ∧ t.den E ≤ 9223372036854775807)) (k : G.holds E) : Asm.holds E ((i64R t, false) :: G) := asm_c (by rw [i64R_den]; exact decide_eq_false h) k
theorem pLo_den {q : Rat} : pLo.den (qE [q]) = flR q := by
  show dq (q.num * 65536) (q.den : Int) = _
  exact flR_eq q
theorem frI_none {q : Rat} (h : ¬ Prp (flR q) (clR q)) : frI q = none := prI_neg h
theorem noArg {w : World} {v : Value} {q : Rat} (h : IsRat w v q) (l : LimQ 40 q) : ∀ (i : Nat) (y : AV), [aQf 40][i]? = some y → ∃ u, [v][i]? = some u ∧ ∀ β, y.holds (qE [q]) β w u := one_arg rfl rfl (ratArg h l)
theorem pLong_calls (w : World) (v : Value) (q : Rat) (h : IsRat w v q) (l : LimQ 40 q) : Calls Tryz.prog 230 #[v] w (RetIv (frI q) w) := by
  have hd : 0 < (q.den : Int) := by have := q.den_pos; omega
  have hle := flR_le_clR q
  have f0 : (IT.a1 1 (.var 1)).den (qE [q]) = (IT.lit 0).den (qE [q]) := by
    show de (q.den : Int) = 0
    exact if_neg (by omega)
  by_cases h1 : -9223372036854775808 ≤ flR q ∧ flR q ≤ 9223372036854775807
  · by_cases h2 : 2305843009213693952 < flR q
    · rw [frI_none (by unfold Prp; omega)]
      exact no_calls (C := cP0) (E := qE [q]) cP0_ok (eq_t f0 <| i64R_t (by rw [pLo_den]; exact h1) <| lt_t (by rw [pLo_den]; exact h2) no_asm) Tryz.func230 (by decide +kernel) long_no2 (by decide +kernel) rfl (fun _ => trivial) w _ rfl (noArg h l)
    · obtain ⟨c, hc, hhi⟩ : ∃ c : Bool, (BT.eq (.a2 3 (.a2 5 (.a2 2 (.var 0) (.lit 65536)) (.var 1)) (.lit 0)) (.lit 0)).den (qE [q]) = c ∧ (pHiL c).den (qE [q]) = clR q := by
        refine ⟨_, rfl, ?_⟩
        have hb : (BT.eq (.a2 3 (.a2 5 (.a2 2 (.var 0) (.lit 65536)) (.var 1)) (.lit 0)) (.lit 0)).den (qE [q]) = decide (dr (q.num * 65536) (q.den : Int) = 0) := by
          show (cmpZ (dr (q.num * 65536) (q.den : Int)) 0 == 0) = _
          rw [Bool.eq_iff_iff, beq_iff_eq, decide_eq_true_iff]
          rcases cmpZ_cases (dr (q.num * 65536) (q.den : Int)) 0 with ⟨a, e⟩ | ⟨a, e⟩ | ⟨a, e⟩ <;> rw [e] <;> omega
        rw [hb]
        rcases ceil_cases q with ⟨a, e⟩ | ⟨a, e⟩
        · rw [decide_eq_true a, e]
          exact pLo_den
        · rw [decide_eq_false a, e]
          show IntKind.i64.wrap (pLo.den (qE [q]) + 1) = _
          rw [pLo_den, IntWalk.i64_in _ (by omega)]
      refine ex_calls (C := cP0) (E := qE [q]) cP0_ok ?_ Tryz.func230 (by decide +kernel) (long_walk c) pLo_den hhi (by decide +kernel) (args := [aQf 40]) rfl (fun _ => trivial) w _ rfl (noArg h l)
      exact i64R_t (by rw [pLo_den]; exact h1) <| lt_f (by rw [pLo_den]; exact h2) <| eq_t f0 <| eq_f (by show ¬ (q.den : Int) = 0; omega) <| asm_c hc no_asm
  · rw [frI_none (by unfold Prp; omega)]
    exact no_calls (C := cP0) (E := qE [q]) cP0_ok (eq_t f0 <| i64R_f (by rw [pLo_den]; exact h1) no_asm) Tryz.func230 (by decide +kernel) long_no1 (by decide +kernel) rfl (fun _ => trivial) w _ rfl (noArg h l)
def frLo (x y : IT) : IT := .a2 4 (.a2 2 x (.lit 65536)) y
def frHi (x y : IT) : IT := .a1 0 (.a2 4 (.a1 0 (.a2 2 x (.lit 65536))) y)
def kFR : Con
  | [.val true [.int x l, .int y m]], G => if canon x y && (decide (l ≤ 40) && decide (m ≤ 40)) then kEx (frLo x y) (frHi x y) G else none
  | _, _ => none
def nFR : List AV → Asm → Option BT
  | [.val true [.int x _, .int y _]], _ => some (exT (frLo x y) (frHi x y))
  | _, _ => none
theorem kFR_ok {E : Env} (hE : QEnv E) {f : Nat} (hc : ∀ (w : World) (v : Value) (q : Rat), IsRat w v q → LimQ 40 q → Calls Tryz.prog f #[v] w (RetIv (frI q) w)) (hb : ∃ fn, Tryz.prog.funcs[f]? = some fn ∧ fn.name ≠ "runtime.NumGoroutine" ∧ fn.body.isNone = false) : ConOK Tryz.prog E f kFR := by
  refine ⟨?_, ?_, hb⟩
  · intro args G r h hG β w vs hv hlen
    unfold kFR at h
    split at h
    · rename_i x l y m
      split at h
      · rename_i hm
        simp only [Bool.and_eq_true, decide_eq_true_iff] at hm
        obtain ⟨v, rfl, h1⟩ := args1 hv hlen
        obtain ⟨q, _, e1, e2, hq, m1, m2⟩ := one_ratQ hE hm.1 h1
        have k := kEx_holds (β := β) (w := w) hG h
        have d1 : (frLo x y).den E = flR q := by
          show dq (x.den E * 65536) (y.den E) = _
          rw [e1, e2]; exact flR_eq q
        have d2 : (frHi x y).den E = clR q := by
          show -dq (-(x.den E * 65536)) (y.den E) = _
          rw [e1, e2]; exact clR_eq q
        rw [d1, d2] at k
        refine (hc w v q hq ⟨m1.mono hm.2.1, m2.mono hm.2.2⟩).mono ?_
        rintro e w' ⟨rfl, ex⟩
        have k' := kEx_holds (β := β) (w := w') hG h
        rw [d1, d2] at k'
        exact ⟨_, rfl, k', ex⟩
      · cases h
    · cases h
  · intro args G r h
    unfold kFR at h
    split at h
    · split at h
      · exact kEx_nptr h
      · cases h
    · cases h
noncomputable def cPs0 : Cfg := cfgN (cfgOf ((230, kFR) :: tabPf)) [(234, nPr), (229, nI64), (230, nFR)]
theorem cPs0_ok {E : Env} (hE : QEnv E) : CfgOK Tryz.prog E cPs0 := cfgN_ok (cfg_ok (.cons (kFR_ok hE pLong_calls ⟨_, Tryz.func230, by decide +kernel, by kernel_rfl⟩) tabPf_ok))
noncomputable def cPs : Cfg := cfgI cPs0 cPs0 [(232, Tryz.f232), (235, Tryz.f235)]
theorem cPs_ok {E : Env} (hE : QEnv E) : CfgOK Tryz.prog E cPs := cfgI_ok mixed (cPs0_ok hE) (cPs0_ok hE) (fun _ => trivial) (.cons Tryz.func232 (by decide +kernel) (by kernel_rfl) <| .cons Tryz.func235 (by decide +kernel) (by kernel_rfl) .nil)
theorem fr_long : ∀ s o b, (s && o) = false → funE cPs Tryz.f191 [(exT (frLo (.var 0) (.var 1)) (frHi (.var 0) (.var 1)), b), (i64R (.var 0), s), (i64R (.var 1), o)] [aQf 40] = some (lfX (frLo (.var 0) (.var 1)) (frHi (.var 0) (.var 1)) b) := by
  intro s o b h
  cases s
  · cases o <;> cases b <;> kernel_rfl
  · cases o
    · cases b <;> kernel_rfl
    · cases h
def sS : Bool → IT
  | true => .a1 21 (.a2 1 (.lit 0) (.a1 21 (.var 0)))
  | false => .a1 21 (.var 0)
def sH (n : Bool) : IT := .a2 19 (sS n) (.lit 65536)
def sL (n : Bool) : IT := .a1 21 (.a2 2 (sS n) (.lit 65536))
def sD : IT := .a1 21 (.var 1)
def sQ (n : Bool) : IT := .a2 16 (twoW (sH n) (sL n)) sD
def sRm (n : Bool) : IT := .a2 15 (twoW (sH n) (sL n)) sD
def sUp (n : Bool) : Bool → IT
  | true => .a1 20 (sQ n)
  | false => .a1 20 (.a2 0 (.a1 20 (sQ n)) (.lit 1))
def sLo (n c : Bool) : IT := if n then .a1 20 (.a2 1 (.lit 0) (sUp n c)) else .a1 20 (sQ n)
def sHi (n c : Bool) : IT := if n then .a1 20 (.a2 1 (.lit 0) (.a1 20 (sQ n))) else sUp n c
def gShort (n : Bool) : Asm := [(i64R (.var 0), true), (i64R (.var 1), true), (.lt (.var 0) (.lit 0), n), (.le (.var 1) (.lit 0), false)]
theorem fr_no1 : ∀ n, funE cPs Tryz.f191 ((.le sD (sH n), true) :: gShort n) [aQf 40] = some (.leaf noL) := by
  intro n
  cases n <;> kernel_rfl
theorem fr_no2 : ∀ n, funE cPs Tryz.f191 ((.le sD (sH n), false) :: (.lt (sH n) sD, true) :: (.lt lP (sQ n), true) :: (gU (sH n) ++ gShort n)) [aQf 40] = some (.leaf noL) := by
  intro n
  cases n <;> kernel_rfl
theorem fr_walk : ∀ n c b, funE cPs Tryz.f191 ((exT (sLo n c) (sHi n c), b) :: (.le sD (sH n), false) :: (.lt (sH n) sD, true) :: (.lt lP (sQ n), false) :: (.eq (sRm n) (.lit 0), c) :: (gU (sH n) ++ gShort n)) [aQf 40] = some (lfX (sLo n c) (sHi n c) b) := by
  intro n c b
  cases n <;> cases c <;> cases b <;> kernel_rfl
end Go.Proofs.YtifeacfljfmnpaaGreat
end

section
set_option maxRecDepth 100000
namespace Go.Proofs.YtifeacfljfmnpaaGreat
open Go.RowKit
theorem quot_cases (q : Rat) : ∃ P Q R : Int, P = (q.num.natAbs : Int) * 65536 ∧ Q = P / (q.den : Int) ∧ R = P % (q.den : Int) ∧ 0 ≤ R ∧ R < (q.den : Int) ∧ 0 ≤ Q ∧
    ((0 ≤ q.num ∧ flR q = Q ∧ (R = 0 ∧ clR q = Q ∨ R ≠ 0 ∧ clR q = Q + 1)) ∨ (q.num < 0 ∧ clR q = -Q ∧ (R = 0 ∧ flR q = -Q ∨ R ≠ 0 ∧ flR q = -(Q + 1)))) := by
  have hd : 0 < (q.den : Int) := by have := q.den_pos; omega
  refine ⟨_, _, _, rfl, rfl, rfl, Int.emod_nonneg _ (by omega), Int.emod_lt_of_pos _ hd, Int.ediv_nonneg (by omega) (by omega), ?_⟩
  have e1 := flR_eq q
  have e2 := clR_eq q
  rw [dq_pos hd] at e1 e2
  rcases Int.lt_or_le q.num 0 with h | h
  · refine .inr ⟨h, ?_, ?_⟩
    · rw [← e2, show -(q.num * 65536) = (q.num.natAbs : Int) * 65536 by omega]
    · rw [show q.num * 65536 = -((q.num.natAbs : Int) * 65536) by omega, Int.neg_ediv] at e1
      by_cases k : (q.den : Int) ∣ (q.num.natAbs : Int) * 65536
      · rw [if_pos k] at e1
        exact .inl ⟨Int.emod_eq_zero_of_dvd k, by omega⟩
      · rw [if_neg k, Int.sign_eq_one_of_pos hd] at e1
        exact .inr ⟨fun c => k (Int.dvd_of_emod_eq_zero c), by omega⟩
  · refine .inl ⟨h, ?_, ?_⟩
    · rw [← e1, show q.num * 65536 = (q.num.natAbs : Int) * 65536 by omega]
    · rw [show -(q.num * 65536) = -((q.num.natAbs : Int) * 65536) by omega, Int.neg_ediv] at e2
      by_cases k : (q.den : Int) ∣ (q.num.natAbs : Int) * 65536
      · rw [if_pos k] at e2
        exact .inl ⟨Int.emod_eq_zero_of_dvd k, by omega⟩
      · rw [if_neg k, Int.sign_eq_one_of_pos hd] at e2
        exact .inr ⟨fun c => k (Int.dvd_of_emod_eq_zero c), by omega⟩
theorem pFromRat_calls (w : World) (v : Value) (q : Rat) (h : IsRat w v q) (l : LimQ 40 q) : Calls Tryz.prog 191 #[v] w (RetIv (frI q) w) := by
  have hd : 0 < (q.den : Int) := by have := q.den_pos; omega
  have hv := noArg h l
  by_cases hs : (-9223372036854775808 ≤ q.num ∧ q.num ≤ 9223372036854775807) ∧ (q.den : Int) ≤ 9223372036854775807
  · obtain ⟨⟨s1, s2⟩, s3⟩ := hs
    obtain ⟨n, hn⟩ : ∃ n : Bool, n = decide (q.num < 0) := ⟨_, rfl⟩
    obtain ⟨P, Q, R, hP, hQ, hR, R0, R1, Q0, hcase⟩ := quot_cases q
    have P0 : 0 ≤ P := by omega
    have P1 : P < 604462909807314587353088 * 1024 := by omega
    have dS : (sS n).den (qE [q]) = (q.num.natAbs : Int) := by
      rw [hn]
      by_cases k : q.num < 0
      · rw [decide_eq_true k]
        show IntKind.u64.wrap (0 - IntKind.u64.wrap q.num) = _
        rw [IntKind.wrap_u64, IntKind.wrap_u64]; omega
      · rw [decide_eq_false k]
        show IntKind.u64.wrap q.num = _
        rw [IntKind.wrap_u64]; omega
    have dH : (sH n).den (qE [q]) = P / 18446744073709551616 := by
      show (sS n).den (qE [q]) * 65536 / 18446744073709551616 = _
      rw [dS, hP]
    have dL : (sL n).den (qE [q]) = P % 18446744073709551616 := by
      show IntKind.u64.wrap ((sS n).den (qE [q]) * 65536) = _
      rw [dS, ← hP, IntKind.wrap_u64]
    have dD : sD.den (qE [q]) = (q.den : Int) := by
      show IntKind.u64.wrap (q.den : Int) = _
      rw [IntKind.wrap_u64]; omega
    have dW : (twoW (sH n) (sL n)).den (qE [q]) = P := by
      show (sH n).den (qE [q]) * 2 ^ (Int.toNat 64) + (sL n).den (qE [q]) = _
      rw [dH, dL, show (2 : Int) ^ (Int.toNat 64) = 18446744073709551616 from rfl]
      omega
    have dQ : (sQ n).den (qE [q]) = Q := by
      show ((twoW (sH n) (sL n)).den (qE [q])).tdiv (sD.den (qE [q])) = _
      rw [dW, dD, hQ, Int.tdiv_eq_ediv_of_nonneg P0]
    have dR : (sRm n).den (qE [q]) = R := by
      show ((twoW (sH n) (sL n)).den (qE [q])).tmod (sD.den (qE [q])) = _
      rw [dW, dD, hR, Int.tmod_eq_emod_of_nonneg P0]
    have big1 : (q.den : Int) ≤ P / 18446744073709551616 → 18446744073709551616 ≤ Q := by
      intro k
      rw [hQ]
      refine (Int.le_ediv_iff_mul_le hd).2 ?_
      have := Int.mul_le_mul_of_nonneg_left k (show (0 : Int) ≤ 18446744073709551616 by omega)
      omega
    have hg : Asm.holds (qE [q]) (gShort n) := i64R_t (t := .var 0) ⟨s1, s2⟩ <| i64R_t (t := .var 1) (by show -9223372036854775808 ≤ (q.den : Int) ∧ (q.den : Int) ≤ 9223372036854775807; omega) <| asm_c hn.symm <| le_f (by show ¬ (q.den : Int) ≤ 0; omega) no_asm
    have hU : Asm.holds (qE [q]) (gU (sH n)) := gU_ok (by rw [dH]; omega)
    by_cases k1 : (q.den : Int) ≤ P / 18446744073709551616
    · have := big1 k1
      rw [frI_none (by unfold Prp; omega)]
      exact no_calls (C := cPs) (E := qE [q]) (cPs_ok (qE_ok _)) (le_t (by rw [dD, dH]; exact k1) hg) Tryz.func191 (by decide +kernel) (fr_no1 n) (by decide +kernel) rfl (fun _ => trivial) w _ rfl hv
    · have gA : ∀ G : Asm, G.holds (qE [q]) → Asm.holds (qE [q]) ((.le sD (sH n), false) :: (.lt (sH n) sD, true) :: G) := fun G hG => le_f (by rw [dD, dH]; exact k1) <| lt_t (by rw [dD, dH]; omega) hG
      by_cases k2 : 2305843009213693952 < Q
      · rw [frI_none (by unfold Prp; omega)]
        exact no_calls (C := cPs) (E := qE [q]) (cPs_ok (qE_ok _)) (gA _ <| lt_t (by rw [dQ]; exact k2) <| asm_app hU hg) Tryz.func191 (by decide +kernel) (fr_no2 n) (by decide +kernel) rfl (fun _ => trivial) w _ rfl hv
      · obtain ⟨c, hc⟩ : ∃ c : Bool, c = decide (R = 0) := ⟨_, rfl⟩
        have dq1 : IntKind.i64.wrap ((sQ n).den (qE [q])) = Q := by rw [dQ, IntWalk.i64_in _ (by omega)]
        have dU : (sUp n c).den (qE [q]) = if R = 0 then Q else Q + 1 := by
          rw [hc]
          by_cases k : R = 0
          · rw [decide_eq_true k, if_pos k]
            exact dq1
          · rw [decide_eq_false k, if_neg k]
            show IntKind.i64.wrap (IntKind.i64.wrap ((sQ n).den (qE [q])) + 1) = _
            rw [dq1, IntWalk.i64_in _ (by omega)]
        have dLo : (sLo n c).den (qE [q]) = flR q := by
          unfold sLo
          by_cases k : q.num < 0
          · rw [if_pos (by rw [hn]; exact decide_eq_true k)]
            show IntKind.i64.wrap (0 - (sUp n c).den (qE [q])) = _
            rw [dU]
            by_cases k3 : R = 0
            · rw [if_pos k3, IntWalk.i64_in _ (by omega)]; omega
            · rw [if_neg k3, IntWalk.i64_in _ (by omega)]; omega
          · rw [if_neg (by rw [hn, decide_eq_false k]; decide)]
            show IntKind.i64.wrap ((sQ n).den (qE [q])) = _
            rw [dq1]; omega
        have dHi : (sHi n c).den (qE [q]) = clR q := by
          unfold sHi
          by_cases k : q.num < 0
          · rw [if_pos (by rw [hn]; exact decide_eq_true k)]
            show IntKind.i64.wrap (0 - IntKind.i64.wrap ((sQ n).den (qE [q]))) = _
            rw [dq1, IntWalk.i64_in _ (by omega)]; omega
          · rw [if_neg (by rw [hn, decide_eq_false k]; decide), dU]
            by_cases k3 : R = 0
            · rw [if_pos k3]; omega
            · rw [if_neg k3]; omega
        refine ex_calls (C := cPs) (E := qE [q]) (cPs_ok (qE_ok _)) ?_ Tryz.func191 (by decide +kernel) (fr_walk n c) dLo dHi (by decide +kernel) (args := [aQf 40]) rfl (fun _ => trivial) w _ rfl hv
        refine gA _ <| lt_f (by rw [dQ]; exact k2) <| asm_c ?_ <| asm_app hU hg
        show ((sRm n).den (qE [q]) == 0) = c
        rw [dR, hc, Bool.eq_iff_iff, beq_iff_eq, decide_eq_true_iff]
  · refine ex_calls (C := cPs) (E := qE [q]) (x := frLo (.var 0) (.var 1)) (y := frHi (.var 0) (.var 1)) (cPs_ok (qE_ok _)) (G := [(i64R (.var 0), decide (-9223372036854775808 ≤ q.num ∧ q.num ≤ 9223372036854775807)), (i64R (.var 1), decide ((q.den : Int) ≤ 9223372036854775807))]) ?_ Tryz.func191 (by decide +kernel) (fun b => fr_long _ _ b ?_) ?_ ?_ (by decide +kernel) (args := [aQf 40]) rfl (fun _ => trivial) w _ rfl hv
    · refine asm_c (i64R_den _) <| asm_c ?_ no_asm
      rw [i64R_den, decide_eq_decide]
      show (-9223372036854775808 ≤ (q.den : Int) ∧ (q.den : Int) ≤ 9223372036854775807) ↔ _
      omega
    · rw [← Bool.decide_and]
      exact decide_eq_false hs
    · exact flR_eq q
    · exact clR_eq q
end Go.Proofs.YtifeacfljfmnpaaGreat
end

section
set_option maxRecDepth 100000
namespace Go.Proofs.YtifeacfljfmnpaaGreat
open Go.RowKit
end Go.Proofs.YtifeacfljfmnpaaGreat
end

section
set_option maxRecDepth 100000
namespace Go.Proofs.YtifeacfljfmnpaaGreat
open Go.RowKit
theorem or_term {P : Nat} (h : P / 18446744073709551616 ≤ 8192) : fn2 14 ((P / 18446744073709551616 * 281474976710656 : Nat) : Int) ((P % 18446744073709551616 / 65536 : Nat) : Int) = ((P / 65536 : Nat) : Int) := by
  show IntKind.u64.wrap ((BitVec.ofInt 64 _ ||| BitVec.ofInt 64 _).toNat : Int) = _
  rw [BitVec.ofInt_natCast, BitVec.ofInt_natCast, BitVec.toNat_or, BitVec.toNat_ofNat, BitVec.toNat_ofNat, Nat.mod_eq_of_lt (by omega), Nat.mod_eq_of_lt (by omega), or_shift, IntKind.wrap_u64]
  omega
def mulM (x y : Int) : Option (Int × Int) := if (x.natAbs * y.natAbs) / 18446744073709551616 > 8192 then none else some (fl16 (x * y), cl16 (x * y))
def mS (i : Nat) (n : Bool) : IT := if n then .a1 21 (.a2 1 (.lit 0) (.a1 21 (.var i))) else .a1 21 (.var i)
def mH (n m : Bool) : IT := .a2 19 (mS 0 n) (mS 1 m)
def mL (n m : Bool) : IT := .a1 21 (.a2 2 (mS 0 n) (mS 1 m))
def mQ (n m : Bool) : IT := .a2 14 (.a1 21 (.a2 17 (mH n m) (.lit 48))) (.a2 18 (mL n m) (.lit 16))
def mR (n m : Bool) : IT := .a2 15 (mL n m) (.lit 65536)
def mU (n m c : Bool) : IT := if c then .a1 20 (mQ n m) else .a1 20 (.a2 0 (.a1 20 (mQ n m)) (.lit 1))
def mLo (n m c : Bool) : IT := if n != m then .a1 20 (.a2 1 (.lit 0) (mU n m c)) else .a1 20 (mQ n m)
def mHi (n m c : Bool) : IT := if n != m then .a1 20 (.a2 1 (.lit 0) (.a1 20 (mQ n m))) else mU n m c
noncomputable def cMu0 : Cfg := cfgOf [(231, kMul64)]
theorem cMu0_ok {E : Env} : CfgOK Tryz.prog E cMu0 := cfg_ok (.cons kMul64_ok .nil)
noncomputable def cMu : Cfg := cfgI cMu0 cMu0 [(232, Tryz.f232), (235, Tryz.f235)]
theorem cMu_ok {E : Env} : CfgOK Tryz.prog E cMu := cfgI_ok mixed cMu0_ok cMu0_ok (fun _ => trivial) (.cons Tryz.func232 (by decide +kernel) (by kernel_rfl) <| .cons Tryz.func235 (by decide +kernel) (by kernel_rfl) .nil)
theorem mu_no : ∀ n m, funE cMu Tryz.f237 [(.lt (.lit 8192) (mH n m), true), (.lt (.var 0) (.lit 0), n), (.lt (.var 1) (.lit 0), m)] [vN .i64 0, vN .i64 1] = some (.leaf noL) := by
  intro n m
  cases n <;> cases m <;> kernel_rfl
theorem mu_walk : ∀ n m c, funE cMu Tryz.f237 [(.lt (.lit 8192) (mH n m), false), (.eq (mR n m) (.lit 0), c), (.lt (.var 0) (.lit 0), n), (.lt (.var 1) (.lit 0), m)] [vN .i64 0, vN .i64 1] = some (.leaf (ivL (mLo n m c) (mHi n m c))) := by
  intro n m c
  cases n <;> cases m <;> cases c <;> kernel_rfl
theorem mS_den {E : Env} {i : Nat} {x : Int} {n : Bool} (he : E.i i = x) (hn : n = decide (x < 0)) (h : -9223372036854775808 ≤ x ∧ x ≤ 9223372036854775807) : (mS i n).den E = (x.natAbs : Int) := by
  subst he hn
  unfold mS
  by_cases k : E.i i < 0
  · rw [decide_eq_true k, if_pos rfl]
    show IntKind.u64.wrap (0 - IntKind.u64.wrap (E.i i)) = _
    rw [IntKind.wrap_u64, IntKind.wrap_u64]; omega
  · rw [decide_eq_false k, if_neg (by decide)]
    show IntKind.u64.wrap (E.i i) = _
    rw [IntKind.wrap_u64]; omega
theorem prod_cases (x y : Int) : (((decide (x < 0) != decide (y < 0)) = true ∧ x * y = -((x.natAbs * y.natAbs : Nat) : Int)) ∨ ((decide (x < 0) != decide (y < 0)) = false ∧ x * y = ((x.natAbs * y.natAbs : Nat) : Int))) := by
  rw [Int.natCast_mul]
  rcases Int.lt_or_le x 0 with h | h <;> rcases Int.lt_or_le y 0 with k | k
  · refine .inr ⟨by rw [decide_eq_true h, decide_eq_true k]; rfl, ?_⟩
    rw [show (x.natAbs : Int) = -x by omega, show (y.natAbs : Int) = -y by omega, Int.neg_mul_neg]
  · refine .inl ⟨by rw [decide_eq_true h, decide_eq_false (by omega)]; rfl, ?_⟩
    rw [show (x.natAbs : Int) = -x by omega, show (y.natAbs : Int) = y by omega, Int.neg_mul, Int.neg_neg]
  · refine .inl ⟨by rw [decide_eq_false (by omega), decide_eq_true k]; rfl, ?_⟩
    rw [show (x.natAbs : Int) = x by omega, show (y.natAbs : Int) = -y by omega, Int.mul_neg, Int.neg_neg]
  · refine .inr ⟨by rw [decide_eq_false (by omega), decide_eq_false (by omega)]; rfl, ?_⟩
    rw [show (x.natAbs : Int) = x by omega, show (y.natAbs : Int) = y by omega]
theorem multiply_calls (w : World) (x y : Int) (hx : -9223372036854775808 ≤ x ∧ x ≤ 9223372036854775807) (hy : -9223372036854775808 ≤ y ∧ y ≤ 9223372036854775807) : Calls Tryz.prog 237 #[.int .i64 x, .int .i64 y] w (RetIv (mulM x y) w) := by
  obtain ⟨E, hE⟩ : ∃ E, E = eN [x, y] := ⟨_, rfl⟩
  have e0 : E.i 0 = x := by rw [hE]; rfl
  have e1 : E.i 1 = y := by rw [hE]; rfl
  obtain ⟨n, hn⟩ : ∃ n : Bool, n = decide (x < 0) := ⟨_, rfl⟩
  obtain ⟨m, hm⟩ : ∃ m : Bool, m = decide (y < 0) := ⟨_, rfl⟩
  obtain ⟨P, hP⟩ : ∃ P : Nat, P = x.natAbs * y.natAbs := ⟨_, rfl⟩
  have hv := two_args (E := E) (w := w) (args := [vN .i64 0, vN .i64 1]) (vs := [.int .i64 x, .int .i64 y]) rfl rfl (fun β => by rw [hE]; exact vN_holds rfl) (fun β => by rw [hE]; exact vN_holds rfl)
  have d0 := mS_den (i := 0) e0 hn hx
  have d1 := mS_den (i := 1) e1 hm hy
  have dp : (mS 0 n).den E * (mS 1 m).den E = (P : Int) := by rw [d0, d1, hP, Int.natCast_mul]
  have dH : (mH n m).den E = ((P / 18446744073709551616 : Nat) : Int) := by
    show (mS 0 n).den E * (mS 1 m).den E / 18446744073709551616 = _
    rw [dp]; omega
  have dL : (mL n m).den E = ((P % 18446744073709551616 : Nat) : Int) := by
    show IntKind.u64.wrap ((mS 0 n).den E * (mS 1 m).den E) = _
    rw [dp, IntKind.wrap_u64]; omega
  have f0 : (BT.lt (.var 0) (.lit 0)).den E = n := by show decide (E.i 0 < 0) = n; rw [e0, hn]
  have f1 : (BT.lt (.var 1) (.lit 0)).den E = m := by show decide (E.i 1 < 0) = m; rw [e1, hm]
  unfold mulM
  rw [← hP]
  split
  · rename_i k
    exact no_calls (C := cMu) (E := E) cMu_ok (lt_t (by rw [dH]; show (8192 : Int) < _; omega) <| asm_c f0 <| asm_c f1 no_asm) Tryz.func237 (by decide +kernel) (mu_no n m) (by decide +kernel) rfl (fun _ => trivial) w _ rfl hv
  · rename_i k
    have k' : P / 18446744073709551616 ≤ 8192 := by omega
    have dQ : (mQ n m).den E = ((P / 65536 : Nat) : Int) := by
      show fn2 14 (IntKind.u64.wrap ((mH n m).den E * 2 ^ (Int.toNat 48))) (((mL n m).den E).fdiv (2 ^ (Int.toNat 16))) = _
      rw [dH, dL, show (2 : Int) ^ (Int.toNat 48) = 281474976710656 from rfl, show (2 : Int) ^ (Int.toNat 16) = 65536 from rfl, ← or_term k']
      congr 1
      · rw [IntKind.wrap_u64]; omega
      · rw [Int.fdiv_eq_ediv_of_nonneg _ (by omega)]; omega
    have dR : (mR n m).den E = ((P % 65536 : Nat) : Int) := by
      show ((mL n m).den E).tmod 65536 = _
      rw [dL, Int.tmod_eq_emod_of_nonneg (by omega)]; omega
    have dq1 : IntKind.i64.wrap ((mQ n m).den E) = ((P / 65536 : Nat) : Int) := by rw [dQ, IntWalk.i64_in _ (by omega)]
    obtain ⟨c, hc⟩ : ∃ c : Bool, c = decide (P % 65536 = 0) := ⟨_, rfl⟩
    have dU : (mU n m c).den E = if P % 65536 = 0 then ((P / 65536 : Nat) : Int) else ((P / 65536 : Nat) : Int) + 1 := by
      unfold mU
      rw [hc]
      by_cases j : P % 65536 = 0
      · rw [decide_eq_true j, if_pos j, if_pos rfl]
        exact dq1
      · rw [decide_eq_false j, if_neg j, if_neg (by decide)]
        show IntKind.i64.wrap (IntKind.i64.wrap ((mQ n m).den E) + 1) = _
        rw [dq1, IntWalk.i64_in _ (by omega)]
    have hpc := prod_cases x y
    rw [← hn, ← hm, ← hP] at hpc
    have dLo : (mLo n m c).den E = fl16 (x * y) := by
      unfold mLo fl16
      rcases hpc with ⟨a, e⟩ | ⟨a, e⟩
      · rw [if_pos a, e]
        show IntKind.i64.wrap (0 - (mU n m c).den E) = _
        rw [dU, IntWalk.i64_in _ (by split <;> omega)]
        split <;> omega
      · rw [if_neg (by rw [a]; decide), e]
        show IntKind.i64.wrap ((mQ n m).den E) = _
        rw [dq1]; omega
    have dHi : (mHi n m c).den E = cl16 (x * y) := by
      unfold mHi cl16
      rcases hpc with ⟨a, e⟩ | ⟨a, e⟩
      · rw [if_pos a, e]
        show IntKind.i64.wrap (0 - IntKind.i64.wrap ((mQ n m).den E)) = _
        rw [dq1, IntWalk.i64_in _ (by omega)]
        omega
      · rw [if_neg (by rw [a]; decide), e, dU]
        split <;> omega
    refine iv_calls (C := cMu) (E := E) cMu_ok ?_ Tryz.func237 (by decide +kernel) (mu_walk n m c) dLo dHi (by decide +kernel) rfl (fun _ => trivial) w _ rfl hv
    refine lt_f (by rw [dH]; show ¬ (8192 : Int) < _; omega) <| asm_c ?_ <| asm_c f0 <| asm_c f1 no_asm
    show ((mR n m).den E == 0) = c
    rw [dR, hc, Bool.eq_iff_iff, beq_iff_eq, decide_eq_true_iff]; omega
def sizeT (t : IT) : IT := .a1 5 t
def muT (x y : IT) : BT := .lt (.lit 8192) (.a2 19 (sizeT x) (sizeT y))
def fl16T (t : IT) : IT := .a2 4 t (.lit 65536)
def ceiT (t : IT) : IT := .a1 0 (.a2 4 (.a1 0 t) (.lit 65536))
theorem fl16T_den {E : Env} (t : IT) : (fl16T t).den E = fl16 (t.den E) := by
  show dq (t.den E) 65536 = _
  rw [dq_pos (by omega)]; rfl
theorem ceiT_den {E : Env} (t : IT) : (ceiT t).den E = cl16 (t.den E) := by
  show -dq (-(t.den E)) 65536 = _
  rw [dq_pos (by omega)]; rfl
def i64G (G : Asm) (t : IT) : Bool := (i64R t).ev G == some true
theorem i64G_spec {E : Env} {G : Asm} (hG : G.holds E) {t : IT} (h : i64G G t = true) : -9223372036854775808 ≤ t.den E ∧ t.den E ≤ 9223372036854775807 := by
  have := BT.ev_spec hG (beq_iff_eq.1 h)
  rw [i64R_den] at this
  exact of_decide_eq_true this
def kMu : Con
  | [.val false [.n .i64 x], .val false [.n .i64 y]], G => if i64G G x && i64G G y then
      match (muT x y).ev G with
      | some true => some tNo
      | some false => some (tIv (fl16T (.a2 2 x y)) (ceiT (.a2 2 x y)))
      | none => none
    else none
  | _, _ => none
def nMu : List AV → Asm → Option BT
  | [.val false [.n .i64 x], .val false [.n .i64 y]], _ => some (muT x y)
  | _, _ => none
theorem kMu_ok {E : Env} : ConOK Tryz.prog E 237 kMu := by
  refine ⟨?_, ?_, ⟨_, Tryz.func237, by decide +kernel, by kernel_rfl⟩⟩
  · intro args G r h hG β w vs hv hlen
    unfold kMu at h
    split at h
    · rename_i x y
      split at h
      · rename_i hc
        rw [Bool.and_eq_true] at hc
        have a := i64G_spec hG hc.1
        have b := i64G_spec hG hc.2
        obtain ⟨v, u, rfl, h1, h2⟩ := args2 hv hlen
        rw [one_num.1 h1, one_num.1 h2]
        have hm : (muT x y).den E = decide ((x.den E).natAbs * (y.den E).natAbs / 18446744073709551616 > 8192) := by
          show decide ((8192 : Int) < (((x.den E).natAbs : Int) * ((y.den E).natAbs : Int)) / 18446744073709551616) = _
          rw [decide_eq_decide, ← Int.natCast_mul]; omega
        split at h
        · rename_i he
          injection h with h
          subst h
          have := BT.ev_spec hG he
          rw [hm] at this
          refine (multiply_calls w _ _ a b).mono ?_
          rintro e w' ⟨rfl, ex⟩
          refine ⟨_, rfl, ?_, ex⟩
          unfold mulM
          rw [if_pos (of_decide_eq_true this)]
          exact tNo_holds
        · rename_i he
          injection h with h
          subst h
          have := BT.ev_spec hG he
          rw [hm] at this
          refine (multiply_calls w _ _ a b).mono ?_
          rintro e w' ⟨rfl, ex⟩
          refine ⟨_, rfl, ?_, ex⟩
          unfold mulM
          rw [if_neg (of_decide_eq_false this)]
          exact tIv_holds (fl16T_den _) (ceiT_den _)
        · cases h
      · cases h
    · cases h
  · intro args G r h x off
    unfold kMu at h
    split at h
    · split at h
      · split at h
        · injection h with h; subst h; intro e; cases e
        · injection h with h; subst h; intro e; cases e
        · cases h
      · cases h
    · cases h
end Go.Proofs.YtifeacfljfmnpaaGreat
end

section
set_option maxRecDepth 100000
namespace Go.Proofs.YtifeacfljfmnpaaGreat
open Go.RowKit
def mulI (a b c d : Int) : Option (Int × Int) := prI (mulLo a b c d) (mulHi a b c d)
noncomputable def cMp : Cfg := cfgN (cfgOf [(237, kMu), (234, kPr)]) [(237, nMu), (234, nPr)]
theorem cMp_ok {E : Env} : CfgOK Tryz.prog E cMp := cfgN_ok (cfg_ok (.cons kMu_ok (.cons kPr_ok .nil)))
def pr0 : IT := .a2 2 (.var 0) (.var 4)
def pr1 : IT := .a2 2 (.var 0) (.var 6)
def pr2 : IT := .a2 2 (.var 2) (.var 4)
def pr3 : IT := .a2 2 (.var 2) (.var 6)
def gM4 (a b c d : Bool) : Asm := [(muT (.var 0) (.var 4), a), (muT (.var 0) (.var 6), b), (muT (.var 2) (.var 4), c), (muT (.var 2) (.var 6), d)]
def gV4 : Asm := gR (.var 0) ++ (gR (.var 2) ++ (gR (.var 4) ++ gR (.var 6)))
def pmLo : IT := .a2 12 (.a2 12 (.a2 12 (.a2 12 (.lit 9223372036854775807) (fl16T pr0)) (fl16T pr1)) (fl16T pr2)) (fl16T pr3)
def pmHi : IT := .a2 13 (.a2 13 (.a2 13 (.a2 13 (.lit (-9223372036854775808)) (ceiT pr0)) (ceiT pr1)) (ceiT pr2)) (ceiT pr3)
theorem pmul_walk : ∀ b, funE cMp Tryz.f193 ((exT pmLo pmHi, b) :: (gM4 false false false false ++ gV4)) [aIv 0, aIv 2] = some (lfX pmLo pmHi b) := by
  intro b
  cases b <;> kernel_rfl
theorem pmul_no : ∀ a b c d, (a || (b || (c || d))) = true → funE cMp Tryz.f193 (gM4 a b c d ++ gV4) [aIv 0, aIv 2] = some (.leaf noL) := by
  intro a b c d h
  cases a
  · cases b
    · cases c
      · cases d
        · cases h
        · kernel_rfl
      · cases d <;> kernel_rfl
    · cases c <;> cases d <;> kernel_rfl
  · cases b <;> cases c <;> cases d <;> kernel_rfl
theorem muT_den {E : Env} {x y : IT} : (muT x y).den E = decide ((x.den E).natAbs * (y.den E).natAbs / 18446744073709551616 > 8192) := by
  show decide ((8192 : Int) < (((x.den E).natAbs : Int) * ((y.den E).natAbs : Int)) / 18446744073709551616) = _
  rw [decide_eq_decide, ← Int.natCast_mul]; omega
theorem big_out {x y : Int} (h : x.natAbs * y.natAbs / 18446744073709551616 > 8192) : fl16 (x * y) < -2305843009213693952 ∨ 2305843009213693952 < cl16 (x * y) := by
  unfold fl16 cl16
  rcases prod_cases x y with ⟨_, e⟩ | ⟨_, e⟩ <;> rw [e] <;> omega
theorem small_in {x y : Int} (h : ¬ x.natAbs * y.natAbs / 18446744073709551616 > 8192) : -2305843009213693952 * 2 ≤ fl16 (x * y) ∧ fl16 (x * y) ≤ 2305843009213693952 * 2 ∧ -2305843009213693952 * 2 ≤ cl16 (x * y) ∧ cl16 (x * y) ≤ 2305843009213693952 * 2 := by
  unfold fl16 cl16
  rcases prod_cases x y with ⟨_, e⟩ | ⟨_, e⟩ <;> rw [e] <;> omega
theorem pMul_calls (w : World) (a b c d : Int) (hp : Prp a b) (hp' : Prp c d) : Calls Tryz.prog 193 #[.agg #[.int .i64 a, .int .i64 b], .agg #[.int .i64 c, .int .i64 d]] w (RetIv (mulI a b c d) w) := by
  obtain ⟨E, hE⟩ : ∃ E, E = qE [(a : Rat), (b : Rat), (c : Rat), (d : Rat)] := ⟨_, rfl⟩
  have e0 : E.i 0 = a := by rw [hE]; exact qE_int (i := 0) rfl
  have e2 : E.i 2 = b := by rw [hE]; exact qE_int (i := 1) rfl
  have e4 : E.i 4 = c := by rw [hE]; exact qE_int (i := 2) rfl
  have e6 : E.i 6 = d := by rw [hE]; exact qE_int (i := 3) rfl
  obtain ⟨p1, p2, p3⟩ := hp
  obtain ⟨q1, q2, q3⟩ := hp'
  have hv := two_args (E := E) (w := w) (args := [aIv 0, aIv 2]) (vs := [.agg #[.int .i64 a, .int .i64 b], .agg #[.int .i64 c, .int .i64 d]]) rfl rfl (fun β => by rw [hE]; exact aIv_holds (i := 0) rfl rfl) (fun β => by rw [hE]; exact aIv_holds (i := 2) rfl rfl)
  have hV : gV4.holds E := asm_app (gR_of e0 (by omega)) <| asm_app (gR_of e2 (by omega)) <| asm_app (gR_of e4 (by omega)) (gR_of e6 (by omega))
  have m0 : (muT (.var 0) (.var 4)).den E = decide (a.natAbs * c.natAbs / 18446744073709551616 > 8192) := by rw [muT_den]; show decide ((E.i 0).natAbs * (E.i 4).natAbs / _ > 8192) = _; rw [e0, e4]
  have m1 : (muT (.var 0) (.var 6)).den E = decide (a.natAbs * d.natAbs / 18446744073709551616 > 8192) := by rw [muT_den]; show decide ((E.i 0).natAbs * (E.i 6).natAbs / _ > 8192) = _; rw [e0, e6]
  have m2 : (muT (.var 2) (.var 4)).den E = decide (b.natAbs * c.natAbs / 18446744073709551616 > 8192) := by rw [muT_den]; show decide ((E.i 2).natAbs * (E.i 4).natAbs / _ > 8192) = _; rw [e2, e4]
  have m3 : (muT (.var 2) (.var 6)).den E = decide (b.natAbs * d.natAbs / 18446744073709551616 > 8192) := by rw [muT_den]; show decide ((E.i 2).natAbs * (E.i 6).natAbs / _ > 8192) = _; rw [e2, e6]
  obtain ⟨l1, l2, l3, l4⟩ := mulLo_le a b c d
  obtain ⟨u1, u2, u3, u4⟩ := le_mulHi a b c d
  by_cases hs : ¬ a.natAbs * c.natAbs / 18446744073709551616 > 8192 ∧ ¬ a.natAbs * d.natAbs / 18446744073709551616 > 8192 ∧ ¬ b.natAbs * c.natAbs / 18446744073709551616 > 8192 ∧ ¬ b.natAbs * d.natAbs / 18446744073709551616 > 8192
  · obtain ⟨s0, s1, s2, s3⟩ := hs
    have i0 := small_in s0
    have i1 := small_in s1
    have i2 := small_in s2
    have i3 := small_in s3
    have f0 : (fl16T pr0).den E = fl16 (a * c) := by rw [fl16T_den]; show fl16 (E.i 0 * E.i 4) = _; rw [e0, e4]
    have f1 : (fl16T pr1).den E = fl16 (a * d) := by rw [fl16T_den]; show fl16 (E.i 0 * E.i 6) = _; rw [e0, e6]
    have f2 : (fl16T pr2).den E = fl16 (b * c) := by rw [fl16T_den]; show fl16 (E.i 2 * E.i 4) = _; rw [e2, e4]
    have f3 : (fl16T pr3).den E = fl16 (b * d) := by rw [fl16T_den]; show fl16 (E.i 2 * E.i 6) = _; rw [e2, e6]
    have c0 : (ceiT pr0).den E = cl16 (a * c) := by rw [ceiT_den]; show cl16 (E.i 0 * E.i 4) = _; rw [e0, e4]
    have c1 : (ceiT pr1).den E = cl16 (a * d) := by rw [ceiT_den]; show cl16 (E.i 0 * E.i 6) = _; rw [e0, e6]
    have c2 : (ceiT pr2).den E = cl16 (b * c) := by rw [ceiT_den]; show cl16 (E.i 2 * E.i 4) = _; rw [e2, e4]
    have c3 : (ceiT pr3).den E = cl16 (b * d) := by rw [ceiT_den]; show cl16 (E.i 2 * E.i 6) = _; rw [e2, e6]
    have mn : ∀ x y : IT, (IT.a2 12 x y).den E = min (x.den E) (y.den E) := fun x y => by
      show (if y.den E < x.den E then y.den E else x.den E) = _
      split <;> omega
    have mx : ∀ x y : IT, (IT.a2 13 x y).den E = max (x.den E) (y.den E) := fun x y => by
      show (if y.den E > x.den E then y.den E else x.den E) = _
      split <;> omega
    refine ex_calls (E := E) (C := cMp) cMp_ok (asm_app (asm_c (by rw [m0, decide_eq_false s0]) <| asm_c (by rw [m1, decide_eq_false s1]) <| asm_c (by rw [m2, decide_eq_false s2]) <| asm_c (by rw [m3, decide_eq_false s3]) no_asm) hV) Tryz.func193 (by decide +kernel) pmul_walk ?_ ?_ (by decide +kernel) (args := [aIv 0, aIv 2]) rfl (fun _ => trivial) w _ rfl hv
    · unfold pmLo
      rw [mn, mn, mn, mn, f0, f1, f2, f3]
      show min (min (min (min (9223372036854775807 : Int) _) _) _) _ = _
      unfold mulLo
      omega
    · unfold pmHi
      rw [mx, mx, mx, mx, c0, c1, c2, c3]
      show max (max (max (max (-9223372036854775808 : Int) _) _) _) _ = _
      unfold mulHi
      omega
  · have hno : mulI a b c d = none := by
      refine prI_neg ?_
      unfold Prp
      by_cases s0 : a.natAbs * c.natAbs / 18446744073709551616 > 8192
      · have := big_out s0; omega
      by_cases s1 : a.natAbs * d.natAbs / 18446744073709551616 > 8192
      · have := big_out s1; omega
      by_cases s2 : b.natAbs * c.natAbs / 18446744073709551616 > 8192
      · have := big_out s2; omega
      by_cases s3 : b.natAbs * d.natAbs / 18446744073709551616 > 8192
      · have := big_out s3; omega
      · exact absurd ⟨s0, s1, s2, s3⟩ hs
    rw [hno]
    refine no_calls (E := E) (C := cMp) cMp_ok (asm_app (asm_c m0 <| asm_c m1 <| asm_c m2 <| asm_c m3 no_asm) hV) Tryz.func193 (by decide +kernel) (pmul_no _ _ _ _ ?_) (by decide +kernel) rfl (fun _ => trivial) w _ rfl hv
    rw [← Bool.decide_or, ← Bool.decide_or, ← Bool.decide_or, decide_eq_true_iff]
    omega
end Go.Proofs.YtifeacfljfmnpaaGreat
end

section
set_option maxRecDepth 100000
namespace Go.Proofs.YtifeacfljfmnpaaGreat
open Go.RowKit
def isIv (x y : IT) : Tree → Bool
  | .leaf [(true, [.n .i64 a, .n .i64 b]), (false, [.b (.lit true)])] => a.beq x && b.beq y
  | .leaf _ => false
  | .ite _ t e => isIv x y t && isIv x y e
theorem isIv_pick {E : Env} {x y : IT} : ∀ {T : Tree}, isIv x y T = true → T.pick E = ivL x y := by
  intro T
  induction T with
  | leaf l =>
    intro h
    unfold isIv at h
    split at h
    · rename_i a b e
      injection e with e
      subst e
      rw [Bool.and_eq_true] at h
      rw [IT.eq_of_beq h.1, IT.eq_of_beq h.2]
      rfl
    · cases h
    · rename_i e; cases e
  | ite c t e iht ihe =>
    intro h
    simp only [isIv, Bool.and_eq_true] at h
    simp only [Tree.pick]
    split
    · exact iht h.1
    · exact ihe h.2
def isNo : Tree → Bool
  | .leaf [(true, [.n .i64 (.lit 0), .n .i64 (.lit 0)]), (false, [.b (.lit false)])] => true
  | .leaf _ => false
  | .ite _ t e => isNo t && isNo e
theorem isNo_pick {E : Env} : ∀ {T : Tree}, isNo T = true → T.pick E = noL := by
  intro T
  induction T with
  | leaf l =>
    intro h
    unfold isNo at h
    split at h
    · rename_i e
      cases e
      rfl
    · cases h
    · rename_i e
      cases e
  | ite c t e iht ihe =>
    intro h
    simp only [isNo, Bool.and_eq_true] at h
    simp only [Tree.pick]
    split
    · exact iht h.1
    · exact ihe h.2
end Go.Proofs.YtifeacfljfmnpaaGreat
end

section
set_option maxRecDepth 100000
namespace Go.Proofs.YtifeacfljfmnpaaGreat
open Go.RowKit
def pG1 (G : Asm) (a b : IT) : Bool := (exT a b).ev G == some true
def pG (G : Asm) (a b : IT) : Bool := pG1 G a b || (match a, b with | .a1 0 b', .a1 0 a' => pG1 G a' b' | _, _ => false)
theorem pG1_spec {E : Env} {G : Asm} (hG : G.holds E) {a b : IT} (h : pG1 G a b = true) : Prp (a.den E) (b.den E) := by
  have := BT.ev_spec hG (beq_iff_eq.1 h)
  rw [exT_den] at this
  exact prpB_iff.1 this
theorem pG_spec {E : Env} {G : Asm} (hG : G.holds E) {a b : IT} (h : pG G a b = true) : Prp (a.den E) (b.den E) := by
  unfold pG at h
  rw [Bool.or_eq_true] at h
  rcases h with h | h
  · exact pG1_spec hG h
  · split at h
    · rename_i a' b'
      obtain ⟨h1, h2, h3⟩ := pG1_spec hG h
      show Prp (-_) (-_)
      unfold Prp
      omega
    · cases h
def kI2 (lo hi : IT → IT → IT → IT → IT) : Con
  | [.val true [.n .i64 a, .n .i64 b], .val true [.n .i64 c, .n .i64 d]], G => if pG G a b && pG G c d then kEx (lo a b c d) (hi a b c d) G else none
  | _, _ => none
def nI2 (lo hi : IT → IT → IT → IT → IT) : List AV → Asm → Option BT
  | [.val true [.n .i64 a, .n .i64 b], .val true [.n .i64 c, .n .i64 d]], _ => some (exT (lo a b c d) (hi a b c d))
  | _, _ => none
theorem kI2_ok {E : Env} {lo hi : IT → IT → IT → IT → IT} {L H : Int → Int → Int → Int → Int} (hL : ∀ a b c d, (lo a b c d).den E = L (a.den E) (b.den E) (c.den E) (d.den E)) (hH : ∀ a b c d, (hi a b c d).den E = H (a.den E) (b.den E) (c.den E) (d.den E)) {f : Nat}
    (hc : ∀ (w : World) (a b c d : Int), Prp a b → Prp c d → Calls Tryz.prog f #[.agg #[.int .i64 a, .int .i64 b], .agg #[.int .i64 c, .int .i64 d]] w (RetIv (prI (L a b c d) (H a b c d)) w)) (hb : ∃ fn, Tryz.prog.funcs[f]? = some fn ∧ fn.name ≠ "runtime.NumGoroutine" ∧ fn.body.isNone = false) : ConOK Tryz.prog E f (kI2 lo hi) := by
  refine ⟨?_, ?_, hb⟩
  · intro args G r h hG β w vs hv hlen
    unfold kI2 at h
    split at h
    · rename_i a b c d
      split at h
      · rename_i hm
        rw [Bool.and_eq_true] at hm
        obtain ⟨v, u, rfl, h1, h2⟩ := args2 hv hlen
        rw [show v = _ from agg_out h1, show u = _ from agg_out h2]
        refine (hc w _ _ _ _ (pG_spec hG hm.1) (pG_spec hG hm.2)).mono ?_
        rintro e w' ⟨rfl, ex⟩
        refine ⟨_, rfl, ?_, ex⟩
        rw [← hL, ← hH]
        exact kEx_holds hG h
      · cases h
    · cases h
  · intro args G r h
    unfold kI2 at h
    split at h
    · split at h
      · exact kEx_nptr h
      · cases h
    · cases h
def muLo (a b c d : IT) : IT := .a2 12 (.a2 12 (fl16T (.a2 2 a c)) (fl16T (.a2 2 a d))) (.a2 12 (fl16T (.a2 2 b c)) (fl16T (.a2 2 b d)))
def muHi (a b c d : IT) : IT := .a2 13 (.a2 13 (ceiT (.a2 2 a c)) (ceiT (.a2 2 a d))) (.a2 13 (ceiT (.a2 2 b c)) (ceiT (.a2 2 b d)))
theorem min_den {E : Env} (x y : IT) : (IT.a2 12 x y).den E = min (x.den E) (y.den E) := by
  show (if y.den E < x.den E then y.den E else x.den E) = _
  split <;> omega
theorem max_den {E : Env} (x y : IT) : (IT.a2 13 x y).den E = max (x.den E) (y.den E) := by
  show (if y.den E > x.den E then y.den E else x.den E) = _
  split <;> omega
theorem muLo_den {E : Env} (a b c d : IT) : (muLo a b c d).den E = mulLo (a.den E) (b.den E) (c.den E) (d.den E) := by
  unfold muLo
  rw [min_den, min_den, min_den, fl16T_den, fl16T_den, fl16T_den, fl16T_den]
  rfl
theorem muHi_den {E : Env} (a b c d : IT) : (muHi a b c d).den E = mulHi (a.den E) (b.den E) (c.den E) (d.den E) := by
  unfold muHi
  rw [max_den, max_den, max_den, ceiT_den, ceiT_den, ceiT_den, ceiT_den]
  rfl
def adLo (a _ c _ : IT) : IT := .a2 0 a c
def adHi (_ b _ d : IT) : IT := .a2 0 b d
def sqLoT (a : IT) : IT := sqfT (.a2 13 (.lit 0) a)
def sqHiT (b : IT) : IT := .a2 0 (sqfT b) (.a2 3 (.a2 2 b (.lit 65536)) (.a2 2 (sqfT b) (sqfT b)))
def kSqV : Con
  | [.val true [.n .i64 a, .n .i64 b]], G => if pG G a b then
      match (BT.lt b (.lit 0)).ev G with
      | some true => some tNo
      | some false => kEx (sqLoT a) (sqHiT b) G
      | none => none
    else none
  | _, _ => none
def nSqV : List AV → Asm → Option BT
  | [.val true [.n .i64 a, .n .i64 b]], G => match (BT.lt b (.lit 0)).ev G with
    | some _ => some (exT (sqLoT a) (sqHiT b))
    | none => some (.lt b (.lit 0))
  | _, _ => none
theorem kSqV_ok {E : Env} {f : Nat} (hc : ∀ (w : World) (x y : Int), Prp x y → Calls Tryz.prog f #[.agg #[.int .i64 x, .int .i64 y]] w (RetIv (sqrI x y) w)) (hb : ∃ fn, Tryz.prog.funcs[f]? = some fn ∧ fn.name ≠ "runtime.NumGoroutine" ∧ fn.body.isNone = false) : ConOK Tryz.prog E f kSqV := by
  refine ⟨?_, ?_, hb⟩
  · intro args G r h hG β w vs hv hlen
    unfold kSqV at h
    split at h
    · rename_i a b
      split at h
      · rename_i hm
        have hp := pG_spec hG hm
        obtain ⟨v, rfl, h1⟩ := args1 hv hlen
        rw [show v = _ from agg_out h1]
        refine (hc w _ _ hp).mono ?_
        rintro e w' ⟨rfl, ex⟩
        refine ⟨_, rfl, ?_, ex⟩
        unfold sqrI
        split at h
        · rename_i he
          have : b.den E < 0 := of_decide_eq_true (BT.ev_spec hG he)
          injection h with h
          subst h
          rw [if_pos this]
          exact tNo_holds
        · rename_i he
          have hn : ¬ b.den E < 0 := of_decide_eq_false (BT.ev_spec hG he)
          rw [if_neg hn]
          have k := kEx_holds (β := β) (w := w') hG h
          obtain ⟨o1, o2, o3, o4, o5, o6, o7⟩ := sq_order hp (by omega)
          have d1 : (sqLoT a).den E = sqLo (a.den E) := by
            show isq ((if a.den E > 0 then a.den E else 0) * 65536) = _
            rfl
          have d2 : (sqHiT b).den E = sqHi (b.den E) := rfl
          rw [d1, d2, prI_pos ⟨by omega, by omega, by omega⟩] at k
          exact k
        · cases h
      · cases h
    · cases h
  · intro args G r h
    unfold kSqV at h
    split at h
    · split at h
      · split at h
        · injection h with h; subst h; intro x off e; cases e
        · exact kEx_nptr h
        · cases h
      · cases h
    · cases h
def kNegI : Con
  | [.val true [.n .i64 a, .n .i64 b]], G => if pG G a b then some (.val true [.n .i64 (.a1 0 b), .n .i64 (.a1 0 a)]) else none
  | _, _ => none
theorem neg_walkP : funE (cfgOf []) Tryz.f200 [] [aIv 0] = some (.leaf [(true, [.n .i64 (.a1 20 (.a2 1 (.lit 0) (.var 2))), .n .i64 (.a1 20 (.a2 1 (.lit 0) (.var 0)))])]) := by kernel_rfl
theorem neg_gen {f : Nat} {fn : Func} (hf : Tryz.prog.funcs[f]? = some fn) (h4 : fn.results.toList.length ≤ 4) (h1 : 1 ≤ fn.ntmps) (hT : funE (cfgOf []) fn [] [aIv 0] = some (.leaf [(true, [.n .i64 (.a1 20 (.a2 1 (.lit 0) (.var 2))), .n .i64 (.a1 20 (.a2 1 (.lit 0) (.var 0)))])])) (w : World) (x y : Int) (hp : Prp x y) : Calls Tryz.prog f #[.agg #[.int .i64 x, .int .i64 y]] w fun e w' => e = .returned (.agg #[.int .i64 (-y), .int .i64 (-x)]) ∧ Ext w w' := by
  obtain ⟨E, hE⟩ : ∃ E, E = qE [(x : Rat), (y : Rat)] := ⟨_, rfl⟩
  have e0 : E.i 0 = x := by rw [hE]; exact qE_int (i := 0) rfl
  have e2 : E.i 2 = y := by rw [hE]; exact qE_int (i := 1) rfl
  obtain ⟨p1, p2, p3⟩ := hp
  refine (fun_leaf (E := E) (C := cfgOf []) (cfg_ok .nil) no_asm hf h4 hT h1 rfl (fun _ => trivial) w [.agg #[.int .i64 x, .int .i64 y]] rfl (one_arg rfl rfl fun β => by rw [hE]; exact aIv_holds (i := 0) rfl rfl)).mono ?_
  rintro e w' ⟨β, v, rfl, hh, ex⟩
  have := agg_out hh
  rw [this]
  refine ⟨?_, ex⟩
  have a1 : (IT.a1 20 (.a2 1 (.lit 0) (.var 2))).den E = -y := by
    show IntKind.i64.wrap (0 - E.i 2) = _
    rw [e2, IntWalk.i64_in _ (by omega)]; omega
  have a2 : (IT.a1 20 (.a2 1 (.lit 0) (.var 0))).den E = -x := by
    show IntKind.i64.wrap (0 - E.i 0) = _
    rw [e0, IntWalk.i64_in _ (by omega)]; omega
  rw [a1, a2]
theorem kNegI_ok {E : Env} {f : Nat} (hc : ∀ (w : World) (x y : Int), Prp x y → Calls Tryz.prog f #[.agg #[.int .i64 x, .int .i64 y]] w fun e w' => e = .returned (.agg #[.int .i64 (-y), .int .i64 (-x)]) ∧ Ext w w') (hb : ∃ fn, Tryz.prog.funcs[f]? = some fn ∧ fn.name ≠ "runtime.NumGoroutine" ∧ fn.body.isNone = false) : ConOK Tryz.prog E f kNegI := by
  refine ⟨?_, ?_, hb⟩
  · intro args G r h hG β w vs hv hlen
    unfold kNegI at h
    split at h
    · rename_i a b
      split at h
      · rename_i hm
        injection h with h
        subst h
        obtain ⟨v, rfl, h1⟩ := args1 hv hlen
        rw [show v = _ from agg_out h1]
        refine (hc w _ _ (pG_spec hG hm)).mono ?_
        rintro e w' ⟨rfl, ex⟩
        exact ⟨_, rfl, ⟨[_, _], rfl, [_], _, rfl, rfl, [_], [], rfl, rfl, rfl⟩, ex⟩
      · cases h
    · cases h
  · intro args G r h x off
    unfold kNegI at h
    split at h
    · split at h
      · injection h with h; subst h; intro e; cases e
      · cases h
    · cases h
end Go.Proofs.YtifeacfljfmnpaaGreat
end

section
set_option maxRecDepth 100000
namespace Go.Proofs.YtifeacfljfmnpaaGreat
open Go.RowKit
def cfgAr (C : Cfg) (l : List (TypeId × Nat × TypeId)) : Cfg := { C with arr := fun t => match findR l t with | some e => some e | none => C.arr t }
theorem cfgAr_ok {E : Env} {C : Cfg} {l : List (TypeId × Nat × TypeId)} (h : CfgOK Tryz.prog E C) (hl : ArrOK Tryz.prog l) : CfgOK Tryz.prog E (cfgAr C l) := by
  refine ⟨h.zero, h.ag, h.fld, h.flds, h.bool, h.row, ?_, h.calls, h.nptr, h.body, h.slc, h.strT, h.cnv, h.apd, h.eq2⟩
  intro t n e ht
  simp only [cfgAr] at ht
  split at ht
  · rename_i e' he
    injection ht with ht
    subst ht
    exact hl.all _ (findR_spec he)
  · exact h.arr t n e ht
end Go.Proofs.YtifeacfljfmnpaaGreat
end

section
set_option maxRecDepth 100000
namespace Go.Proofs.YtifeacfljfmnpaaGreat
open Go.RowKit
end Go.Proofs.YtifeacfljfmnpaaGreat
end

section
set_option maxRecDepth 100000
namespace Go.Proofs.YtifeacfljfmnpaaGreat
open Go.RowKit
end Go.Proofs.YtifeacfljfmnpaaGreat
end

section
set_option maxRecDepth 100000
namespace Go.Proofs.YtifeacfljfmnpaaGreat
open Go.RowKit
def bools : List Bool := [true, false]
theorem bools_mem (b : Bool) : b ∈ bools := by cases b <;> decide
theorem sqLoT_den {E : Env} {t : IT} {x : Int} (h : t.den E = x) : (sqLoT t).den E = sqLo x := by
  subst h; rfl
theorem sqHiT_den {E : Env} {t : IT} {x : Int} (h : t.den E = x) : (sqHiT t).den E = sqHi x := by
  subst h; rfl
end Go.Proofs.YtifeacfljfmnpaaGreat
end

section
set_option maxRecDepth 100000
namespace Go.Proofs.YtifeacfljfmnpaaGreat
open Go.RowKit
end Go.Proofs.YtifeacfljfmnpaaGreat
end

section
set_option maxRecDepth 100000
namespace Go.Proofs.YtifeacfljfmnpaaGreat
open Go.RowKit
end Go.Proofs.YtifeacfljfmnpaaGreat
end

section
set_option maxRecDepth 100000
namespace Go.Proofs.YtifeacfljfmnpaaGreat
open Go.RowKit
end Go.Proofs.YtifeacfljfmnpaaGreat
end

section
set_option maxRecDepth 100000
namespace Go.Proofs.YtifeacfljfmnpaaGreat
open Go.RowKit
def flipAt (ts : Asm) (i : Nat) : Asm := ts.take i ++ ((ts.drop i).take 1).map fun p => (p.1, !p.2)
theorem first_bad {E : Env} : ∀ (ts : Asm), ts.holds E ∨ ∃ i, i < ts.length ∧ (flipAt ts i).holds E
  | [] => .inl no_asm
  | p :: ts => by
    by_cases h : p.1.den E = p.2
    · rcases first_bad (E := E) ts with k | ⟨i, hi, k⟩
      · refine .inl (asm_c (t := p.1) (b := p.2) h k)
      · refine .inr ⟨i + 1, by simpa using hi, ?_⟩
        exact asm_c (t := p.1) (b := p.2) h k
    · refine .inr ⟨0, by simp, ?_⟩
      refine asm_c (t := p.1) (b := !p.2) ?_ no_asm
      cases h1 : p.1.den E <;> cases h2 : p.2 <;> simp_all
theorem sgQ'_num (a : Rat) : sgQ' a = cmpZ a.num 0 := by
  unfold sgQ'
  split
  · rename_i h
    rw [cmpZ_gt (num_pos' h)]
  · split
    · rename_i h
      subst h; rfl
    · rename_i h1 h2
      have : a.num < 0 := by
        have h3 : ¬ 0 ≤ a.num := fun k => by
          have := Rat.num_nonneg.1 k
          grind
        omega
      rw [cmpZ_lt this]
def sgI (i : Nat) : IT := .a2 3 (.var i) (.lit 0)
def qI (i : Nat) : IT2 := (.var i, .var (i + 1))
def sgnG (x y : IT) : Nat → Asm
  | 0 => [(.lt (.lit 0) x, true)]
  | 1 => [(.lt (.lit 0) x, false), (.lt y (.lit 0), true)]
  | 2 => [(.lt (.lit 0) x, false), (.lt y (.lit 0), false), (.and (.eq x (.lit 0)) (.eq y (.lit 0)), true)]
  | _ => [(.lt (.lit 0) x, false), (.lt y (.lit 0), false), (.and (.eq x (.lit 0)) (.eq y (.lit 0)), false)]
def sgnN : Nat → Int
  | 0 => 1
  | 1 => -1
  | _ => 0
theorem sgnG_ok {E : Env} {x y : IT} {a b : Int} (hx : x.den E = a) (hy : y.den E = b) : ∃ n, n < 4 ∧ (sgnG x y n).holds E ∧ (n < 3 → ivSg a b = some (sgnN n)) := by
  subst hx hy
  by_cases h1 : 0 < x.den E
  · exact ⟨0, by omega, lt_t h1 no_asm, fun _ => if_pos h1⟩
  · by_cases h2 : y.den E < 0
    · exact ⟨1, by omega, lt_f h1 <| lt_t h2 no_asm, fun _ => by unfold ivSg; rw [if_neg h1, if_pos h2]; rfl⟩
    · by_cases h3 : x.den E = 0 ∧ y.den E = 0
      · refine ⟨2, by omega, lt_f h1 <| lt_f h2 <| asm_c ?_ no_asm, fun _ => by unfold ivSg; rw [if_neg h1, if_neg h2, if_pos h3]; rfl⟩
        show (x.den E == 0 && y.den E == 0) = true
        rw [h3.1, h3.2]; rfl
      · refine ⟨3, by omega, lt_f h1 <| lt_f h2 <| asm_c ?_ no_asm, fun h => by omega⟩
        show (x.den E == 0 && y.den E == 0) = false
        rw [Bool.eq_false_iff]
        intro k
        rw [Bool.and_eq_true, beq_iff_eq, beq_iff_eq] at k
        exact h3 k
end Go.Proofs.YtifeacfljfmnpaaGreat
end

section
set_option maxRecDepth 100000
namespace Go.Proofs.YtifeacfljfmnpaaGreat
open Go.RowKit
theorem root_in {a b c : Rat} {m : Sq} (hc : 0 ≤ c) (hm : IsRt c m) (hC : 0 ≤ clR c) : IvIn (flR a + mulLo (flR b) (clR b) (sqLo (flR c)) (sqHi (clR c))) (clR a + mulHi (flR b) (clR b) (sqLo (flR c)) (sqHi (clR c))) fun k => a + b * m k := by
  have hs : IvIn (sqLo (flR c)) (sqHi (clR c)) m := by
    obtain ⟨h1, h2⟩ := sqLo_spec (flR c)
    obtain ⟨h3, h4⟩ := sqHi_spec hC
    exact IvIn.sqrt hc hm (IvIn.const c) h1 h2 h3 h4
  exact (IvIn.const a).add ((IvIn.const b).mul hs)
end Go.Proofs.YtifeacfljfmnpaaGreat
end

section
set_option maxRecDepth 100000
namespace Go.Proofs.YtifeacfljfmnpaaGreat
open Go.RowKit
def rawC : Nat → Nat → List Chunk
  | _, 0 => []
  | i, n + 1 => .raw i :: .raw (i + 1) :: rawC (i + 2) n
def intC (k : Nat) : Nat → Nat → List Chunk
  | _, 0 => []
  | i, n + 1 => .int (.var i) k :: .int (.var (i + 1)) k :: intC k (i + 2) n
def sgQT (A : IT2) : IT := .a2 3 A.1 (.lit 0)
def qL (q : IT2) : IT := frLo q.1 q.2
def qH (q : IT2) : IT := frHi q.1 q.2
theorem qL_den {E : Env} {q : IT2} {a : Rat} (h : RepQ E q a) : (qL q).den E = flR a := by
  show dq (q.1.den E * 65536) (q.2.den E) = _
  rw [h.1, h.2]; exact flR_eq a
theorem qH_den {E : Env} {q : IT2} {a : Rat} (h : RepQ E q a) : (qH q).den E = clR a := by
  show -dq (-(q.1.den E * 65536)) (q.2.den E) = _
  rw [h.1, h.2]; exact clR_eq a
def rbL (b c : IT2) : IT := muLo (qL b) (qH b) (sqLoT (qL c)) (sqHiT (qH c))
def rbH (b c : IT2) : IT := muHi (qL b) (qH b) (sqLoT (qL c)) (sqHiT (qH c))
def rtL (z : Bool) (a b c : IT2) : IT := if z then qL a else .a2 0 (qL a) (rbL b c)
def rtH (z : Bool) (a b c : IT2) : IT := if z then qH a else .a2 0 (qH a) (rbH b c)
def tsRt (z : Bool) (a b c : IT2) : Asm := (exT (qL a) (qH a), true) :: if z then [] else [(.lt (sgQT c) (.lit 0), false), (exT (qL c) (qH c), true), (.lt (qH c) (.lit 0), false), (exT (sqLoT (qL c)) (sqHiT (qH c)), true), (exT (qL b) (qH b), true), (exT (rbL b c) (rbH b c), true), (exT (rtL false a b c) (rtH false a b c), true)]
def rtLv (z : Bool) (a b c : Rat) : Int := if z then flR a else flR a + mulLo (flR b) (clR b) (sqLo (flR c)) (sqHi (clR c))
def rtHv (z : Bool) (a b c : Rat) : Int := if z then clR a else clR a + mulHi (flR b) (clR b) (sqLo (flR c)) (sqHi (clR c))
theorem rtL_den {E : Env} {A B C : IT2} {a b c : Rat} (z : Bool) (ha : RepQ E A a) (hb : RepQ E B b) (hc : RepQ E C c) : (rtL z A B C).den E = rtLv z a b c := by
  cases z
  · show (qL A).den E + (rbL B C).den E = _
    unfold rbL
    rw [muLo_den, qL_den ha, qL_den hb, qH_den hb, sqLoT_den (qL_den hc), sqHiT_den (qH_den hc)]; rfl
  · exact qL_den ha
theorem rtH_den {E : Env} {A B C : IT2} {a b c : Rat} (z : Bool) (ha : RepQ E A a) (hb : RepQ E B b) (hc : RepQ E C c) : (rtH z A B C).den E = rtHv z a b c := by
  cases z
  · show (qH A).den E + (rbH B C).den E = _
    unfold rbH
    rw [muHi_den, qH_den ha, qL_den hb, qH_den hb, sqLoT_den (qL_den hc), sqHiT_den (qH_den hc)]; rfl
  · exact qH_den ha
theorem clR_nonneg {c : Rat} (h : 0 ≤ c) : 0 ≤ clR c := by
  have h1 := Rat.floor_le (-(c * 65536))
  unfold clR
  have : ((-(c * 65536)).floor : Rat) ≤ ((0 : Int) : Rat) := by
    have : ((0 : Int) : Rat) = 0 := rfl
    grind
  have := Rat.intCast_le_intCast.1 this
  omega
theorem rt_in {a b c : Rat} {m : Sq} (z : Bool) (hz : z = true → b = 0) (hc : 0 ≤ c) (hm : IsRt c m) : IvIn (rtLv z a b c) (rtHv z a b c) fun k => a + b * m k := by
  cases z
  · exact root_in hc hm (clR_nonneg hc)
  · have := IvIn.const a
    intro k
    have h := this k
    rw [hz rfl]
    show (flR a : Rat) ≤ (a + 0 * m k) * 65536 ∧ (a + 0 * m k) * 65536 ≤ (clR a : Rat)
    constructor <;> grind
end Go.Proofs.YtifeacfljfmnpaaGreat
end

section
set_option maxRecDepth 100000
namespace Go.Proofs.YtifeacfljfmnpaaGreat
open Go.RowKit
theorem sgQ_eq (a : Rat) : sgQ' a = sgQ a := sgQ'_num a
theorem num_absQ {s : Rat} (h : s.num < 0) : (s.num.natAbs : Int) = (-s).num ∧ (s.den : Int) = ((-s).den : Int) := ⟨by rw [Rat.neg_num]; omega, by rw [Rat.neg_den]⟩
theorem cmp_sq (a s : Rat) (h0 : 0 ≤ s.num) : cmpZ (a.num * a.num * (s.den : Int)) ((s.num.natAbs : Int) * ((a.den : Int) * (a.den : Int))) = sgQ' (a * a - s) := by
  have da : (0 : Rat) < (a.den : Rat) := by
    have : ((0 : Nat) : Rat) < (a.den : Rat) := Rat.natCast_lt_natCast.2 a.den_pos
    exact this
  have ds : (0 : Rat) < (s.den : Rat) := by
    have : ((0 : Nat) : Rat) < (s.den : Rat) := Rat.natCast_lt_natCast.2 s.den_pos
    exact this
  have ea := mul_den' a
  have es := mul_den' s
  have e : (s.num.natAbs : Int) = s.num := by omega
  rw [e]
  have key : ((a.num * a.num * (s.den : Int) - s.num * ((a.den : Int) * (a.den : Int)) : Int) : Rat) = ((a.den : Rat) * (a.den : Rat) * (s.den : Rat)) * (a * a - s) := by
    rw [Rat.intCast_sub, Rat.intCast_mul, Rat.intCast_mul, Rat.intCast_mul, Rat.intCast_mul, ← ea, ← es]
    have e1 : (((a.den : Int)) : Rat) = (a.den : Rat) := rfl
    have e2 : (((s.den : Int)) : Rat) = (s.den : Rat) := rfl
    rw [e1, e2]
    grind
  have hk : (0 : Rat) < (a.den : Rat) * (a.den : Rat) * (s.den : Rat) := Rat.mul_pos (Rat.mul_pos da da) ds
  rw [← sgQ'_scale (a := a * a - s) hk, ← key, sgQ'_num, Rat.num_intCast]
  rcases cmpZ_cases (a.num * a.num * (s.den : Int)) (s.num * ((a.den : Int) * (a.den : Int))) with ⟨c, e⟩ | ⟨c, e⟩ | ⟨c, e⟩ <;> rw [e]
  · rw [cmpZ_lt (by omega)]
  · rw [cmpZ_eq (by omega)]
  · rw [cmpZ_gt (by omega)]
theorem sgS_sg2 {a b m : Rat} (hm : 0 ≤ m) : sgS a (ratF 7 b m) = sg2 a b m := by
  have hs : ∃ s : Rat, s = ratF 7 b m ∧ sgQ' s = sgQ' b * sgQ' m ∧ (s.num < 0 → -s = b * b * m) ∧ (0 ≤ s.num → s = b * b * m) := by
    refine ⟨_, rfl, ?_, ?_, ?_⟩
    · show sgQ' (if b.num < 0 then -(b * b * m) else b * b * m) = _
      by_cases h : b.num < 0
      · rw [if_pos h]
        have hb : sgQ' b = -1 := by rw [sgQ'_num, cmpZ_lt h]
        have e : -(b * b * m) = (-(b * b)) * m := by grind
        have : sgQ' (-(b * b)) = -1 := by
          have h1 : b < 0 := by
            have : ¬ 0 ≤ b := fun k => by have := Rat.num_nonneg.2 k; omega
            grind
          have := Rat.mul_pos (a := -b) (b := -b) (by grind) (by grind)
          exact sgQ'_neg (by grind)
        rw [e, sgQ'_mul, this, hb]
      · rw [if_neg h, sgQ'_mul, sgQ'_mul]
        have : sgQ' b = 1 ∨ sgQ' b = 0 := by
          rw [sgQ'_num]
          rcases cmpZ_cases b.num 0 with ⟨c, e⟩ | ⟨c, e⟩ | ⟨c, e⟩ <;> rw [e] <;> omega
        rcases this with e | e <;> rw [e] <;> rfl
    · show (if b.num < 0 then -(b * b * m) else b * b * m).num < 0 → -(if b.num < 0 then -(b * b * m) else b * b * m) = _
      intro h
      by_cases k : b.num < 0
      · rw [if_pos k]; grind
      · rw [if_neg k] at h
        have h1 : 0 ≤ b := Rat.num_nonneg.1 (by omega)
        have := Rat.num_nonneg.2 (Rat.mul_nonneg (Rat.mul_nonneg h1 h1) hm)
        omega
    · show 0 ≤ (if b.num < 0 then -(b * b * m) else b * b * m).num → (if b.num < 0 then -(b * b * m) else b * b * m) = _
      intro h
      by_cases k : b.num < 0
      · rw [if_pos k] at h ⊢
        have h0 := Rat.num_nonneg.1 h
        have h1 : b < 0 := by
          have : ¬ 0 ≤ b := fun k => by have := Rat.num_nonneg.2 k; omega
          grind
        have := Rat.mul_nonneg (Rat.mul_nonneg (a := -b) (b := -b) (by grind) (by grind)) hm
        grind
      · rw [if_neg k]
  obtain ⟨s, e, hsg, hn, hp⟩ := hs
  rw [← e]
  unfold sgS sg2 sumSg
  rw [← hsg]
  have ea : cmpZ a.num 0 = sgQ' a := (sgQ'_num a).symm
  have es : cmpZ s.num 0 = sgQ' s := (sgQ'_num s).symm
  rw [ea, es]
  by_cases h0 : s.num = 0
  · have z : sgQ' s = 0 := by rw [sgQ'_num, h0]; rfl
    rw [if_pos h0, z]
    by_cases ha : sgQ' a = 0
    · rw [if_pos ha, ha]
    · rw [if_neg ha, if_pos rfl]
  · have zs : sgQ' s ≠ 0 := by
      rw [sgQ'_num]
      rcases cmpZ_cases s.num 0 with ⟨c, e⟩ | ⟨c, e⟩ | ⟨c, e⟩ <;> rw [e] <;> omega
    rw [if_neg h0]
    have hc : cmpZ (a.num * a.num * (s.den : Int)) ((s.num.natAbs : Int) * ((a.den : Int) * (a.den : Int))) = sgQ' (a * a - b * b * m) := by
      rcases Int.lt_or_le s.num 0 with k | k
      · obtain ⟨e1, e2⟩ := num_absQ k
        have k' : 0 ≤ (-s).num := by rw [Rat.neg_num]; omega
        have := cmp_sq a (-s) k'
        rw [← e2, show ((-s).num.natAbs : Int) = (s.num.natAbs : Int) by rw [Rat.neg_num]; omega, hn k] at this
        exact this
      · rw [cmp_sq a s k, hp k]
    rw [hc]
    rcases sgQ'_range a with ra | ra | ra <;> rcases sgQ'_range s with rs | rs | rs <;> rw [ra, rs] <;> first | exact absurd rs zs | rfl | (simp)
def psT (a b x y : IT) : IT := .a2 3 (qop 8 (izT' a) (qop 7 (izT' b) (x, y))).1 (.lit 0)
where izT' (t : IT) : IT2 := (t, .lit 1)
theorem psT_den {E : Env} {a b x y : IT} {p q : Int} {m : Rat} (ha : a.den E = p) (hb : b.den E = q) (hm : RepQ E (x, y) m) (h0 : 0 ≤ m) : (psT a b x y).den E = sg2 (p : Rat) (q : Rat) m := by
  have r : RepQ E (qop 8 (psT.izT' a) (qop 7 (psT.izT' b) (x, y))) (ratF 8 (p : Rat) (ratF 7 (q : Rat) m)) := rep_op (f := 8) (by omega) ⟨ha, rfl⟩ (rep_op (f := 7) (by omega) ⟨hb, rfl⟩ hm)
  show cmpZ ((qop 8 (psT.izT' a) (qop 7 (psT.izT' b) (x, y))).1.den E) 0 = _
  rw [r.1]
  show cmpZ ((sgS (p : Rat) (ratF 7 (q : Rat) m) : Int) : Rat).num 0 = _
  rw [Rat.num_intCast, sgS_sg2 h0]
  rcases sg2_range (p : Rat) (q : Rat) m with e | e | e <;> rw [e] <;> rfl
end Go.Proofs.YtifeacfljfmnpaaGreat
end

section
set_option maxRecDepth 100000
namespace Go.Proofs.YtifeacfljfmnpaaGreat
open Go.RowKit
noncomputable def tabPq : List (Nat × Con) := (126, kSg) :: tabInt
theorem tabPq_ok {E : Env} : TabOK Tryz.prog E tabPq := .cons kSg_ok tabInt_ok
noncomputable def cPq0 : Cfg := cfgOf tabPq
theorem cPq0_ok {E : Env} : CfgOK Tryz.prog E cPq0 := cfg_ok tabPq_ok
noncomputable def cPqg : Cfg := cfgI cPq0 cPq0 [(198, Tryz.f198), (77, Tryz.f77)]
theorem cPqg_ok {E : Env} : CfgOK Tryz.prog E cPqg := cfgI_ok mixed cPq0_ok cPq0_ok (fun _ => trivial) (.cons Tryz.func198 (by decide +kernel) (by kernel_rfl) <| .cons Tryz.func77 (by decide +kernel) (by kernel_rfl) .nil)
def aPr : AV := .val true [.int (.var 0) 30000, .int (.var 2) 30000, .int (.var 4) 100, .int (.var 5) 100]
def prA : IT := .a2 3 (.var 0) (.lit 0)
def prB : IT := .a2 2 (.a2 3 (.var 2) (.lit 0)) (.a2 3 (.var 4) (.lit 0))
def prC : IT := .a2 2 prA (.a2 3 (.a2 2 (.a2 2 (.var 0) (.var 0)) (.var 5)) (.a2 2 (.a2 2 (.var 2) (.var 2)) (.var 4)))
def prS : IT := .a2 13 (.lit (-1)) (.a2 12 (.lit 1) (.a1 20 (.a2 0 prA prB)))
def prTree : Tree := .ite (.le (.lit 0) (.a1 20 (.a2 2 prA prB))) (.leaf [(false, [.n .i64 prS])]) (.leaf [(false, [.n .i64 prC])])
theorem pr_walk : funE cPqg Tryz.f197 [] [aPr] = some prTree := by kernel_rfl
theorem wrap_tiny {x : Int} (h : -10 ≤ x ∧ x ≤ 10) : IntKind.i64.wrap x = x := IntWalk.i64_in _ (by omega)
theorem num_int (p : Int) : cmpZ p 0 = sgQ' (p : Rat) := by rw [sgQ'_num, Rat.num_intCast]
theorem pr_pick {p q : Int} {m : Rat} : ∃ z : Int, (∃ t, prTree.pick (qE [(p : Rat), (q : Rat), m]) = [(false, [.n .i64 t])] ∧ t.den (qE [(p : Rat), (q : Rat), m]) = z) ∧ z = sg2 (p : Rat) (q : Rat) m := by
  obtain ⟨E, hE⟩ : ∃ E, E = qE [(p : Rat), (q : Rat), m] := ⟨_, rfl⟩
  rw [← hE]
  have e0 : E.i 0 = p := by rw [hE]; exact qE_int (i := 0) rfl
  have e2 : E.i 2 = q := by rw [hE]; exact qE_int (i := 1) rfl
  have e4 : E.i 4 = m.num := by rw [hE]; rfl
  have e5 : E.i 5 = (m.den : Int) := by rw [hE]; rfl
  have dA : prA.den E = sgQ' (p : Rat) := by show cmpZ (E.i 0) 0 = _; rw [e0, num_int]
  have dB : prB.den E = sgQ' (q : Rat) * sgQ' m := by show cmpZ (E.i 2) 0 * cmpZ (E.i 4) 0 = _; rw [e2, e4, num_int, ← sgQ'_num]
  have dm : (0 : Rat) < (m.den : Rat) := by
    have : ((0 : Nat) : Rat) < (m.den : Rat) := Rat.natCast_lt_natCast.2 m.den_pos
    exact this
  have dC : prC.den E = sgQ' (p : Rat) * sgQ' ((p : Rat) * p - (q : Rat) * q * m) := by
    show prA.den E * cmpZ (E.i 0 * E.i 0 * E.i 5) (E.i 2 * E.i 2 * E.i 4) = _
    rw [dA, e0, e2, e4, e5]
    congr 1
    have key : ((p * p * (m.den : Int) - q * q * m.num : Int) : Rat) = (m.den : Rat) * ((p : Rat) * p - (q : Rat) * q * m) := by
      rw [Rat.intCast_sub, Rat.intCast_mul, Rat.intCast_mul, Rat.intCast_mul, Rat.intCast_mul, ← mul_den' m]
      have e1 : (((m.den : Int)) : Rat) = (m.den : Rat) := rfl
      rw [e1]
      grind
    rw [← sgQ'_scale (a := (p : Rat) * p - (q : Rat) * q * m) dm, ← key, sgQ'_num, Rat.num_intCast]
    rcases cmpZ_cases (p * p * (m.den : Int)) (q * q * m.num) with ⟨c, e⟩ | ⟨c, e⟩ | ⟨c, e⟩ <;> rw [e]
    · rw [cmpZ_lt (by omega)]
    · rw [cmpZ_eq (by omega)]
    · rw [cmpZ_gt (by omega)]
  have rs := sgQ'_range (p : Rat)
  have rt := mul_range (sgQ'_range (q : Rat)) (sgQ'_range m)
  have rd := sgQ'_range ((p : Rat) * p - (q : Rat) * q * m)
  have hc : (BT.le (.lit 0) (.a1 20 (.a2 2 prA prB))).den E = decide (0 ≤ IntKind.i64.wrap (prA.den E * prB.den E)) := rfl
  have dS : prS.den E = (if (-1 : Int) < (if IntKind.i64.wrap (prA.den E + prB.den E) < 1 then IntKind.i64.wrap (prA.den E + prB.den E) else 1) then (if IntKind.i64.wrap (prA.den E + prB.den E) < 1 then IntKind.i64.wrap (prA.den E + prB.den E) else 1) else -1) := rfl
  rw [dA, dB] at hc dS
  unfold sg2 sumSg
  generalize sgQ' (p : Rat) = s at *
  generalize sgQ' (q : Rat) * sgQ' m = t at *
  generalize sgQ' ((p : Rat) * p - (q : Rat) * q * m) = d at *
  have hw1 : IntKind.i64.wrap (s * t) = s * t := wrap_tiny (by rcases rs with rfl | rfl | rfl <;> rcases rt with rfl | rfl | rfl <;> omega)
  have hw2 : IntKind.i64.wrap (s + t) = s + t := wrap_tiny (by omega)
  rw [hw1] at hc
  rw [hw2] at dS
  by_cases h : 0 ≤ s * t
  · refine ⟨prS.den E, ⟨prS, ?_, rfl⟩, ?_⟩
    · unfold prTree
      simp only [Tree.pick]
      rw [if_pos (by rw [hc, decide_eq_true h])]
    · rw [dS]
      rcases rs with rfl | rfl | rfl <;> rcases rt with rfl | rfl | rfl <;> first | rfl | exact absurd h (by decide)
  · refine ⟨prC.den E, ⟨prC, ?_, rfl⟩, ?_⟩
    · unfold prTree
      simp only [Tree.pick]
      rw [if_neg (by rw [hc, decide_eq_false h]; decide)]
    · rw [dC]
      rcases rs with rfl | rfl | rfl <;> rcases rt with rfl | rfl | rfl <;> first | rfl | exact absurd (by decide) h
theorem int_to {E E' : Env} {w : World} {s t : IT} {l m : Nat} {vs : List Value} (h : (Chunk.int s l).holds E w vs) (e : t.den E' = s.den E) (k : l ≤ m) : (Chunk.int t m).holds E' w vs := by
  obtain ⟨x, y, rfl, h1, h2⟩ := h
  exact ⟨x, y, rfl, by rw [e]; exact h1, by rw [e]; exact h2.mono k⟩
def kPs : Con
  | [.val true [.int a l, .int b m, .int x k, .int y j]], G => if canon x y && (decide (l ≤ 30000) && (decide (m ≤ 30000) && (decide (k ≤ 100) && (decide (j ≤ 100) && G.find (.lt (.a2 3 x (.lit 0)) (.lit 0)) == some false)))) then some (.val false [.n .i64 (psT a b x y)]) else none
  | _, _ => none
theorem kPs_ok {E : Env} (hE : QEnv E) : ConOK Tryz.prog E 197 kPs := by
  refine ⟨?_, ?_, ⟨_, Tryz.func197, by decide +kernel, by kernel_rfl⟩⟩
  · intro args G r h hG β w vs hv hlen
    unfold kPs at h
    split at h
    · rename_i a l b m x k y j
      split at h
      · rename_i hcd
        simp only [Bool.and_eq_true, decide_eq_true_iff, beq_iff_eq] at hcd
        obtain ⟨c1, b1, b2, b3, b4, hg⟩ := hcd
        injection h with h
        subst h
        obtain ⟨v, rfl, us, rfl, l1, r1, rfl, h1, l2, r2, rfl, h2, l3, r3, rfl, h3, l4, r4, rfl, h4, h5⟩ := args1 hv hlen
        obtain ⟨q, f1, f2⟩ := canon_spec hE c1
        have h0 : 0 ≤ q := by
          have := of_decide_eq_false (Asm.find_spec hG hg)
          have e : (IT.a2 3 x (.lit 0)).den E = cmpZ (x.den E) 0 := rfl
          rw [e, f1] at this
          exact Rat.num_nonneg.1 (by
            refine Decidable.byContradiction fun k => this ?_
            rw [cmpZ_lt (by omega)]
            show (-1 : Int) < 0
            omega)
        have hr : RepQ E (x, y) q := ⟨f1, f2⟩
        obtain ⟨z, ⟨t, ht, hz⟩, hz2⟩ := pr_pick (p := a.den E) (q := b.den E) (m := q)
        refine (fun_sound mixed cPqg_ok no_asm Tryz.func197 (by decide +kernel) pr_walk (by decide +kernel) rfl w [_] rfl (E := qE [((a.den E : Int) : Rat), ((b.den E : Int) : Rat), q]) (fun i u hu => ?_)).mono ?_
        · match i, hu with
          | 0, hu =>
            injection hu with hu
            subst hu
            refine ⟨fun _ => 0, _, rfl, _, rfl, l1, _, rfl, int_to h1 (qE_int (i := 0) rfl) b1, l2, _, rfl, int_to h2 (qE_int (i := 1) rfl) b2, l3, _, rfl, int_to h3 f1.symm b3, l4, _, rfl, int_to h4 f2.symm b4, h5⟩
        · rintro e w' ⟨β', u, rfl, hh, ex⟩
          rw [ht] at hh
          have hu : u = .int .i64 z := by rw [← hz]; exact one_num.1 hh
          refine ⟨_, rfl, one_num.2 ?_, ex⟩
          rw [hu, hz2, psT_den rfl rfl hr h0]
      · cases h
    · cases h
  · intro args G r h x off
    unfold kPs at h
    split at h
    · split at h
      · injection h with h; subst h; intro e; cases e
      · cases h
    · cases h
def lcmT (x y : IT) : IT := .a2 2 (.a2 4 x (.a2 6 x y)) y
def kCm : Con
  | [.val true [.int x l], .val true [.int y m]], G => if decide (l ≤ 10000) && (decide (m ≤ 10000) && (G.find (.lt (.lit 0) x) == some true && G.find (.lt (.lit 0) y) == some true)) then some (.val true [.int (lcmT x y) (l + m)]) else none
  | _, _ => none
theorem cm_walk : funE cPq0 Tryz.f195 [] [.val true [.int (.var 0) 10000], .val true [.int (.var 1) 10000]] = some (.ite (.eq (.a2 3 (.var 0) (.var 1)) (.lit 0)) (.leaf [(true, [.int (.var 0) 10000])]) (.leaf [(true, [.int (lcmT (.var 0) (.var 1)) 20000])])) := by kernel_rfl
end Go.Proofs.YtifeacfljfmnpaaGreat
end

section
set_option maxRecDepth 100000
namespace Go.Proofs.YtifeacfljfmnpaaGreat
open Go.RowKit
theorem lcm_eq (p q : Nat) : p / Nat.gcd p q * q = Nat.lcm p q := by
  unfold Nat.lcm
  rw [Nat.div_mul_right_comm (Nat.gcd_dvd_left p q)]
theorem lcmT_den {E : Env} {x y : IT} {p q : Nat} (hx : x.den E = (p : Int)) (hy : y.den E = (q : Int)) (hp : 0 < p) : (lcmT x y).den E = (Nat.lcm p q : Int) := by
  show dq (x.den E) ((Nat.gcd (x.den E).natAbs (y.den E).natAbs : Nat) : Int) * y.den E = _
  rw [hx, hy, Int.natAbs_natCast, Int.natAbs_natCast]
  have hg : 0 < Nat.gcd p q := Nat.gcd_pos_of_pos_left _ hp
  rw [dq_pos (by omega), ← Int.natCast_ediv, ← Int.natCast_mul, lcm_eq]
theorem kCm_ok {E : Env} : ConOK Tryz.prog E 195 kCm := by
  refine ⟨?_, ?_, ⟨_, Tryz.func195, by decide +kernel, by kernel_rfl⟩⟩
  · intro args G r h hG β w vs hv hlen
    unfold kCm at h
    split at h
    · rename_i x l y m
      split at h
      · rename_i hcd
        simp only [Bool.and_eq_true, decide_eq_true_iff, beq_iff_eq] at hcd
        obtain ⟨b1, b2, g1, g2⟩ := hcd
        injection h with h
        subst h
        have p1 : 0 < x.den E := of_decide_eq_true (Asm.find_spec hG g1)
        have p2 : 0 < y.den E := of_decide_eq_true (Asm.find_spec hG g2)
        obtain ⟨v, u, rfl, h1, h2⟩ := args2 hv hlen
        obtain ⟨i1, l1⟩ := one_int.1 h1
        obtain ⟨i2, l2⟩ := one_int.1 h2
        obtain ⟨p, hp⟩ : ∃ p : Nat, x.den E = (p : Int) := ⟨(x.den E).toNat, by omega⟩
        obtain ⟨q, hq⟩ : ∃ q : Nat, y.den E = (q : Int) := ⟨(y.den E).toNat, by omega⟩
        have dL := lcmT_den hp hq (by omega)
        have hlim : Lim (l + m) ((lcmT x y).den E) := by
          show Lim (l + m) (dq (x.den E) ((Nat.gcd (x.den E).natAbs (y.den E).natAbs : Nat) : Int) * y.den E)
          exact (l1.natAbs_le (dq_abs _ _)).mul l2
        rw [hp] at i1 l1
        rw [hq] at i2 l2
        refine (fun_sound mixed cPq0_ok no_asm Tryz.func195 (by decide +kernel) cm_walk (by decide +kernel) rfl w [v, u] rfl (E := eN [(p : Int), (q : Int)]) (fun i s hs => ?_)).mono ?_
        · match i, hs with
          | 0, hs => injection hs with hs; subst hs; exact ⟨fun _ => 0, v, rfl, one_int.2 ⟨i1, l1.mono b1⟩⟩
          | 1, hs => injection hs with hs; subst hs; exact ⟨fun _ => 0, u, rfl, one_int.2 ⟨i2, l2.mono b2⟩⟩
        · rintro e w' ⟨β', z, rfl, hh, ex⟩
          refine ⟨z, rfl, one_int.2 ⟨?_, hlim⟩, ex⟩
          rw [dL]
          have hc : (BT.eq (.a2 3 (.var 0) (.var 1)) (.lit 0)).den (eN [(p : Int), (q : Int)]) = decide (p = q) := by
            show (cmpZ (p : Int) (q : Int) == 0) = _
            rw [Bool.eq_iff_iff, beq_iff_eq, decide_eq_true_iff]
            rcases cmpZ_cases (p : Int) (q : Int) with ⟨c, e⟩ | ⟨c, e⟩ | ⟨c, e⟩ <;> rw [e] <;> omega
          simp only [Tree.pick] at hh
          by_cases hpq : p = q
          · rw [if_pos (by rw [hc, decide_eq_true hpq])] at hh
            have := (one_int.1 hh).1
            rw [← hpq, Nat.lcm_self]
            exact this
          · rw [if_neg (by rw [hc, decide_eq_false hpq]; decide)] at hh
            have := (one_int.1 hh).1
            rw [lcmT_den (E := eN [(p : Int), (q : Int)]) (x := .var 0) (y := .var 1) (p := p) (q := q) rfl rfl (by omega)] at this
            exact this
      · cases h
    · cases h
  · intro args G r h x off
    unfold kCm at h
    split at h
    · split at h
      · injection h with h; subst h; intro e; cases e
      · cases h
    · cases h
noncomputable def tabEx : List (Nat × Con) := (197, kPs) :: (195, kCm) :: tabPq
theorem tabEx_ok {E : Env} (hE : QEnv E) : TabOK Tryz.prog E tabEx := .cons (kPs_ok hE) <| .cons kCm_ok tabPq_ok
noncomputable def cEx0 : Cfg := cfgOf tabEx
theorem cEx0_ok {E : Env} (hE : QEnv E) : CfgOK Tryz.prog E cEx0 := cfg_ok (tabEx_ok hE)
noncomputable def cEx1 : Cfg := cfgI cEx0 cEx0 [(198, Tryz.f198), (77, Tryz.f77), (196, Tryz.f196)]
theorem cEx1_ok {E : Env} (hE : QEnv E) : CfgOK Tryz.prog E cEx1 := cfgI_ok mixed (cEx0_ok hE) (cEx0_ok hE) (fun _ => trivial) (.cons Tryz.func198 (by decide +kernel) (by kernel_rfl) <| .cons Tryz.func77 (by decide +kernel) (by kernel_rfl) <| .cons Tryz.func196 (by decide +kernel) (by kernel_rfl) .nil)
noncomputable def cEx2 : Cfg := cfgI cEx1 cEx1 [(239, Tryz.f239)]
theorem cEx2_ok {E : Env} (hE : QEnv E) : CfgOK Tryz.prog E cEx2 := cfgI_ok mixed (cEx1_ok hE) (cEx1_ok hE) (fun _ => trivial) (.cons Tryz.func239 (by decide +kernel) (by kernel_rfl) .nil)
noncomputable def cEx : Cfg := cfgI cEx2 cEx2 [(199, Tryz.f199)]
theorem cEx_ok {E : Env} (hE : QEnv E) : CfgOK Tryz.prog E cEx := cfgI_ok mixed (cEx2_ok hE) (cEx2_ok hE) (fun _ => trivial) (.cons Tryz.func199 (by decide +kernel) (by kernel_rfl) .nil)
def RatsQ (w : World) : List Value → List Rat → Prop
  | vs, [] => vs = []
  | vs, q :: l => ∃ x r, vs = x ++ r ∧ IsRat w (.agg x.toArray) q ∧ RatsQ w r l
def IsQs (w : World) (v : Value) (l : List Rat) : Prop := ∃ vs : List Value, v = .agg vs.toArray ∧ RatsQ w vs l
def LimQs (k : Nat) (l : List Rat) : Prop := ∀ q ∈ l, LimQ k q
theorem qs_chunks {E : Env} {w : World} {k : Nat} : ∀ (l : List Rat) (i : Nat) (vs : List Value), (∀ j q, l[j]? = some q → RepQ E (qI (i + 2 * j)) q) → (chunks E w (intC k i l.length) vs ↔ RatsQ w vs l ∧ LimQs k l)
  | [], _, vs, _ => ⟨fun h => ⟨h, fun q hq => by cases hq⟩, fun h => h.1⟩
  | q :: l, i, vs, e => by
    have e0 := e 0 q rfl
    rw [Nat.mul_zero, Nat.add_zero] at e0
    have ih := fun r => qs_chunks (E := E) (w := w) (k := k) l (i + 2) r (fun j p hj => by
      have := e (j + 1) p hj
      rwa [show i + 2 * (j + 1) = i + 2 + 2 * j by omega] at this)
    constructor
    · intro h
      obtain ⟨x, r, rfl, ⟨h1, h2, h3⟩, h4⟩ := (two_chunks e0).1 h
      obtain ⟨k1, k2⟩ := (ih r).1 h4
      exact ⟨⟨x, r, rfl, h1, k1⟩, fun p hp => by
        rcases List.mem_cons.1 hp with rfl | hp
        · exact ⟨h2, h3⟩
        · exact k2 p hp⟩
    · rintro ⟨⟨x, r, rfl, h1, k1⟩, k2⟩
      have := k2 q (by simp)
      exact (two_chunks e0).2 ⟨x, r, rfl, ⟨h1, this.1, this.2⟩, (ih r).2 ⟨k1, fun p hp => k2 p (List.mem_cons_of_mem _ hp)⟩⟩
def exL1 : IT := lcmT (.var 1) (.var 3)
def exL2 : IT := lcmT (.var 5) (.var 7)
def exL : IT := lcmT exL1 exL2
def enT (i : Nat) : IT := .a2 2 (.var i) (.a2 4 exL (.var (i + 1)))
def plT (a b : IT) : IT := .a2 0 (.a2 2 (.a2 2 a a) (.var 9)) (.a2 2 (.a2 2 b b) (.var 8))
def faT (a b : IT) : IT := .a2 2 (.a2 2 a b) (.var 9)
def ex3a : IT := .a2 1 (.a2 2 (plT (enT 0) (enT 2)) (.var 11)) (.a2 2 (plT (enT 4) (enT 6)) (.var 10))
def exF : IT := .a2 1 (.a2 2 (faT (enT 0) (enT 2)) (.var 11)) (.a2 2 (faT (enT 4) (enT 6)) (.var 10))
def exS1 : IT := psT (enT 0) (enT 2) (.var 8) (.var 9)
def exO : IT := .a2 2 (psT (enT 4) (enT 6) (.var 8) (.var 9)) (.a2 3 (.var 10) (.lit 0))
def exS3 : IT := psT ex3a (.a2 0 exF exF) (.var 8) (.var 9)
def exSum : IT := .a2 13 (.lit (-1)) (.a2 12 (.lit 1) (.a1 20 (.a2 0 exS1 exO)))
def exTree : Tree := .ite (.le (.lit 0) (.a1 20 (.a2 2 exS1 exO))) (.leaf [(false, [.n .i64 exSum])]) (.leaf [(false, [.n .i64 (.a2 2 exS1 exS3)])])
def gPos (t : IT) : BT × Bool := (.lt (.lit 0) t, true)
def exG : Asm := [gPos (.var 1), gPos (.var 3), gPos (.var 5), gPos (.var 7), gPos exL1, gPos exL2, (.lt (.a2 3 (.var 8) (.lit 0)) (.lit 0), false)]
def aQd : AV := .val true (intC 40 0 6)
theorem ex_walk : funE cEx Tryz.f140 exG [aQd] = some exTree := by kernel_rfl
end Go.Proofs.YtifeacfljfmnpaaGreat
end

section
set_option maxRecDepth 100000
namespace Go.Proofs.YtifeacfljfmnpaaGreat
open Go.RowKit
theorem den_cast (q : Rat) : (((q.den : Int)) : Rat) = (q.den : Rat) := rfl
theorem den_posQ (q : Rat) : (0 : Rat) < (q.den : Rat) := by
  have : ((0 : Nat) : Rat) < (q.den : Rat) := Rat.natCast_lt_natCast.2 q.den_pos
  exact this
theorem enT_den {E : Env} {i : Nat} {q : Rat} {L : Nat} (hq : RepQ E (qI i) q) (hL : exL.den E = (L : Int)) (hd : q.den ∣ L) : ((enT i).den E : Rat) = q * (L : Rat) := by
  have h1 : (enT i).den E = q.num * ((L / q.den : Nat) : Int) := by
    show E.i i * dq (exL.den E) (E.i (i + 1)) = _
    rw [show E.i i = q.num from hq.1, show E.i (i + 1) = (q.den : Int) from hq.2, hL, dq_pos (by have := q.den_pos; omega), ← Int.natCast_ediv]
  obtain ⟨k, hk⟩ := hd
  have h2 : L / q.den = k := by rw [hk, Nat.mul_div_cancel_left _ q.den_pos]
  rw [h1, h2, Rat.intCast_mul, ← mul_den' q]
  have e1 : (((k : Nat) : Int) : Rat) = (k : Rat) := rfl
  have e2 : (L : Rat) = (q.den : Rat) * (k : Rat) := by rw [hk, Rat.natCast_mul]
  rw [e1, e2]
  grind
theorem ex_pick {A B C D M N : Rat} (hM : 0 ≤ M) : ∃ t, exTree.pick (qE [A, B, C, D, M, N]) = [(false, [.n .i64 t])] ∧ t.den (qE [A, B, C, D, M, N]) = sg4 A B C D M N := by
  obtain ⟨E, hE⟩ : ∃ E, E = qE [A, B, C, D, M, N] := ⟨_, rfl⟩
  rw [← hE]
  have rA : RepQ E (qI 0) A := by rw [hE]; exact ⟨rfl, rfl⟩
  have rB : RepQ E (qI 2) B := by rw [hE]; exact ⟨rfl, rfl⟩
  have rC : RepQ E (qI 4) C := by rw [hE]; exact ⟨rfl, rfl⟩
  have rD : RepQ E (qI 6) D := by rw [hE]; exact ⟨rfl, rfl⟩
  have rM : RepQ E (qI 8) M := by rw [hE]; exact ⟨rfl, rfl⟩
  have rN : RepQ E (qI 10) N := by rw [hE]; exact ⟨rfl, rfl⟩
  have d1 : exL1.den E = (Nat.lcm A.den B.den : Int) := lcmT_den rA.2 rB.2 A.den_pos
  have d2 : exL2.den E = (Nat.lcm C.den D.den : Int) := lcmT_den rC.2 rD.2 C.den_pos
  have pos1 : 0 < Nat.lcm A.den B.den := Nat.lcm_pos A.den_pos B.den_pos
  have pos2 : 0 < Nat.lcm C.den D.den := Nat.lcm_pos C.den_pos D.den_pos
  obtain ⟨L, hLd⟩ : ∃ L, L = Nat.lcm (Nat.lcm A.den B.den) (Nat.lcm C.den D.den) := ⟨_, rfl⟩
  have dL : exL.den E = (L : Int) := by rw [hLd]; exact lcmT_den d1 d2 pos1
  have posL : 0 < L := by rw [hLd]; exact Nat.lcm_pos pos1 pos2
  have hLr : (0 : Rat) < (L : Rat) := by
    have : ((0 : Nat) : Rat) < (L : Rat) := Rat.natCast_lt_natCast.2 posL
    exact this
  have vA : A.den ∣ L := by rw [hLd]; exact Nat.dvd_trans (Nat.dvd_lcm_left _ _) (Nat.dvd_lcm_left _ _)
  have vB : B.den ∣ L := by rw [hLd]; exact Nat.dvd_trans (Nat.dvd_lcm_right _ _) (Nat.dvd_lcm_left _ _)
  have vC : C.den ∣ L := by rw [hLd]; exact Nat.dvd_trans (Nat.dvd_lcm_left _ _) (Nat.dvd_lcm_right _ _)
  have vD : D.den ∣ L := by rw [hLd]; exact Nat.dvd_trans (Nat.dvd_lcm_right _ _) (Nat.dvd_lcm_right _ _)
  have ea := enT_den rA dL vA
  have eb := enT_den rB dL vB
  have ec := enT_den rC dL vC
  have ed := enT_den rD dL vD
  have key := sg4_scaled (A := A) (B := B) (C := C) (D := D) (M := M) (N := N) (L := (L : Rat)) (mD := (M.den : Rat)) (nD := (N.den : Rat)) (mN := (M.num : Rat)) (nN := (N.num : Rat)) hLr (den_posQ M) (den_posQ N) ea eb ec ed (mul_den' M).symm (mul_den' N).symm
  have s1 : exS1.den E = sg2 ((enT 0).den E : Rat) ((enT 2).den E : Rat) M := psT_den rfl rfl rM hM
  have s2 : (psT (enT 4) (enT 6) (.var 8) (.var 9)).den E = sg2 ((enT 4).den E : Rat) ((enT 6).den E : Rat) M := psT_den rfl rfl rM hM
  have sN : (IT.a2 3 (.var 10) (.lit 0)).den E = sgQ' N := by rw [sgQ'_num, ← rN.1]; rfl
  have m9 : E.i 9 = (M.den : Int) := rM.2
  have m8 : E.i 8 = M.num := rM.1
  have n11 : E.i 11 = (N.den : Int) := rN.2
  have n10 : E.i 10 = N.num := rN.1
  have pl : ∀ a b : IT, ((plT a b).den E : Rat) = (a.den E : Rat) * (a.den E : Rat) * (M.den : Rat) + (b.den E : Rat) * (b.den E : Rat) * (M.num : Rat) := fun a b => by
    show ((a.den E * a.den E * E.i 9 + b.den E * b.den E * E.i 8 : Int) : Rat) = _
    rw [m9, m8, Rat.intCast_add, Rat.intCast_mul, Rat.intCast_mul, Rat.intCast_mul, Rat.intCast_mul, den_cast]
  have fa : ∀ a b : IT, ((faT a b).den E : Rat) = (a.den E : Rat) * (b.den E : Rat) * (M.den : Rat) := fun a b => by
    show ((a.den E * b.den E * E.i 9 : Int) : Rat) = _
    rw [m9, Rat.intCast_mul, Rat.intCast_mul, den_cast]
  have d3a : (ex3a.den E : Rat) = (plT (enT 0) (enT 2)).den E * (N.den : Rat) - (plT (enT 4) (enT 6)).den E * (N.num : Rat) := by
    show (((plT (enT 0) (enT 2)).den E * E.i 11 - (plT (enT 4) (enT 6)).den E * E.i 10 : Int) : Rat) = _
    rw [n11, n10, Rat.intCast_sub, Rat.intCast_mul, Rat.intCast_mul, den_cast]
  have dF : (exF.den E : Rat) = (faT (enT 0) (enT 2)).den E * (N.den : Rat) - (faT (enT 4) (enT 6)).den E * (N.num : Rat) := by
    show (((faT (enT 0) (enT 2)).den E * E.i 11 - (faT (enT 4) (enT 6)).den E * E.i 10 : Int) : Rat) = _
    rw [n11, n10, Rat.intCast_sub, Rat.intCast_mul, Rat.intCast_mul, den_cast]
  have dFF : (((IT.a2 0 exF exF).den E : Int) : Rat) = (exF.den E : Rat) + (exF.den E : Rat) := by
    show ((exF.den E + exF.den E : Int) : Rat) = _
    rw [Rat.intCast_add]
  have s3 : exS3.den E = sg2 (ex3a.den E : Rat) ((IT.a2 0 exF exF).den E : Rat) M := psT_den rfl rfl rM hM
  rw [d3a, dFF, dF, pl, pl, fa, fa] at s3
  have rs := sg2_range ((enT 0).den E : Rat) ((enT 2).den E : Rat) M
  have rt := mul_range (sg2_range ((enT 4).den E : Rat) ((enT 6).den E : Rat) M) (sgQ'_range N)
  have dO : exO.den E = sg2 ((enT 4).den E : Rat) ((enT 6).den E : Rat) M * sgQ' N := by
    show (psT (enT 4) (enT 6) (.var 8) (.var 9)).den E * (IT.a2 3 (.var 10) (.lit 0)).den E = _
    rw [s2, sN]
  have hc : (BT.le (.lit 0) (.a1 20 (.a2 2 exS1 exO))).den E = decide (0 ≤ IntKind.i64.wrap (exS1.den E * exO.den E)) := rfl
  have dS : exSum.den E = (if (-1 : Int) < (if IntKind.i64.wrap (exS1.den E + exO.den E) < 1 then IntKind.i64.wrap (exS1.den E + exO.den E) else 1) then (if IntKind.i64.wrap (exS1.den E + exO.den E) < 1 then IntKind.i64.wrap (exS1.den E + exO.den E) else 1) else -1) := rfl
  have dP : (IT.a2 2 exS1 exS3).den E = exS1.den E * exS3.den E := rfl
  rw [key]
  rw [s1, dO] at hc dS
  rw [s1, s3] at dP
  unfold sumSg
  generalize sg2 ((enT 0).den E : Rat) ((enT 2).den E : Rat) M = s at *
  generalize sg2 ((enT 4).den E : Rat) ((enT 6).den E : Rat) M * sgQ' N = t at *
  have hw1 : IntKind.i64.wrap (s * t) = s * t := wrap_tiny (by rcases rs with rfl | rfl | rfl <;> rcases rt with rfl | rfl | rfl <;> omega)
  have hw2 : IntKind.i64.wrap (s + t) = s + t := wrap_tiny (by omega)
  rw [hw1] at hc
  rw [hw2] at dS
  by_cases h : 0 ≤ s * t
  · refine ⟨exSum, ?_, ?_⟩
    · unfold exTree
      simp only [Tree.pick]
      rw [if_pos (by rw [hc, decide_eq_true h])]
    · rw [dS]
      rcases rs with rfl | rfl | rfl <;> rcases rt with rfl | rfl | rfl <;> first | rfl | exact absurd h (by decide)
  · refine ⟨.a2 2 exS1 exS3, ?_, ?_⟩
    · unfold exTree
      simp only [Tree.pick]
      rw [if_neg (by rw [hc, decide_eq_false h]; decide)]
    · rw [dP]
      rcases rs with rfl | rfl | rfl <;> rcases rt with rfl | rfl | rfl <;> first | rfl | exact absurd (by decide) h
def RetN (z : Int) (w : World) (e : Ending) (w' : World) : Prop := e = .returned (.int .i64 z) ∧ Ext w w'
theorem exactSign_calls (w : World) (v : Value) (A B C D M N : Rat) (h : IsQs w v [A, B, C, D, M, N]) (l : LimQs 40 [A, B, C, D, M, N]) (hM : 0 ≤ M) : Calls Tryz.prog 140 #[v] w (RetN (sg4 A B C D M N) w) := by
  obtain ⟨vs, rfl, hvs⟩ := h
  have hch : chunks (qE [A, B, C, D, M, N]) w (intC 40 0 6) vs := (qs_chunks [A, B, C, D, M, N] 0 vs (fun j q hj => by
    match j, hj with
    | 0, hj => injection hj with hj; subst hj; exact ⟨rfl, rfl⟩
    | 1, hj => injection hj with hj; subst hj; exact ⟨rfl, rfl⟩
    | 2, hj => injection hj with hj; subst hj; exact ⟨rfl, rfl⟩
    | 3, hj => injection hj with hj; subst hj; exact ⟨rfl, rfl⟩
    | 4, hj => injection hj with hj; subst hj; exact ⟨rfl, rfl⟩
    | 5, hj => injection hj with hj; subst hj; exact ⟨rfl, rfl⟩)).2 ⟨hvs, l⟩
  have hG : exG.holds (qE [A, B, C, D, M, N]) := by
    have p : ∀ q : Rat, 0 < (q.den : Int) := fun q => by have := q.den_pos; omega
    refine lt_t (p A) <| lt_t (p B) <| lt_t (p C) <| lt_t (p D) <| lt_t ?_ <| lt_t ?_ <| lt_f ?_ no_asm
    · rw [show exL1.den (qE [A, B, C, D, M, N]) = (Nat.lcm A.den B.den : Int) from lcmT_den rfl rfl A.den_pos]
      have := Nat.lcm_pos A.den_pos B.den_pos
      show (0 : Int) < _
      omega
    · rw [show exL2.den (qE [A, B, C, D, M, N]) = (Nat.lcm C.den D.den : Int) from lcmT_den rfl rfl C.den_pos]
      have := Nat.lcm_pos C.den_pos D.den_pos
      show (0 : Int) < _
      omega
    · show ¬ cmpZ M.num 0 < 0
      have := Rat.num_nonneg.2 hM
      intro k
      rcases cmpZ_cases M.num 0 with ⟨c, e⟩ | ⟨c, e⟩ | ⟨c, e⟩ <;> omega
  refine (fun_sound mixed (cEx_ok (qE_ok _)) hG Tryz.func140 (by decide +kernel) ex_walk (by decide +kernel) rfl w [.agg vs.toArray] rfl (fun i x hx => ?_)).mono ?_
  · match i, hx with
    | 0, hx => injection hx with hx; subst hx; exact ⟨fun _ => 0, _, rfl, vs, rfl, hch⟩
  · rintro e w' ⟨β, u, rfl, hh, ex⟩
    obtain ⟨t, ht, hd⟩ := ex_pick (A := A) (B := B) (C := C) (D := D) (M := M) (N := N) hM
    rw [ht] at hh
    have hu : u = .int .i64 (sg4 A B C D M N) := by rw [← hd]; exact one_num.1 hh
    rw [hu]
    exact ⟨rfl, ex⟩
end Go.Proofs.YtifeacfljfmnpaaGreat
end
