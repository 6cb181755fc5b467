/-
  Texts of this seat, joined.
-/
import Derived.Test.YtdleiiboffkidaaJ8
/- ---- Rte ---- -/
section
/-
  Sums, opposites, signs, roundings of roots.
-/
set_option maxRecDepth 100000
namespace Go.Proofs.Ytdleiiboffkidaa
open Go.RowKit

def RetR (w : World) (ok : Prop) (err : Int) (p q r : Rat) (e : Ending) (w' : World) : Prop :=
  (ok → ∃ x, e = .returned (.tuple #[x, .int .i64 0]) ∧ IsRoot w' x p q r ∧ Ext w w') ∧ (¬ ok → ∃ x, e = .returned (.tuple #[x, .int .i64 err]) ∧ Zero6 w' x ∧ Ext w w')
theorem ite_pick {E : Env} {b : BT} {t e : Tree} {p : Bool} (h : b.den E = p) : (Tree.ite b t e).pick E = if p then t.pick E else e.pick E := by
  simp only [Tree.pick, h]
def endP (A B C : IT2) : Tree := .ite (zt B) (lf2 A q0 q0 12001 3 3) (lf2 A B C 12001 12001 3000)
def endR (A B C : IT2) : Tree := .ite (zt B) (lf2 A q0 q0 12001 3 3) (.ite (zt C) (lf2 A q0 q0 12001 3 3) (lf2 A B C 12001 12001 3000))
theorem endP_out {E : Env} {β : Nat → Nat} {w : World} {v : Value} {A B C : IT2} {a b c : Rat} (hA : RepQ E A a) (hB : RepQ E B b) (hC : RepQ E C c) (h : (toAV ((endP A B C).pick E)).holds E β w v) : ∃ x, v = .tuple #[x, .int .i64 0] ∧ IsRoot w x a b (rC b c) := by
  unfold endP at h
  rw [ite_pick (zt_den hB)] at h
  by_cases hz : b = 0
  · rw [decide_eq_true hz, if_pos rfl] at h
    rw [hz, rC_zero]
    exact lf2_out hA rep_0 rep_0 h
  · rw [decide_eq_false hz, if_neg (by decide)] at h
    rw [rC_ne hz]
    exact lf2_out hA hB hC h
theorem endR_out {E : Env} {β : Nat → Nat} {w : World} {v : Value} {A B C : IT2} {a b c : Rat} (hA : RepQ E A a) (hB : RepQ E B b) (hC : RepQ E C c) (hz : b ≠ 0 → c ≠ 0) (h : (toAV ((endR A B C).pick E)).holds E β w v) : ∃ x, v = .tuple #[x, .int .i64 0] ∧ IsRoot w x a b (rC b c) := by
  unfold endR at h
  rw [ite_pick (zt_den hB), ite_pick (zt_den hC)] at h
  by_cases hb : b = 0
  · rw [decide_eq_true hb, if_pos rfl] at h
    rw [hb, rC_zero]
    exact lf2_out hA rep_0 rep_0 h
  · rw [decide_eq_false hb, if_neg (by decide), decide_eq_false (hz hb), if_neg (by decide)] at h
    rw [rC_ne hb]
    exact lf2_out hA hB hC h
def eqPT : BT := .eq (.a2 3 (.var 4) (.var 10)) (.lit 0)
def eqPT2 : BT := .eq (.a2 3 (.var 5) (.var 11)) (.lit 0)
theorem cmp0 (x y : Int) : (cmpZ x y == 0) = decide (x = y) := by
  rw [Bool.eq_iff_iff, beq_iff_eq, decide_eq_true_iff]
  rcases cmpZ_cases x y with ⟨h, e⟩ | ⟨h, e⟩ | ⟨h, e⟩ <;> rw [e] <;> omega
theorem rat_eq_parts {c c' : Rat} : c = c' ↔ c.num = c'.num ∧ (c.den : Int) = (c'.den : Int) := ⟨fun h => by subst h; exact ⟨rfl, rfl⟩, fun h => Rat.ext h.1 (by have := h.2; omega)⟩
/-- Two roots with a common radicand, or not, as either side tells. -/
def comP (x y : Tree) : Tree := .ite (zt (qv 1)) y (.ite (zt (qv 4)) x (.ite eqPT (.ite eqPT2 x (.leaf (bad6 1))) (.leaf (bad6 1))))
def comR (x y : Tree) : Tree := .ite (zt (qv 1)) y (.ite (zt (qv 4)) x (.ite (.eq (qcmp (qv 2) (qv 5)) (.lit 0)) x (.leaf (bad6 1))))
section
variable {a b c a' b' c' : Rat} {x y : Tree} {E : Env} {β : Nat → Nat} {w w' : World} {v : Value}
theorem rep6 : RepQ (qE [a, b, c, a', b', c']) (qv 0) a ∧ RepQ (qE [a, b, c, a', b', c']) (qv 1) b ∧ RepQ (qE [a, b, c, a', b', c']) (qv 2) c ∧ RepQ (qE [a, b, c, a', b', c']) (qv 3) a' ∧ RepQ (qE [a, b, c, a', b', c']) (qv 4) b' ∧ RepQ (qE [a, b, c, a', b', c']) (qv 5) c' :=
  ⟨rep_v (i := 0), rep_v (i := 1), rep_v (i := 2), rep_v (i := 3), rep_v (i := 4), rep_v (i := 5)⟩
theorem comP_out (h : (toAV ((comP x y).pick (qE [a, b, c, a', b', c']))).holds (qE [a, b, c, a', b', c']) β w' v) :
    (Ok b c b' c' ∧ ((b = 0 ∧ (toAV (y.pick (qE [a, b, c, a', b', c']))).holds (qE [a, b, c, a', b', c']) β w' v) ∨ (b ≠ 0 ∧ (toAV (x.pick (qE [a, b, c, a', b', c']))).holds (qE [a, b, c, a', b', c']) β w' v))) ∨ (¬ Ok b c b' c' ∧ ∃ z, v = .tuple #[z, .int .i64 1] ∧ Zero6 w' z) := by
  obtain ⟨ra, rb, rc, ra', rb', rc'⟩ := rep6 (a := a) (b := b) (c := c) (a' := a') (b' := b') (c' := c')
  have e1 : eqPT.den (qE [a, b, c, a', b', c']) = decide (c.num = c'.num) := cmp0 _ _
  have e2 : eqPT2.den (qE [a, b, c, a', b', c']) = decide ((c.den : Int) = (c'.den : Int)) := cmp0 _ _
  unfold comP at h
  rw [ite_pick (zt_den rb), ite_pick (zt_den rb'), ite_pick e1, ite_pick e2] at h
  unfold Ok
  by_cases hb : b = 0
  · rw [decide_eq_true hb, if_pos rfl] at h
    exact .inl ⟨.inl hb, .inl ⟨hb, h⟩⟩
  · rw [decide_eq_false hb, if_neg (by decide)] at h
    by_cases hb' : b' = 0
    · rw [decide_eq_true hb', if_pos rfl] at h
      exact .inl ⟨.inr (.inl hb'), .inr ⟨hb, h⟩⟩
    · rw [decide_eq_false hb', if_neg (by decide)] at h
      by_cases h1 : c.num = c'.num
      · rw [decide_eq_true h1, if_pos rfl] at h
        by_cases h2 : (c.den : Int) = (c'.den : Int)
        · rw [decide_eq_true h2, if_pos rfl] at h
          exact .inl ⟨.inr (.inr (rat_eq_parts.2 ⟨h1, h2⟩)), .inr ⟨hb, h⟩⟩
        · rw [decide_eq_false h2, if_neg (by decide)] at h
          refine .inr ⟨?_, bad6_out h⟩
          rintro (k | k | k)
          · exact hb k
          · exact hb' k
          · exact h2 (rat_eq_parts.1 k).2
      · rw [decide_eq_false h1, if_neg (by decide)] at h
        refine .inr ⟨?_, bad6_out h⟩
        rintro (k | k | k)
        · exact hb k
        · exact hb' k
        · exact h1 (rat_eq_parts.1 k).1
theorem comR_out (h : (toAV ((comR x y).pick (qE [a, b, c, a', b', c']))).holds (qE [a, b, c, a', b', c']) β w' v) :
    (Ok b c b' c' ∧ ((b = 0 ∧ (toAV (y.pick (qE [a, b, c, a', b', c']))).holds (qE [a, b, c, a', b', c']) β w' v) ∨ (b ≠ 0 ∧ (toAV (x.pick (qE [a, b, c, a', b', c']))).holds (qE [a, b, c, a', b', c']) β w' v))) ∨ (¬ Ok b c b' c' ∧ ∃ z, v = .tuple #[z, .int .i64 1] ∧ Zero6 w' z) := by
  obtain ⟨ra, rb, rc, ra', rb', rc'⟩ := rep6 (a := a) (b := b) (c := c) (a' := a') (b' := b') (c' := c')
  have e1 : (BT.eq (qcmp (qv 2) (qv 5)) (.lit 0)).den (qE [a, b, c, a', b', c']) = decide (c = c') := by
    show ((qcmp (qv 2) (qv 5)).den (qE [a, b, c, a', b', c']) == 0) = _
    rw [rep_cmp rc rc', Bool.eq_iff_iff, beq_iff_eq, decide_eq_true_iff]
    rcases sgQ_cases (c - c') with ⟨k, e⟩ | ⟨k, e⟩ | ⟨k, e⟩ <;> rw [e] <;> constructor <;> intro j <;> first | omega | grind
  unfold comR at h
  rw [ite_pick (zt_den rb), ite_pick (zt_den rb'), ite_pick e1] at h
  unfold Ok
  by_cases hb : b = 0
  · rw [decide_eq_true hb, if_pos rfl] at h
    exact .inl ⟨.inl hb, .inl ⟨hb, h⟩⟩
  · rw [decide_eq_false hb, if_neg (by decide)] at h
    by_cases hb' : b' = 0
    · rw [decide_eq_true hb', if_pos rfl] at h
      exact .inl ⟨.inr (.inl hb'), .inr ⟨hb, h⟩⟩
    · rw [decide_eq_false hb', if_neg (by decide)] at h
      by_cases h1 : c = c'
      · rw [decide_eq_true h1, if_pos rfl] at h
        exact .inl ⟨.inr (.inr h1), .inr ⟨hb, h⟩⟩
      · rw [decide_eq_false h1, if_neg (by decide)] at h
        refine .inr ⟨?_, bad6_out h⟩
        rintro (k | k | k)
        · exact hb k
        · exact hb' k
        · exact h1 k
end
theorem RetR.of {w : World} {ok : Prop} {err : Int} {p q r : Rat} {v : Value} {w' : World} (ex : Ext w w') (h : (ok ∧ ∃ x, v = .tuple #[x, .int .i64 0] ∧ IsRoot w' x p q r) ∨ (¬ ok ∧ ∃ z, v = .tuple #[z, .int .i64 err] ∧ Zero6 w' z)) : RetR w ok err p q r (.returned v) w' := by
  rcases h with ⟨h, x, rfl, hx⟩ | ⟨h, x, rfl, hx⟩
  · exact ⟨fun _ => ⟨x, rfl, hx, ex⟩, fun k => absurd h k⟩
  · exact ⟨fun k => absurd k h, fun _ => ⟨x, rfl, hx, ex⟩⟩
section
variable {w : World} {v u : Value} {a b c a' b' c' k : Rat}
theorem Rd.c0 (R : Rd b c) (h : b ≠ 0) : c ≠ 0 := by
  rcases R with ⟨rfl, _⟩ | ⟨_, h1, _⟩
  · exact absurd rfl h
  · grind
/-- Signs. -/
def lfN (t : IT) : Tree := .leaf [(false, [.n .i64 t])]
theorem lfN_out {E : Env} {β : Nat → Nat} {w : World} {v : Value} {t : IT} (h : (toAV ((lfN t).pick E)).holds E β w v) : v = .int .i64 (t.den E) := one_num.1 h
def sgt (p : IT2) : IT := .a2 3 p.1 (.lit 0)
theorem sgt_den {E : Env} {p : IT2} {q : Rat} (h : RepQ E p q) : (sgt p).den E = sgQ q := by
  show cmpZ (p.1.den E) 0 = _
  rw [h.1]; rfl
def sgL : IT := .a2 2 (.a2 2 (.a2 2 (.var 0) (.var 3)) (.a2 2 (.var 0) (.var 3))) (.var 5)
def sgR : IT := .a2 2 (.a2 2 (.a2 2 (.var 2) (.var 1)) (.a2 2 (.var 2) (.var 1))) (.var 4)
theorem sgLR (a b c : Rat) : cmpZ (sgL.den (qE [a, b, c])) (sgR.den (qE [a, b, c])) = sgQ (nrm a b c) := by
  show cmpZ (a.num * (b.den : Int) * (a.num * (b.den : Int)) * (c.den : Int)) (b.num * (a.den : Int) * (b.num * (a.den : Int)) * c.num) = _
  have num_eq : ∀ q : Rat, q * ((q.den : Int) : Rat) = (q.num : Rat) := by
    intro q
    have h := Rat.num_divInt_den q
    have hd : ((q.den : Int) : Rat) ≠ 0 := fun e => by
      have := Rat.intCast_eq_zero_iff.1 e
      have := q.den_pos
      omega
    have h2 : q = (q.num : Rat) / ((q.den : Int) : Rat) := by rw [← Rat.divInt_eq_div, h]
    have := Rat.div_mul_cancel (a := (q.num : Rat)) hd
    rw [← h2] at this
    exact this
  have pos : ∀ q : Rat, (0 : Rat) < ((q.den : Int) : Rat) := fun q => Rat.intCast_pos.2 (by have := q.den_pos; omega)
  have ea := num_eq a
  have eb := num_eq b
  have ec := num_eq c
  have pa := pos a
  have pb := pos b
  have pc := pos c
  have cast : ∀ x y : Int, cmpZ x y = sgQ ((x : Rat) - (y : Rat)) := by
    intro x y
    rw [← cmpQ_sub, Rat.num_intCast, Rat.den_intCast, Rat.num_intCast, Rat.den_intCast]
    have e1 : ((1 : Nat) : Int) = 1 := rfl
    rw [e1, Int.mul_one, Int.mul_one]
  rw [cast]
  simp only [castQ_mul]
  generalize ((a.den : Int) : Rat) = p at *
  generalize ((b.den : Int) : Rat) = q at *
  generalize ((c.den : Int) : Rat) = r at *
  rw [← ea, ← eb, ← ec]
  have e2 : a * p * q * (a * p * q) * r - b * q * p * (b * q * p) * (c * r) = nrm a b c * (p * q * (p * q) * r) := by unfold nrm; grind
  have hp := Rat.mul_pos (Rat.mul_pos (Rat.mul_pos pa pb) (Rat.mul_pos pa pb)) pc
  rw [e2, sgQ_mul, sgQ_pos hp, Int.mul_one]
end
end Go.Proofs.Ytdleiiboffkidaa
end

/- ---- Rtf ---- -/
section
/-
  What the walker knows of roots: multiples, opposites, sums, signs.
-/
set_option maxRecDepth 100000
namespace Go.Proofs.Ytdleiiboffkidaa
open Go.RowKit

/-- A known radicand, where it is asked for. -/
def rdA (rd : Bool) (G : Asm) (B C : IT2) : Bool := !rd || (rdT B C).ev G == some true
theorem rdA_spec {E : Env} {G : Asm} (hG : G.holds E) {B C : IT2} {b c : Rat} (hB : RepQ E B b) (hC : RepQ E C c) {rd : Bool} (h : rdA rd G B C = true) : rd = true → Rd b c := by
  intro hr
  subst hr
  exact rdT_spec hG hB hC (by simpa [rdA] using h)
theorem dst2 {E : Env} {β : Nat → Nat} {w : World} {x y : AV} {vs : List Value} (hv : ∀ (i : Nat) (z : AV), [x, y][i]? = some z → ∃ v, vs[i]? = some v ∧ z.holds E β w v) (hl : vs.length = [x, y].length) : ∃ v u, vs = [v, u] ∧ x.holds E β w v ∧ y.holds E β w u := args2 hv hl
def kRSc (rd : Bool) : Con
  | [x, y], G => match rtOf x, qOf y with
    | some ((A, B, C), m), some (K, j) => if rdA rd G B C && (decide (m ≤ 20000) && decide (j ≤ 20000)) then some (.val true (rt (qop 2 A K) (qop 2 B K) (qop 5 (qop 2 B K) C) (4 * max m j + 1))) else none
    | _, _ => none
  | _, _ => none
theorem kRSc_ok {E : Env} (hE : QEnv E) {f : Nat} {rd : Bool} (hc : ∀ (w : World) (v u : Value) (a b c k : Rat), (rd = true → Rd b c) → IsRoot w v a b c → IsRat w u k → LimR 20000 a b c → LimQ 20000 k → Calls Try.prog f #[v, u] w (Ret (fun x w' => IsRoot w' x (a * k) (b * k) (rC (b * k) c)) w))
    (hb : ∃ fn, Try.prog.funcs[f]? = some fn ∧ fn.name ≠ "runtime.NumGoroutine" ∧ fn.body.isNone = false) : ConOK Try.prog E f (kRSc rd) := by
  refine ⟨?_, ?_, hb⟩
  · intro args G r h hG β w vs hv hlen
    unfold kRSc at h
    split at h
    · split at h
      · rename_i x y A B C m K j hx hy
        split at h
        · rename_i hcd
          simp only [Bool.and_eq_true, decide_eq_true_iff] at hcd
          injection h with h
          subst h
          obtain ⟨v, u, rfl, h1, h2⟩ := args2 hv hlen
          obtain ⟨a, b, c, ra, rb, rc, ir, lr⟩ := rtOf_spec hE hx h1
          obtain ⟨k, rk, iq, lq⟩ := qOf_spec hE hy h2
          refine (hc w v u a b c k (rdA_spec hG rb rc hcd.1) ir iq (lr.mono hcd.2.1) (lq.mono hcd.2.2)).mono ?_
          rintro e w' ⟨x', rfl, hr, ex⟩
          have lr' := lr.mono (Nat.le_max_left m j)
          have lq' := lq.mono (Nat.le_max_right m j)
          exact ⟨x', rfl, (one_rt (rep_mul ra rk) (rep_mul rb rk) (rep_rC (rep_mul rb rk) rc)).2 ⟨hr, lr'.1.mulQ lq', lr'.2.1.mulQ lq', LimQ.rC (lr'.2.2.mono (by omega)) (by omega)⟩, ex⟩
        · cases h
      · cases h
    · cases h
  · intro args G r h x off
    unfold kRSc at h
    split at h
    · split at h
      · split at h
        · injection h with h; subst h; intro e; cases e
        · cases h
      · cases h
    · cases h
def kRNg (rd : Bool) : Con
  | [x], G => match rtOf x with
    | some ((A, B, C), m) => if rdA rd G B C && decide (m ≤ 3000) then some (.val true (rt (qng A) (qng B) C m)) else none
    | _ => none
  | _, _ => none
theorem kRNg_ok {E : Env} (hE : QEnv E) {f : Nat} {rd : Bool} (hc : ∀ (w : World) (v : Value) (a b c : Rat), (rd = true → Rd b c) → IsRoot w v a b c → LimR 3000 a b c → Calls Try.prog f #[v] w (Ret (fun x w' => IsRoot w' x (-a) (-b) c) w))
    (hb : ∃ fn, Try.prog.funcs[f]? = some fn ∧ fn.name ≠ "runtime.NumGoroutine" ∧ fn.body.isNone = false) : ConOK Try.prog E f (kRNg rd) := by
  refine ⟨?_, ?_, hb⟩
  · intro args G r h hG β w vs hv hlen
    unfold kRNg at h
    split at h
    · split at h
      · rename_i x A B C m hx
        split at h
        · rename_i hcd
          simp only [Bool.and_eq_true, decide_eq_true_iff] at hcd
          injection h with h
          subst h
          obtain ⟨v, rfl, h1⟩ := args1 hv hlen
          obtain ⟨a, b, c, ra, rb, rc, ir, lr⟩ := rtOf_spec hE hx h1
          refine (hc w v a b c (rdA_spec hG rb rc hcd.1) ir (lr.mono hcd.2)).mono ?_
          rintro e w' ⟨x', rfl, hr, ex⟩
          exact ⟨x', rfl, (one_rt (rep_ng ra) (rep_ng rb) rc).2 ⟨hr, lr.1.negQ, lr.2.1.negQ, lr.2.2⟩, ex⟩
        · cases h
      · cases h
    · cases h
  · intro args G r h x off
    unfold kRNg at h
    split at h
    · split at h
      · split at h
        · injection h with h; subst h; intro e; cases e
        · cases h
      · cases h
    · cases h
/-- A number for a root: its sign, and how it is rounded. -/
def sgnT (A B C : IT2) : IT := (qop 8 A (qop 7 B C)).1
theorem sgnT_den {E : Env} {A B C : IT2} {a b c : Rat} (hA : RepQ E A a) (hB : RepQ E B b) (hC : RepQ E C c) (R : Rd b c) : (sgnT A B C).den E = sgN a b c := by
  have r : RepQ E (qop 8 A (qop 7 B C)) (ratF 8 a (sq2 b c)) := rep_op (f := 8) (by omega) hA (rep_sq2 hB hC)
  show (qop 8 A (qop 7 B C)).1.den E = _
  rw [r.1]
  show ((sgS a (sq2 b c) : Int) : Rat).num = _
  rw [Rat.num_intCast, sgS_sgN R]
def kRSg : Con
  | [x], G => match rtOf x with
    | some ((A, B, C), m) => if rdA true G B C && decide (m ≤ 3000) then some (.val false [.n .i64 (sgnT A B C)]) else none
    | _ => none
  | _, _ => none
theorem kRSg_ok {E : Env} (hE : QEnv E) {f : Nat} (hc : ∀ (w : World) (v : Value) (a b c : Rat), Rd b c → IsRoot w v a b c → LimR 3000 a b c → Calls Try.prog f #[v] w fun e w' => e = .returned (.int .i64 (sgN a b c)) ∧ Ext w w')
    (hb : ∃ fn, Try.prog.funcs[f]? = some fn ∧ fn.name ≠ "runtime.NumGoroutine" ∧ fn.body.isNone = false) : ConOK Try.prog E f kRSg := by
  refine ⟨?_, ?_, hb⟩
  · intro args G r h hG β w vs hv hlen
    unfold kRSg at h
    split at h
    · split at h
      · rename_i x A B C m hx
        split at h
        · rename_i hcd
          simp only [Bool.and_eq_true, decide_eq_true_iff] at hcd
          injection h with h
          subst h
          obtain ⟨v, rfl, h1⟩ := args1 hv hlen
          obtain ⟨a, b, c, ra, rb, rc, ir, lr⟩ := rtOf_spec hE hx h1
          have R := rdA_spec hG rb rc hcd.1 rfl
          refine (hc w v a b c R ir (lr.mono hcd.2)).mono ?_
          rintro e w' ⟨rfl, ex⟩
          exact ⟨_, rfl, one_num.2 (by rw [sgnT_den ra rb rc R]), ex⟩
        · cases h
      · cases h
    · cases h
  · intro args G r h x off
    unfold kRSg at h
    split at h
    · split at h
      · split at h
        · injection h with h; subst h; intro e; cases e
        · cases h
      · cases h
    · cases h
/-- Functions of two roots that ask for a common radicand. -/
def kRR (rd : Bool) (p q : IT2 × IT2 × IT2 → IT2 × IT2 × IT2 → IT2) (g : Nat → Nat) : Con
  | [x, y], G => match rtOf x, rtOf y with
    | some ((A, B, C), m), some ((A', B', C'), j) => if rdA rd G B C && (rdA rd G B' C' && (decide (m ≤ 3000) && decide (j ≤ 3000))) then
        match (nokT B C B' C').ev G with
        | some false => some (.tup [(true, rt (p (A, B, C) (A', B', C')) (q (A, B, C) (A', B', C')) (qop 5 (q (A, B, C) (A', B', C')) (cmT B C C')) (g (max m j))), (false, [.n .i64 (.lit 0)])])
        | some true => some (.tup (bad6 1))
        | none => none
      else none
    | _, _ => none
  | _, _ => none
theorem kRR_ok {E : Env} (hE : QEnv E) {f : Nat} {rd : Bool} {p q : IT2 × IT2 × IT2 → IT2 × IT2 × IT2 → IT2} {g : Nat → Nat} (P Q : Rat → Rat → Rat → Rat → Rat → Rat → Rat)
    (hp : ∀ A B C A' B' C' a b c a' b' c', RepQ E A a → RepQ E B b → RepQ E C c → RepQ E A' a' → RepQ E B' b' → RepQ E C' c' → RepQ E (p (A, B, C) (A', B', C')) (P a b c a' b' c') ∧ RepQ E (q (A, B, C) (A', B', C')) (Q a b c a' b' c'))
    (hg : ∀ m a b c a' b' c', LimR m a b c → LimR m a' b' c' → LimQ (g m) (P a b c a' b' c') ∧ LimQ (g m) (Q a b c a' b' c')) (hm : ∀ m, m ≤ g m ∧ 1 ≤ g m)
    (hc : ∀ (w : World) (v u : Value) (a b c a' b' c' : Rat), (rd = true → Rd b c) → (rd = true → Rd b' c') → IsRoot w v a b c → IsRoot w u a' b' c' → LimR 3000 a b c → LimR 3000 a' b' c' → Calls Try.prog f #[v, u] w (RetR w (Ok b c b' c') 1 (P a b c a' b' c') (Q a b c a' b' c') (rC (Q a b c a' b' c') (cm b c c'))))
    (hb : ∃ fn, Try.prog.funcs[f]? = some fn ∧ fn.name ≠ "runtime.NumGoroutine" ∧ fn.body.isNone = false) : ConOK Try.prog E f (kRR rd p q g) := by
  refine ⟨?_, ?_, hb⟩
  · intro args G r h hG β w vs hv hlen
    unfold kRR at h
    split at h
    · split at h
      · rename_i x y A B C m A' B' C' j hx hy
        split at h
        · rename_i hcd
          simp only [Bool.and_eq_true, decide_eq_true_iff] at hcd
          obtain ⟨v, u, rfl, h1, h2⟩ := args2 hv hlen
          obtain ⟨a, b, c, ra, rb, rc, ir, lr⟩ := rtOf_spec hE hx h1
          obtain ⟨a', b', c', ra', rb', rc', ir', lr'⟩ := rtOf_spec hE hy h2
          have key := hc w v u a b c a' b' c' (rdA_spec hG rb rc hcd.1) (rdA_spec hG rb' rc' hcd.2.1) ir ir' (lr.mono hcd.2.2.1) (lr'.mono hcd.2.2.2)
          split at h
          · rename_i ho
            have hok : Ok b c b' c' := (nokT_den rb rc rb' rc').1 (BT.ev_spec hG ho)
            injection h with h
            subst h
            refine key.mono ?_
            rintro e w' ⟨k1, _⟩
            obtain ⟨x', rfl, hr, ex⟩ := k1 hok
            have l1 := lr.mono (Nat.le_max_left m j)
            have l2 := lr'.mono (Nat.le_max_right m j)
            obtain ⟨r1, r2⟩ := hp A B C A' B' C' a b c a' b' c' ra rb rc ra' rb' rc'
            obtain ⟨g1, g2⟩ := hg _ a b c a' b' c' l1 l2
            have hmm := hm (max m j)
            exact ⟨_, rfl, ⟨[x', .int .i64 0], rfl, x', _, rfl, (one_rt r1 r2 (rep_rC r2 (rep_cm rb rc rc'))).2 ⟨hr, g1, g2, LimQ.rC ((LimQ.cm l1.2.2 l2.2.2).mono hmm.1) hmm.2⟩, _, _, rfl, one_num.2 rfl, rfl⟩, ex⟩
          · rename_i ho
            have hok : ¬ Ok b c b' c' := fun k => by
              have := BT.ev_spec hG ho
              rw [(nokT_den rb rc rb' rc').2 k] at this
              cases this
            injection h with h
            subst h
            refine key.mono ?_
            rintro e w' ⟨_, k1⟩
            obtain ⟨x', rfl, hr, ex⟩ := k1 hok
            exact ⟨_, rfl, ⟨[x', .int .i64 1], rfl, x', _, rfl, hr E, _, _, rfl, one_num.2 rfl, rfl⟩, ex⟩
          · cases h
        · cases h
      · cases h
    · cases h
  · intro args G r h x off
    unfold kRR at h
    split at h
    · split at h
      · split at h
        · split at h
          · injection h with h; subst h; intro e; cases e
          · injection h with h; subst h; intro e; cases e
          · cases h
        · cases h
      · cases h
    · cases h
def addA (r s : IT2 × IT2 × IT2) : IT2 := qop 0 r.1 s.1
def addB (r s : IT2 × IT2 × IT2) : IT2 := qop 0 r.2.1 s.2.1
def kRAd (rd : Bool) : Con := kRR rd addA addB (fun m => 4 * m + 1)
theorem kRAd_ok {E : Env} (hE : QEnv E) {f : Nat} {rd : Bool}
    (hc : ∀ (w : World) (v u : Value) (a b c a' b' c' : Rat), (rd = true → Rd b c) → (rd = true → Rd b' c') → IsRoot w v a b c → IsRoot w u a' b' c' → LimR 3000 a b c → LimR 3000 a' b' c' → Calls Try.prog f #[v, u] w (RetR w (Ok b c b' c') 1 (a + a') (b + b') (rC (b + b') (cm b c c'))))
    (hb : ∃ fn, Try.prog.funcs[f]? = some fn ∧ fn.name ≠ "runtime.NumGoroutine" ∧ fn.body.isNone = false) : ConOK Try.prog E f (kRAd rd) :=
  kRR_ok hE (fun a _ _ a' _ _ => a + a') (fun _ b _ _ b' _ => b + b') (fun _ _ _ _ _ _ _ _ _ _ _ _ ra rb _ ra' rb' _ => ⟨rep_add ra ra', rep_add rb rb'⟩) (fun _ _ _ _ _ _ _ l l' => ⟨l.1.addQ l'.1, l.2.1.addQ l'.2.1⟩) (fun m => ⟨by omega, by omega⟩) hc hb
end Go.Proofs.Ytdleiiboffkidaa
end

/- ---- Rtg ---- -/
section
/-
  Products, inverses and roundings of roots.
-/
set_option maxRecDepth 100000
namespace Go.Proofs.Ytdleiiboffkidaa
open Go.RowKit

def endP2 (A B C : IT2) (l m : Nat) : Tree := .ite (zt B) (lf2 A q0 q0 l 3 3) (lf2 A B C l m 3000)
def endR2 (A B C : IT2) (l m : Nat) : Tree := .ite (zt B) (lf2 A q0 q0 l 3 3) (.ite (zt C) (lf2 A q0 q0 l 3 3) (lf2 A B C l m 3000))
theorem endP2_out {E : Env} {β : Nat → Nat} {w : World} {v : Value} {A B C : IT2} {a b c : Rat} {l m : Nat} (hA : RepQ E A a) (hB : RepQ E B b) (hC : RepQ E C c) (h : (toAV ((endP2 A B C l m).pick E)).holds E β w v) : ∃ x, v = .tuple #[x, .int .i64 0] ∧ IsRoot w x a b (rC b c) := by
  unfold endP2 at h
  rw [ite_pick (zt_den hB)] at h
  by_cases hz : b = 0
  · rw [decide_eq_true hz, if_pos rfl] at h
    rw [hz, rC_zero]
    exact lf2_out hA rep_0 rep_0 h
  · rw [decide_eq_false hz, if_neg (by decide)] at h
    rw [rC_ne hz]
    exact lf2_out hA hB hC h
theorem endR2_out {E : Env} {β : Nat → Nat} {w : World} {v : Value} {A B C : IT2} {a b c : Rat} {l m : Nat} (hA : RepQ E A a) (hB : RepQ E B b) (hC : RepQ E C c) (hz : b ≠ 0 → c ≠ 0) (h : (toAV ((endR2 A B C l m).pick E)).holds E β w v) : ∃ x, v = .tuple #[x, .int .i64 0] ∧ IsRoot w x a b (rC b c) := by
  unfold endR2 at h
  rw [ite_pick (zt_den hB), ite_pick (zt_den hC)] at h
  by_cases hb : b = 0
  · rw [decide_eq_true hb, if_pos rfl] at h
    rw [hb, rC_zero]
    exact lf2_out hA rep_0 rep_0 h
  · rw [decide_eq_false hb, if_neg (by decide), decide_eq_false (hz hb), if_neg (by decide)] at h
    rw [rC_ne hb]
    exact lf2_out hA hB hC h
def comP3 (x x' y : Tree) : Tree := .ite (zt (qv 1)) y (.ite (zt (qv 4)) x' (.ite eqPT (.ite eqPT2 x (.leaf (bad6 1))) (.leaf (bad6 1))))
section
variable {a b c a' b' c' : Rat} {x x' y : Tree} {β : Nat → Nat} {w w' : World} {v u : Value}
theorem comP3_out (h : (toAV ((comP3 x x' y).pick (qE [a, b, c, a', b', c']))).holds (qE [a, b, c, a', b', c']) β w' v) :
    (Ok b c b' c' ∧ ((b = 0 ∧ (toAV (y.pick (qE [a, b, c, a', b', c']))).holds (qE [a, b, c, a', b', c']) β w' v) ∨ (b ≠ 0 ∧ b' = 0 ∧ (toAV (x'.pick (qE [a, b, c, a', b', c']))).holds (qE [a, b, c, a', b', c']) β w' v) ∨ (b ≠ 0 ∧ b' ≠ 0 ∧ c = c' ∧ (toAV (x.pick (qE [a, b, c, a', b', c']))).holds (qE [a, b, c, a', b', c']) β w' v))) ∨ (¬ Ok b c b' c' ∧ ∃ z, v = .tuple #[z, .int .i64 1] ∧ Zero6 w' z) := by
  obtain ⟨ra, rb, rc, ra', rb', rc'⟩ := rep6 (a := a) (b := b) (c := c) (a' := a') (b' := b') (c' := c')
  have e1 : eqPT.den (qE [a, b, c, a', b', c']) = decide (c.num = c'.num) := cmp0 _ _
  have e2 : eqPT2.den (qE [a, b, c, a', b', c']) = decide ((c.den : Int) = (c'.den : Int)) := cmp0 _ _
  unfold comP3 at h
  rw [ite_pick (zt_den rb), ite_pick (zt_den rb'), ite_pick e1, ite_pick e2] at h
  unfold Ok
  by_cases hb : b = 0
  · rw [decide_eq_true hb, if_pos rfl] at h
    exact .inl ⟨.inl hb, .inl ⟨hb, h⟩⟩
  · rw [decide_eq_false hb, if_neg (by decide)] at h
    by_cases hb' : b' = 0
    · rw [decide_eq_true hb', if_pos rfl] at h
      exact .inl ⟨.inr (.inl hb'), .inr (.inl ⟨hb, hb', h⟩)⟩
    · rw [decide_eq_false hb', if_neg (by decide)] at h
      by_cases h1 : c.num = c'.num
      · rw [decide_eq_true h1, if_pos rfl] at h
        by_cases h2 : (c.den : Int) = (c'.den : Int)
        · rw [decide_eq_true h2, if_pos rfl] at h
          exact .inl ⟨.inr (.inr (rat_eq_parts.2 ⟨h1, h2⟩)), .inr (.inr ⟨hb, hb', rat_eq_parts.2 ⟨h1, h2⟩, h⟩)⟩
        · rw [decide_eq_false h2, if_neg (by decide)] at h
          refine .inr ⟨?_, bad6_out h⟩
          rintro (k | k | k)
          · exact hb k
          · exact hb' k
          · exact h2 (rat_eq_parts.1 k).2
      · rw [decide_eq_false h1, if_neg (by decide)] at h
        refine .inr ⟨?_, bad6_out h⟩
        rintro (k | k | k)
        · exact hb k
        · exact hb' k
        · exact h1 (rat_eq_parts.1 k).1
def muA (A B A' B' C : IT2) : IT2 := qop 0 (qop 2 A A') (qop 2 (qop 2 B B') C)
def muB (A B A' B' : IT2) : IT2 := qop 0 (qop 2 A B') (qop 2 B A')
theorem rep_muA {E : Env} {A B A' B' C : IT2} {a b a' b' c : Rat} (ra : RepQ E A a) (rb : RepQ E B b) (ra' : RepQ E A' a') (rb' : RepQ E B' b') (rc : RepQ E C c) : RepQ E (muA A B A' B' C) (a * a' + b * b' * c) := rep_add (rep_mul ra ra') (rep_mul (rep_mul rb rb') rc)
theorem rep_muB {E : Env} {A B A' B' : IT2} {a b a' b' : Rat} (ra : RepQ E A a) (rb : RepQ E B b) (ra' : RepQ E A' a') (rb' : RepQ E B' b') : RepQ E (muB A B A' B') (a * b' + b * a') := rep_add (rep_mul ra rb') (rep_mul rb ra')
end
def mulA (r s : IT2 × IT2 × IT2) : IT2 := muA r.1 r.2.1 s.1 s.2.1 (cmT r.2.1 r.2.2 s.2.2)
def mulB (r s : IT2 × IT2 × IT2) : IT2 := muB r.1 r.2.1 s.1 s.2.1
def kRMu (rd : Bool) : Con := kRR rd mulA mulB (fun m => 28 * m + 9)
theorem kRMu_ok {E : Env} (hE : QEnv E) {f : Nat} {rd : Bool}
    (hc : ∀ (w : World) (v u : Value) (a b c a' b' c' : Rat), (rd = true → Rd b c) → (rd = true → Rd b' c') → IsRoot w v a b c → IsRoot w u a' b' c' → LimR 3000 a b c → LimR 3000 a' b' c' → Calls Try.prog f #[v, u] w (RetR w (Ok b c b' c') 1 (a * a' + b * b' * cm b c c') (a * b' + b * a') (rC (a * b' + b * a') (cm b c c'))))
    (hb : ∃ fn, Try.prog.funcs[f]? = some fn ∧ fn.name ≠ "runtime.NumGoroutine" ∧ fn.body.isNone = false) : ConOK Try.prog E f (kRMu rd) :=
  kRR_ok hE (fun a b c a' b' c' => a * a' + b * b' * cm b c c') (fun a b _ a' b' _ => a * b' + b * a') (fun _ _ _ _ _ _ _ _ _ _ _ _ ra rb rc ra' rb' rc' => ⟨rep_muA ra rb ra' rb' (rep_cm rb rc rc'), rep_muB ra rb ra' rb'⟩)
    (fun m a b c a' b' c' l l' => by
      have lc := LimQ.cm (b := b) l.2.2 l'.2.2
      have h1 := l.1.mulQ l'.1
      have h2 := l.2.1.mulQ l'.2.1
      obtain ⟨h3, h4⟩ := LimQ.mul h2.1 h2.2 lc.1 lc.2
      obtain ⟨h5, h6⟩ := LimQ.add h1.1 h1.2 h3 h4
      have h7 := l.1.mulQ l'.2.1
      have h8 := l.2.1.mulQ l'.1
      obtain ⟨h9, h10⟩ := LimQ.add h7.1 h7.2 h8.1 h8.2
      exact ⟨⟨h5.mono (by omega), h6.mono (by omega)⟩, h9.mono (by omega), h10.mono (by omega)⟩) (fun m => ⟨by omega, by omega⟩) hc hb
/-- Quotients, where the divisor is known to be 0 or not. -/
def kDv : Con
  | [x, y], G => match qOf x, qOf y with
    | some (X, m), some (Y, j) => if decide (m ≤ 100000) && decide (j ≤ 100000) then
        match (BT.eq Y.1 (.lit 0)).ev G with
        | some false => some (.tup [(true, [.int (qop 11 X Y).1 (2 * m + 2 * j + 1), .int (qop 11 X Y).2 (2 * m + 2 * j + 1)]), (false, [.n .i64 (.lit 0)])])
        | some true => some (.tup [(true, [.int (.lit 0) 0, .int (.lit 0) 0]), (false, [.n .i64 (.lit 6)])])
        | none => none
      else none
    | _, _ => none
  | _, _ => none
theorem rep_dv {E : Env} {p q : IT2} {a b : Rat} (hp : RepQ E p a) (hq : RepQ E q b) : RepQ E (qop 11 p q) (a / b) := rep_op (f := 11) (by omega) hp hq
theorem kDv_ok {E : Env} (hE : QEnv E) {f : Nat} (hc : ∀ (w : World) (v1 v2 : Value) (a b : Rat), IsRat w v1 a → IsRat w v2 b → LimQ 100000 a → LimQ 100000 b → Calls Try.prog f #[v1, v2] w (RetDiv a b w))
    (hb : ∃ fn, Try.prog.funcs[f]? = some fn ∧ fn.name ≠ "runtime.NumGoroutine" ∧ fn.body.isNone = false) : ConOK Try.prog E f kDv := by
  refine ⟨?_, ?_, hb⟩
  · intro args G r h hG β w vs hv hlen
    unfold kDv at h
    split at h
    · split at h
      · rename_i x y X m Y j hx hy
        split at h
        · rename_i hcd
          simp only [Bool.and_eq_true, decide_eq_true_iff] at hcd
          obtain ⟨v, u, rfl, h1, h2⟩ := args2 hv hlen
          obtain ⟨a, ra, ia, la⟩ := qOf_spec hE hx h1
          obtain ⟨b, rb, ib, lb⟩ := qOf_spec hE hy h2
          have key := hc w v u a b ia ib (la.mono hcd.1) (lb.mono hcd.2)
          have e0 : (BT.eq Y.1 (.lit 0)).den E = decide (b = 0) := by
            show (Y.1.den E == 0) = _
            rw [rb.1, Bool.eq_iff_iff, beq_iff_eq, decide_eq_true_iff, Rat.num_eq_zero]
          split at h
          · rename_i hz
            have hz' := BT.ev_spec hG hz
            rw [e0, decide_eq_false_iff_not] at hz'
            injection h with h
            subst h
            refine key.mono ?_
            rintro e w' ⟨x', rfl, hp, ex⟩
            have e1 : de b.num = 0 := by unfold de; rw [if_neg (fun k => hz' (Rat.num_eq_zero.1 k))]
            have e2 : divD a b = ((a / b).den : Int) := by unfold divD; rw [if_neg hz']
            rw [e1]
            rw [e2] at hp
            have rd := rep_dv ra rb
            obtain ⟨m1, m2⟩ := LimQ.div la.1 la.2 lb.1 lb.2
            rw [e2] at m2
            refine ⟨_, rfl, ⟨[x', .int .i64 0], rfl, x', _, rfl, one_pair.2 ?_, _, _, rfl, one_num.2 rfl, rfl⟩, ex⟩
            rw [rd.1, rd.2]
            exact ⟨hp, m1.mono (by omega), m2.mono (by omega)⟩
          · rename_i hz
            have hz' := BT.ev_spec hG hz
            rw [e0, decide_eq_true_iff] at hz'
            injection h with h
            subst h
            refine key.mono ?_
            rintro e w' ⟨x', rfl, hp, ex⟩
            subst hz'
            have e2 : divD a 0 = 0 := by unfold divD; rw [if_pos rfl]
            have e3 : (a / 0).num = 0 := by rw [Rat.div_def, Rat.inv_zero, Rat.mul_zero]; rfl
            rw [e2, e3] at hp
            exact ⟨_, rfl, ⟨[x', .int .i64 6], rfl, x', _, rfl, one_pair.2 ⟨hp, lim_zero, lim_zero⟩, _, _, rfl, one_num.2 rfl, rfl⟩, ex⟩
          · cases h
        · cases h
      · cases h
    · cases h
  · intro args G r h x off
    unfold kDv at h
    split at h
    · split at h
      · split at h
        · split at h
          · injection h with h; subst h; intro e; cases e
          · injection h with h; subst h; intro e; cases e
          · cases h
        · cases h
      · cases h
    · cases h
end Go.Proofs.Ytdleiiboffkidaa
end

/- ---- Rth ---- -/
section
/-
  Inverses and roundings of roots.
-/
set_option maxRecDepth 100000
namespace Go.Proofs.Ytdleiiboffkidaa
open Go.RowKit

def nrmT (A B C : IT2) : IT2 := qop 1 (qop 2 A A) (qop 2 (qop 2 B B) C)
theorem rep_nrm {E : Env} {A B C : IT2} {a b c : Rat} (ra : RepQ E A a) (rb : RepQ E B b) (rc : RepQ E C c) : RepQ E (nrmT A B C) (nrm a b c) := rep_sub (rep_mul ra ra) (rep_mul (rep_mul rb rb) rc)
def ivT (A B C : IT2) : IT2 := qop 11 (.lit 1, .lit 1) (nrmT A B C)
theorem rep_iv {E : Env} {A B C : IT2} {a b c : Rat} (ra : RepQ E A a) (rb : RepQ E B b) (rc : RepQ E C c) : RepQ E (ivT A B C) (1 / nrm a b c) := rep_dv rep_1 (rep_nrm ra rb rc)
theorem eq0_den {E : Env} {p : IT2} {q : Rat} (h : RepQ E p q) : (BT.eq p.1 (.lit 0)).den E = decide (q = 0) := by
  show (p.1.den E == 0) = _
  rw [h.1, Bool.eq_iff_iff, beq_iff_eq, decide_eq_true_iff, Rat.num_eq_zero]
theorem sgN_eq0 {a b c : Rat} (R : Rd b c) : sgN a b c = 0 ↔ nrm a b c = 0 := by
  constructor
  · intro h
    refine Decidable.byContradiction fun hn => ?_
    rcases (by grind : nrm a b c < 0 ∨ 0 < nrm a b c) with n | n
    · rw [sgN_neg n] at h
      rcases sgQ_cases b with ⟨_, e⟩ | ⟨k, _⟩ | ⟨_, e⟩
      · omega
      · rcases R with ⟨_, hc⟩ | ⟨hb, _⟩
        · unfold nrm at n
          rw [k] at n
          have := sq_nonneg a
          grind
        · exact hb k
      · omega
    · rw [sgN_pos n] at h
      rcases sgQ_cases a with ⟨_, e⟩ | ⟨k, _⟩ | ⟨_, e⟩
      · omega
      · rcases R with ⟨hb, hc⟩ | ⟨hb, hc, _⟩
        · subst k hb hc; unfold nrm at n; grind
        · have := Rat.mul_pos (sq_pos hb) hc
          unfold nrm at n
          rw [k] at n
          grind
      · omega
  · intro h; exact sgN_zero h
section
variable {w : World} {v u : Value} {a b c : Rat}
theorem Rd.rc (R : Rd b c) {x : Rat} (h : x = 0 → b = 0) : rC x c = c := by
  by_cases hx : x = 0
  · have hb := h hx
    rcases R with ⟨_, hc⟩ | ⟨hb', _⟩
    · rw [hc]; unfold rC; split <;> rfl
    · exact absurd hb hb'
  · exact rC_ne hx c
theorem rep3 : RepQ (qE [a, b, c]) (qv 0) a ∧ RepQ (qE [a, b, c]) (qv 1) b ∧ RepQ (qE [a, b, c]) (qv 2) c := ⟨rep_v (i := 0), rep_v (i := 1), rep_v (i := 2)⟩
def nG (z : Bool) : BT × Bool := (.eq (nrmT (qv 0) (qv 1) (qv 2)).1 (.lit 0), z)
theorem nG_ok {z : Bool} : (nG z).1.den (qE [a, b, c]) = decide (nrm a b c = 0) := by
  obtain ⟨ra, rb, rc⟩ := rep3 (a := a) (b := b) (c := c)
  exact eq0_den (rep_nrm ra rb rc)
def lfR (A B C : IT2) (l : Nat) : Tree := .leaf [(true, rt A B C l), (false, [.n .i64 (.lit 0)])]
theorem lfR_out {E : Env} {β : Nat → Nat} {w : World} {v : Value} {A B C : IT2} {a b c : Rat} {l : Nat} (hA : RepQ E A a) (hB : RepQ E B b) (hC : RepQ E C c) (h : (toAV ((lfR A B C l).pick E)).holds E β w v) : ∃ x, v = .tuple #[x, .int .i64 0] ∧ IsRoot w x a b c := lf2_out hA hB hC h
/-- Roundings. -/
def flN (a b c : Rat) : Int := flS a (sq2 b c)
theorem num_den (q : Rat) : q * ((q.den : Int) : Rat) = (q.num : Rat) := by
  have h := Rat.num_divInt_den q
  have hd : ((q.den : Int) : Rat) ≠ 0 := fun e => by
    have := Rat.intCast_eq_zero_iff.1 e
    have := q.den_pos
    omega
  have h2 : q = (q.num : Rat) / ((q.den : Int) : Rat) := by rw [← Rat.divInt_eq_div, h]
  have := Rat.div_mul_cancel (a := (q.num : Rat)) hd
  rw [← h2] at this
  exact this
theorem den_posI (q : Rat) : (0 : Int) < (q.den : Int) := by have := q.den_pos; omega
theorem flN_spec (R : Rd b c) : IsFl a b c (flN a b c) := by
  unfold flN flS
  rcases R with ⟨rfl, rfl⟩ | ⟨hb, hc, hs⟩
  · have e : sq2 0 0 = 0 := by unfold sq2; rw [if_neg (by decide)]; grind
    rw [e, if_pos (show (0 : Rat).num = 0 from rfl), dq_pos (den_posI a), ← Rat.floor_def]
    exact IsFl.zero
  · have hbc := Rat.mul_pos (sq_pos hb) hc
    have hnz : (sq2 b c).num ≠ 0 := by
      rw [ne_eq, Rat.num_eq_zero]
      unfold sq2
      split <;> grind
    rw [if_neg hnz]
    have hn := num_pos_iff b
    have hbn : (sq2 b c).num < 0 ↔ b < 0 := by
      have h1 := num_pos_iff (sq2 b c)
      have h2 := num_pos_iff (b * b * c)
      have hn2 : b.num = 0 ↔ b = 0 := Rat.num_eq_zero
      unfold sq2 at *
      by_cases h : b.num < 0
      · rw [if_pos h] at *
        rw [Rat.neg_num]
        have := h2.2 hbc
        constructor
        · intro _; grind
        · intro _; omega
      · rw [if_neg h] at *
        have := h2.2 hbc
        constructor
        · intro k; omega
        · intro k; grind
    have habs : ((sq2 b c).num.natAbs : Int) = (b * b * c).num ∧ ((sq2 b c).den : Int) = ((b * b * c).den : Int) := by
      have := (num_pos_iff (b * b * c)).2 hbc
      unfold sq2
      split
      · rw [Rat.neg_num, Rat.neg_den]; omega
      · exact ⟨by omega, rfl⟩
    rw [habs.1, habs.2]
    have e : (if (sq2 b c).num < 0 then -(isq ((b * b * c).num * ((b * b * c).den : Int) * ((a.den : Int) * (a.den : Int))) + 1) else isq ((b * b * c).num * ((b * b * c).den : Int) * ((a.den : Int) * (a.den : Int)))) = (if b < 0 then -(isq ((b * b * c).num * ((b * b * c).den : Int) * ((a.den : Int) * (a.den : Int))) + 1) else isq ((b * b * c).num * ((b * b * c).den : Int) * ((a.den : Int) * (a.den : Int)))) := by
      by_cases h : b < 0
      · rw [if_pos h, if_pos (hbn.2 h)]
      · rw [if_neg h, if_neg (fun k => h (hbn.1 k))]
    rw [e]
    have ea := num_den a
    have es := num_den (b * b * c)
    refine fl_spec hb hc hs (Int.mul_pos (den_posI a) (den_posI _)) ?_ ?_
    · simp only [castQ_mul]
      rw [← ea]; grind
    · simp only [castQ_mul]
      rw [← es]; grind
def flX : IT := .a2 2 (.var 0) (.a2 2 (.var 3) (.var 5))
def flD : IT := .a2 2 (.var 1) (.a2 2 (.var 3) (.var 5))
def flY : IT := .a2 2 (.a2 2 (.a2 2 (.var 2) (.var 1)) (.a2 2 (.var 2) (.var 1))) (.a2 2 (.var 4) (.var 5))
def lfI (t : IT) (l : Nat) : Tree := .leaf [(true, [.int t l])]
theorem lfI_out {E : Env} {β : Nat → Nat} {w : World} {v : Value} {t : IT} {l : Nat} (h : (toAV ((lfI t l).pick E)).holds E β w v) : IsInt w v (t.den E) ∧ Lim l (t.den E) := one_int.1 h
theorem ltz_den {E : Env} {p : IT2} {q : Rat} (h : RepQ E p q) : (BT.lt (sgt p) (.lit 0)).den E = decide (q < 0) := by
  show decide ((sgt p).den E < 0) = _
  rw [sgt_den h, Bool.eq_iff_iff, decide_eq_true_iff, decide_eq_true_iff]
  rcases sgQ_cases q with ⟨k, e⟩ | ⟨k, e⟩ | ⟨k, e⟩ <;> rw [e] <;> constructor <;> intro j <;> first | omega | grind
theorem fl0 (R : Rd b c) (hb : b = 0) : flN a b c = a.floor := by
  have hc : c = 0 := by
    rcases R with ⟨_, hc⟩ | ⟨hb', _⟩
    · exact hc
    · exact absurd hb hb'
  subst hb hc
  exact (flN_spec R).unique R IsFl.zero
def flM : IT2 := qop 2 (qop 2 (qv 1) (qv 1)) (qv 2)
def flX2 : IT := .a2 2 (.var 0) flM.2
def flD2 : IT := .a2 2 (.var 1) flM.2
def flY2 : IT := .a2 2 (.a2 2 flM.1 flM.2) (.a2 2 (.var 1) (.var 1))
end
end Go.Proofs.Ytdleiiboffkidaa
end

/- ---- Rti ---- -/
section
/-
  What the walker knows of roots: inverses, roundings, square roots, equality; awake.
-/
set_option maxRecDepth 100000
namespace Go.Proofs.Ytdleiiboffkidaa
open Go.RowKit

def kRIv : Con
  | [x], G => match rtOf x with
    | some ((A, B, C), m) => if rdA true G B C && decide (m ≤ 300) then
        match (BT.eq (nrmT A B C).1 (.lit 0)).ev G with
        | some false => some (.tup [(true, rt (qop 11 A (nrmT A B C)) (qng (qop 11 B (nrmT A B C))) C (58 * m + 19)), (false, [.n .i64 (.lit 0)])])
        | some true => some (.tup (bad6 6))
        | none => none
      else none
    | _ => none
  | _, _ => none
theorem LimQ.nrm {m : Nat} {a b c : Rat} (l : LimR m a b c) : LimQ (28 * m + 9) (nrm a b c) := by
  have h1 := l.1.mulQ l.1
  have h2 := l.2.1.mulQ l.2.1
  obtain ⟨h3, h4⟩ := LimQ.mul h2.1 h2.2 l.2.2.1 l.2.2.2
  obtain ⟨h5, h6⟩ := LimQ.sub h1.1 h1.2 h3 h4
  exact ⟨h5.mono (by omega), h6.mono (by omega)⟩
theorem LimQ.divQ {l m : Nat} {a b : Rat} (h : LimQ l a) (k : LimQ m b) (hb : b ≠ 0) : LimQ (2 * l + 2 * m + 1) (a / b) := by
  obtain ⟨m1, m2⟩ := LimQ.div h.1 h.2 k.1 k.2
  have e2 : divD a b = ((a / b).den : Int) := by unfold divD; rw [if_neg hb]
  rw [e2] at m2
  exact ⟨m1.mono (by omega), m2.mono (by omega)⟩
theorem kRIv_ok {E : Env} (hE : QEnv E) {f : Nat} (hc : ∀ (w : World) (v : Value) (a b c : Rat), Rd b c → IsRoot w v a b c → LimR 300 a b c → Calls Try.prog f #[v] w (RetR w (nrm a b c ≠ 0) 6 (a / nrm a b c) (-(b / nrm a b c)) c))
    (hb : ∃ fn, Try.prog.funcs[f]? = some fn ∧ fn.name ≠ "runtime.NumGoroutine" ∧ fn.body.isNone = false) : ConOK Try.prog E f kRIv := by
  refine ⟨?_, ?_, hb⟩
  · intro args G r h hG β w vs hv hlen
    unfold kRIv at h
    split at h
    · split at h
      · rename_i x A B C m hx
        split at h
        · rename_i hcd
          simp only [Bool.and_eq_true, decide_eq_true_iff] at hcd
          obtain ⟨v, rfl, h1⟩ := args1 hv hlen
          obtain ⟨a, b, c, ra, rb, rc, ir, lr⟩ := rtOf_spec hE hx h1
          have R := rdA_spec hG rb rc hcd.1 rfl
          have key := hc w v a b c R ir (lr.mono hcd.2)
          have rn := rep_nrm ra rb rc
          split at h
          · rename_i ho
            have hz := BT.ev_spec hG ho
            rw [eq0_den rn, decide_eq_false_iff_not] at hz
            injection h with h
            subst h
            refine key.mono ?_
            rintro e w' ⟨k1, _⟩
            obtain ⟨x', rfl, hr, ex⟩ := k1 hz
            have ln := LimQ.nrm lr
            exact ⟨_, rfl, ⟨[x', .int .i64 0], rfl, x', _, rfl, (one_rt (rep_dv ra rn) (rep_ng (rep_dv rb rn)) rc).2 ⟨hr, (lr.1.divQ ln hz).mono (by omega), ((lr.2.1.divQ ln hz).negQ).mono (by omega), lr.2.2.mono (by omega)⟩, _, _, rfl, one_num.2 rfl, rfl⟩, ex⟩
          · rename_i ho
            have hz := BT.ev_spec hG ho
            rw [eq0_den rn, decide_eq_true_iff] at hz
            injection h with h
            subst h
            refine key.mono ?_
            rintro e w' ⟨_, k1⟩
            obtain ⟨x', rfl, hr, ex⟩ := k1 (fun k => k hz)
            exact ⟨_, rfl, ⟨[x', .int .i64 6], rfl, x', _, rfl, hr E, _, _, rfl, one_num.2 rfl, rfl⟩, ex⟩
          · cases h
        · cases h
      · cases h
    · cases h
  · intro args G r h x off
    unfold kRIv at h
    split at h
    · split at h
      · split at h
        · split at h
          · injection h with h; subst h; intro e; cases e
          · injection h with h; subst h; intro e; cases e
          · cases h
        · cases h
      · cases h
    · cases h
def floT (A B C : IT2) : IT := (qop 9 A (qop 7 B C)).1
theorem floT_den {E : Env} {A B C : IT2} {a b c : Rat} (hA : RepQ E A a) (hB : RepQ E B b) (hC : RepQ E C c) : (floT A B C).den E = flN a b c := by
  have r : RepQ E (qop 9 A (qop 7 B C)) (ratF 9 a (sq2 b c)) := rep_op (f := 9) (by omega) hA (rep_sq2 hB hC)
  show (qop 9 A (qop 7 B C)).1.den E = _
  rw [r.1]
  show ((flS a (sq2 b c) : Int) : Rat).num = _
  rw [Rat.num_intCast]; rfl
def kRFl : Con
  | [x], G => match rtOf x with
    | some ((A, B, C), m) => if rdA true G B C && decide (m ≤ 400) then some (.val true [.int (floT A B C) (if m ≤ 4 then 100 else if m ≤ 50 then 1200 else 9000)]) else none
    | _ => none
  | _, _ => none
theorem kRFl_ok {E : Env} (hE : QEnv E) {f : Nat} (hc4 : ∀ (w : World) (v : Value) (a b c : Rat), Rd b c → IsRoot w v a b c → LimR 4 a b c → Calls Try.prog f #[v] w (Ret (fun x w' => IsInt w' x (flN a b c) ∧ Lim 100 (flN a b c)) w)) (hc50 : ∀ (w : World) (v : Value) (a b c : Rat), Rd b c → IsRoot w v a b c → LimR 50 a b c → Calls Try.prog f #[v] w (Ret (fun x w' => IsInt w' x (flN a b c) ∧ Lim 1200 (flN a b c)) w)) (hc : ∀ (w : World) (v : Value) (a b c : Rat), Rd b c → IsRoot w v a b c → LimR 400 a b c → Calls Try.prog f #[v] w (Ret (fun x w' => IsInt w' x (flN a b c) ∧ Lim 9000 (flN a b c)) w))
    (hb : ∃ fn, Try.prog.funcs[f]? = some fn ∧ fn.name ≠ "runtime.NumGoroutine" ∧ fn.body.isNone = false) : ConOK Try.prog E f kRFl := by
  refine ⟨?_, ?_, hb⟩
  · intro args G r h hG β w vs hv hlen
    unfold kRFl at h
    split at h
    · split at h
      · rename_i x A B C m hx
        split at h
        · rename_i hcd
          simp only [Bool.and_eq_true, decide_eq_true_iff] at hcd
          injection h with h
          subst h
          obtain ⟨v, rfl, h1⟩ := args1 hv hlen
          obtain ⟨a, b, c, ra, rb, rc, ir, lr⟩ := rtOf_spec hE hx h1
          have R := rdA_spec hG rb rc hcd.1 rfl
          by_cases hm : m ≤ 4
          · refine (hc4 w v a b c R ir (lr.mono hm)).mono ?_
            rintro e w' ⟨x', rfl, hr, ex⟩
            refine ⟨_, rfl, one_int.2 ?_, ex⟩
            rw [floT_den ra rb rc, if_pos hm]
            exact hr
          · by_cases hm2 : m ≤ 50
            · refine (hc50 w v a b c R ir (lr.mono hm2)).mono ?_
              rintro e w' ⟨x', rfl, hr, ex⟩
              refine ⟨_, rfl, one_int.2 ?_, ex⟩
              rw [floT_den ra rb rc, if_neg hm, if_pos hm2]
              exact hr
            · refine (hc w v a b c R ir (lr.mono hcd.2)).mono ?_
              rintro e w' ⟨x', rfl, hr, ex⟩
              refine ⟨_, rfl, one_int.2 ?_, ex⟩
              rw [floT_den ra rb rc, if_neg hm, if_neg hm2]
              exact hr
        · cases h
      · cases h
    · cases h
  · intro args G r h x off
    unfold kRFl at h
    split at h
    · split at h
      · split at h
        · injection h with h; subst h; intro e; cases e
        · cases h
      · cases h
    · cases h
/-- Square roots of numbers that are known to be squares or not. -/
def sqT (x : IT) : BT := .and (.eq (.a1 3 x) (.lit 0)) (.eq (.a2 2 (.a1 2 x) (.a1 2 x)) x)
theorem sqT_den {E : Env} {x : IT} : (sqT x).den E = sqB (x.den E) := by
  show (isqE (x.den E) == 0 && (isq (x.den E) * isq (x.den E) == x.den E)) = _
  unfold sqB
  congr 1
  rw [Bool.eq_iff_iff, beq_iff_eq, beq_iff_eq]
  rcases cmpZ_cases (isq (x.den E) * isq (x.den E)) (x.den E) with ⟨h, e⟩ | ⟨h, e⟩ | ⟨h, e⟩ <;> rw [e] <;> omega
def kSqQ : Con
  | [.val true [.int x l, .int y m]], G => if decide (l ≤ 100000) && decide (m ≤ 100000) then
      match (BT.and (sqT x) (sqT y)).ev G with
      | some true => some (.tup [(true, [.int (IT.a1 2 x).fold l, .int (IT.a1 2 y).fold m]), (false, [.b (.lit true)])])
      | some false => some (.tup [(true, [.int (.lit 0) 0, .int (.lit 0) 0]), (false, [.b (.lit false)])])
      | none => none
    else none
  | _, _ => none
theorem kSqQ_ok {E : Env} {f : Nat} (hc : ∀ (w : World) (v : Value) (n d : Int), IsPair w v n d → Lim 100000 n → Lim 100000 d → Calls Try.prog f #[v] w (RetSqQ n d w))
    (hb : ∃ fn, Try.prog.funcs[f]? = some fn ∧ fn.name ≠ "runtime.NumGoroutine" ∧ fn.body.isNone = false) : ConOK Try.prog E f kSqQ := by
  refine ⟨?_, ?_, hb⟩
  · intro args G r h hG β w vs hv hlen
    unfold kSqQ at h
    split at h
    · rename_i x l y m
      split at h
      · rename_i hcd
        simp only [Bool.and_eq_true, decide_eq_true_iff] at hcd
        obtain ⟨v, rfl, h1⟩ := args1 hv hlen
        obtain ⟨p1, a1, a2⟩ := one_pair.1 h1
        have key := hc w v _ _ p1 (a1.mono hcd.1) (a2.mono hcd.2)
        have ed : (BT.and (sqT x) (sqT y)).den E = (sqB (x.den E) && sqB (y.den E)) := by
          show ((sqT x).den E && (sqT y).den E) = _
          rw [sqT_den, sqT_den]
        split at h
        · rename_i ho
          have hs := BT.ev_spec hG ho
          rw [ed] at hs
          injection h with h
          subst h
          refine key.mono ?_
          rintro e w' ⟨u, rfl, hp, ex⟩
          unfold sqN at hp
          rw [hs] at hp ⊢
          rw [if_pos rfl, if_pos rfl] at hp
          refine ⟨_, rfl, ⟨[u, .bool true], rfl, u, _, rfl, one_pair.2 ?_, _, _, rfl, one_bool.2 rfl, rfl⟩, ex⟩
          rw [IT.fold_den, IT.fold_den]
          exact ⟨hp, isq_lim a1, isq_lim a2⟩
        · rename_i ho
          have hs := BT.ev_spec hG ho
          rw [ed] at hs
          injection h with h
          subst h
          refine key.mono ?_
          rintro e w' ⟨u, rfl, hp, ex⟩
          unfold sqN at hp
          rw [hs] at hp ⊢
          rw [if_neg (by decide), if_neg (by decide)] at hp
          exact ⟨_, rfl, ⟨[u, .bool false], rfl, u, _, rfl, one_pair.2 ⟨hp, lim_zero, lim_zero⟩, _, _, rfl, one_bool.2 rfl, rfl⟩, ex⟩
        · cases h
      · cases h
    · cases h
  · intro args G r h x off
    unfold kSqQ at h
    split at h
    · split at h
      · split at h
        · injection h with h; subst h; intro e; cases e
        · injection h with h; subst h; intro e; cases e
        · cases h
      · cases h
    · cases h
end Go.Proofs.Ytdleiiboffkidaa
end

/- ---- Rtj ---- -/
section
/-
  Any roots: which ones are valid and small.
-/
set_option maxRecDepth 100000
namespace Go.Proofs.Ytdleiiboffkidaa
open Go.RowKit

abbrev RI := Bool × List Nat
/-- What Small says, for any bound. -/
def smN (n : Nat) (p q : RI) : Bool := decide (p.2.length ≤ n) && decide (q.2.length ≤ n) && okQ p.1 p.2 q.1 q.2
def rq (p q : RI) : Rat := Rat.divInt (sgn p.1 (val p.2)) (sgn q.1 (val q.2))
theorem smN_rat {n : Nat} {w : World} {v : Value} {p q : RI} (h : RawQ w v p.1 p.2 q.1 q.2) (hs : smN n p q = true) : IsRat w v (rq p q) ∧ LimQ n (rq p q) := by
  obtain ⟨s1, xs1⟩ := p
  obtain ⟨s2, xs2⟩ := q
  unfold smN okQ at hs
  simp only [Bool.and_eq_true, decide_eq_true_iff] at hs
  obtain ⟨⟨c1, c2⟩, ⟨⟨b1, b2⟩, b3⟩, b4⟩ := hs
  have hp := okQ_pair h b1 b2
  have m1 : Lim n (sgn s1 (val xs1)) := by obtain ⟨a, b, c, d, rfl, h1, h2⟩ := h; exact ok_lim h1 b1 c1
  have m2 : Lim n (sgn s2 (val xs2)) := by obtain ⟨a, b, c, d, rfl, h1, h2⟩ := h; exact ok_lim h2 b2 c2
  have hq : (rq (s1, xs1) (s2, xs2)).num = sgn s1 (val xs1) ∧ ((rq (s1, xs1) (s2, xs2)).den : Int) = sgn s2 (val xs2) := by
    unfold rq
    simp only
    generalize sgn s1 (val xs1) = n at *
    generalize sgn s2 (val xs2) = d at *
    have hd : ((d.natAbs : Nat) : Int) = d := by omega
    have e : Rat.divInt n d = ⟨n, d.natAbs, by omega, b4⟩ := by
      rw [Rat.mk_eq_divInt, hd]
    rw [e]
    exact ⟨rfl, hd⟩
  refine ⟨?_, ?_⟩
  · show IsPair w v (rq (s1, xs1) (s2, xs2)).num ((rq (s1, xs1) (s2, xs2)).den : Int)
    rw [hq.1, hq.2]; exact hp
  · refine ⟨?_, ?_⟩
    · rw [hq.1]; exact m1
    · rw [hq.2]; exact m2
def kRVN (n : Nat) : Con
  | [.val true [.raw i, .raw j]], G => if i % 2 == 0 && (j == i + 1 && (decide (n ≤ 100000) && (G.find (.le (.rlen i) (.lit (n : Int))) == some true && G.find (.le (.rlen j) (.lit (n : Int))) == some true))) then some (.val false [.b (.var (i / 2))]) else none
  | _, _ => none
theorem kRVN_ok {n : Nat} {E : Env} (hE : VEnv E) {f : Nat} (hc : ∀ (w : World) (v : Value) (s1 s2 : Bool) (xs1 xs2 : List Nat), RawQ w v s1 xs1 s2 xs2 → xs1.length ≤ 100000 → xs2.length ≤ 100000 → Calls Try.prog f #[v] w fun e w' => e = .returned (.bool (okQ s1 xs1 s2 xs2)) ∧ Ext w w')
    (hb : ∃ fn, Try.prog.funcs[f]? = some fn ∧ fn.name ≠ "runtime.NumGoroutine" ∧ fn.body.isNone = false) : ConOK Try.prog E f (kRVN n) := by
  refine ⟨?_, ?_, hb⟩
  · intro args As r h hG β w vs hv hlen
    unfold kRVN at h
    split at h
    · rename_i i j
      split at h
      · rename_i hlo
        injection h with h
        subst h
        simp only [Bool.and_eq_true, beq_iff_eq, decide_eq_true_iff] at hlo
        obtain ⟨hi, rfl, hn, b1, b2⟩ := hlo
        have c1 := of_decide_eq_true (Asm.find_spec hG b1)
        have c2 := of_decide_eq_true (Asm.find_spec hG b2)
        simp only [IT.den] at c1 c2
        obtain ⟨v, rfl, h1⟩ := args1 hv hlen
        refine (hc w v _ _ _ _ (one_raw2 h1) (by omega) (by omega)).mono ?_
        rintro e w' ⟨rfl, ex⟩
        exact ⟨_, rfl, one_bool.2 (by rw [← hE i hi]; rfl), ex⟩
      · cases h
    · cases h
  · intro args As r h x off
    unfold kRVN at h
    split at h
    · split at h
      · injection h with h; subst h; intro e; cases e
      · cases h
    · cases h
/-- Any root. -/
def RawR (w : World) (v : Value) (p1 p2 p3 p4 p5 p6 : RI) : Prop := ∃ x y z : List Value, v = .agg (x ++ (y ++ z)).toArray ∧ RawQ w (.agg x.toArray) p1.1 p1.2 p2.1 p2.2 ∧ RawQ w (.agg y.toArray) p3.1 p3.2 p4.1 p4.2 ∧ RawQ w (.agg z.toArray) p5.1 p5.2 p6.1 p6.2
def rwC (i : Nat) : List Chunk := [.raw i, .raw (i + 1), .raw (i + 2), .raw (i + 3), .raw (i + 4), .raw (i + 5)]
theorem two_raws {E : Env} {w : World} {i j : Nat} {cs : List Chunk} {vs : List Value} :
    chunks E w (.raw i :: .raw j :: cs) vs ↔ ∃ x r, vs = x ++ r ∧ RawQ w (.agg x.toArray) (E.r i).1 (E.r i).2 (E.r j).1 (E.r j).2 ∧ chunks E w cs r := by
  constructor
  · rintro ⟨u0, r0, rfl, ⟨x0, y0, rfl, i0⟩, u1, r1, rfl, ⟨x1, y1, rfl, i1⟩, h⟩
    exact ⟨[x0, y0, x1, y1], r1, rfl, ⟨x0, y0, x1, y1, rfl, i0, i1⟩, h⟩
  · rintro ⟨x, r, rfl, ⟨x0, y0, x1, y1, hx, i0, i1⟩, h⟩
    injection hx with hx
    have hx' : x = [x0, y0, x1, y1] := congrArg Array.toList hx
    subst hx'
    exact ⟨[x0, y0], [x1, y1] ++ r, rfl, ⟨x0, y0, rfl, i0⟩, [x1, y1], r, rfl, ⟨x1, y1, rfl, i1⟩, h⟩
theorem rwC_chunks {E : Env} {w : World} {i : Nat} {cs : List Chunk} {vs : List Value} : chunks E w (rwC i ++ cs) vs ↔ ∃ u r, vs = u ++ r ∧ RawR w (.agg u.toArray) (E.r i) (E.r (i + 1)) (E.r (i + 2)) (E.r (i + 3)) (E.r (i + 4)) (E.r (i + 5)) ∧ chunks E w cs r := by
  constructor
  · intro h
    obtain ⟨x, r, rfl, h1, h⟩ := two_raws.1 h
    obtain ⟨y, r, rfl, h2, h⟩ := two_raws.1 h
    obtain ⟨z, r, rfl, h3, h⟩ := two_raws.1 h
    exact ⟨x ++ (y ++ z), r, by simp, ⟨x, y, z, rfl, h1, h2, h3⟩, h⟩
  · rintro ⟨u, r, rfl, ⟨x, y, z, hu, h1, h2, h3⟩, h⟩
    injection hu with hu
    have hu' : u = x ++ (y ++ z) := congrArg Array.toList hu
    subst hu'
    exact two_raws.2 ⟨x, y ++ (z ++ r), by simp, h1, two_raws.2 ⟨y, z ++ r, rfl, h2, two_raws.2 ⟨z, r, rfl, h3, h⟩⟩⟩
theorem one_rwC {E : Env} {w : World} {i : Nat} {v : Value} : one E w (true, rwC i) v ↔ RawR w v (E.r i) (E.r (i + 1)) (E.r (i + 2)) (E.r (i + 3)) (E.r (i + 4)) (E.r (i + 5)) := by
  constructor
  · rintro ⟨vs, rfl, h⟩
    rw [show (true, rwC i).2 = rwC i ++ [] by rw [List.append_nil]] at h
    obtain ⟨u, r, rfl, h1, h2⟩ := rwC_chunks.1 h
    simp only [chunks] at h2
    subst h2
    rw [List.append_nil]; exact h1
  · rintro ⟨x, y, z, rfl, h1, h2, h3⟩
    refine ⟨x ++ (y ++ z), rfl, ?_⟩
    rw [show (true, rwC i).2 = rwC i ++ [] by rw [List.append_nil]]
    exact rwC_chunks.2 ⟨x ++ (y ++ z), [], by simp, ⟨x, y, z, rfl, h1, h2, h3⟩, rfl⟩
def smR (p1 p2 p3 p4 p5 p6 : RI) : Bool := smN 4 p1 p2 && (smN 4 p3 p4 && (smN 4 p5 p6 && Rdb (rq p3 p4) (rq p5 p6)))
theorem RawR.root {w : World} {v : Value} {p1 p2 p3 p4 p5 p6 : RI} (h : RawR w v p1 p2 p3 p4 p5 p6) {n : Nat} (h1 : smN n p1 p2 = true) (h2 : smN n p3 p4 = true) (h3 : smN n p5 p6 = true) : IsRoot w v (rq p1 p2) (rq p3 p4) (rq p5 p6) ∧ LimR n (rq p1 p2) (rq p3 p4) (rq p5 p6) := by
  obtain ⟨x, y, z, rfl, k1, k2, k3⟩ := h
  obtain ⟨i1, l1⟩ := smN_rat k1 h1
  obtain ⟨i2, l2⟩ := smN_rat k2 h2
  obtain ⟨i3, l3⟩ := smN_rat k3 h3
  exact ⟨⟨x, y, z, rfl, i1, i2, i3⟩, l1, l2, l3⟩
/-- Valid, of numbers in lowest terms. -/
def kVl : Con
  | [x], _ => match qOf x with
    | some (_, m) => if decide (m ≤ 100000) then some (.val false [.b (.lit true)]) else none
    | none => none
  | _, _ => none
theorem rat_raw {w : World} {v : Value} {q : Rat} (h : IsRat w v q) : RawQ w v (decide (q.num < 0)) (limbs q.num.natAbs) (decide ((q.den : Int) < 0)) (limbs (q.den : Int).natAbs) ∧ okQ (decide (q.num < 0)) (limbs q.num.natAbs) (decide ((q.den : Int) < 0)) (limbs (q.den : Int).natAbs) = true := by
  obtain ⟨x0, x1, x2, x3, rfl, i1, i2⟩ := h
  obtain ⟨k1, k2⟩ := int_raw i1
  obtain ⟨k3, k4⟩ := int_raw i2
  refine ⟨⟨_, _, _, _, rfl, k1, k3⟩, ?_⟩
  have e3 : sgn (decide (q.num < 0)) (val (limbs q.num.natAbs)) = q.num := by rw [val_limbs]; exact sgn_self q.num
  have e4 : sgn (decide ((q.den : Int) < 0)) (val (limbs (q.den : Int).natAbs)) = (q.den : Int) := by rw [val_limbs]; exact sgn_self (q.den : Int)
  unfold okQ
  rw [k2, k4, e3, e4, decide_eq_true (show 0 < (q.den : Int) by have := q.den_pos; omega)]
  rw [decide_eq_true (show Nat.gcd q.num.natAbs (q.den : Int).natAbs = 1 from q.reduced)]
  rfl
theorem kVl_ok {E : Env} (hE : QEnv E) {f : Nat} (hc : ∀ (w : World) (v : Value) (s1 s2 : Bool) (xs1 xs2 : List Nat), RawQ w v s1 xs1 s2 xs2 → xs1.length ≤ 100000 → xs2.length ≤ 100000 → Calls Try.prog f #[v] w fun e w' => e = .returned (.bool (okQ s1 xs1 s2 xs2)) ∧ Ext w w')
    (hb : ∃ fn, Try.prog.funcs[f]? = some fn ∧ fn.name ≠ "runtime.NumGoroutine" ∧ fn.body.isNone = false) : ConOK Try.prog E f kVl := by
  refine ⟨?_, ?_, hb⟩
  · intro args As r h hG β w vs hv hlen
    unfold kVl at h
    split at h
    · split at h
      · rename_i x A m hx
        split at h
        · rename_i hm
          rw [decide_eq_true_iff] at hm
          injection h with h
          subst h
          obtain ⟨v, rfl, h1⟩ := args1 hv hlen
          obtain ⟨a, ra, ia, la⟩ := qOf_spec hE hx h1
          obtain ⟨k1, k2⟩ := rat_raw ia
          refine (hc w v _ _ _ _ k1 (Nat.le_trans la.1 hm) (Nat.le_trans la.2 hm)).mono ?_
          rintro e w' ⟨rfl, ex⟩
          exact ⟨_, rfl, one_bool.2 (by rw [k2]; rfl), ex⟩
        · cases h
      · cases h
    · cases h
  · intro args As r h x off
    unfold kVl at h
    split at h
    · split at h
      · split at h
        · injection h with h; subst h; intro e; cases e
        · cases h
      · cases h
    · cases h
end Go.Proofs.Ytdleiiboffkidaa
end

/- ---- Fva ---- -/
section
/-
  A function of a row and a number, called; Valid of rows of rational numbers.
-/
set_option maxRecDepth 100000
namespace Go.Proofs.Ytdleiiboffkidaa
open Go.RowKit

def funRv (C : Cfg) (fn : Func) (G : Asm) (cs : List Chunk) (off : Nat) (y : AV) : Option Tree :=
  match fn.body with
  | some c => exec C fn.ntmps c (fun _ S e => match e with
    | .norm => (resE C S fn.results.toList).map .leaf
    | .ret => (resE C S fn.results.toList).map .leaf
    | .exit _ => none) G ⟨fun t => if t = 0 then some (.ptr ro off) else if t = 1 then some y else none, fun x => if x = ro then some cs else none⟩
  | none => none
theorem rowv_sound {P : Program} {C : Cfg} {E : Env} (hm : P.follows .mixedOrders = true) (hC : CfgOK P E C) {G : Asm} (hG : G.holds E) {f : FuncId} {fn : Func} (hf : P.funcs[f]? = some fn) (h4 : fn.results.toList.length ≤ 4) {cs : List Chunk} {off : Nat} {y : AV} {T : Tree} (hT : funRv C fn G cs off y = some T) (hn : 2 ≤ fn.ntmps)
    (w : World) (b : Nat) (hcs : VarAt E w b cs) (h0 : sizes cs ≠ 0) (u : Value) (hy : ∀ β, y.holds E β w u) (hnp : noPtr y = true) (hwk : ∀ w', Ext w w' → C.wok w' := by intros; exact True.intro) :
    Calls P f #[pv b off, u] w fun e w' => ∃ β v, e = .returned v ∧ (toAV (T.pick E)).holds E β w' v ∧ Ext w w' := by
  unfold funRv at hT
  split at hT
  · rename_i c hb
    refine calls_of_wp hf hb ?_
    refine exec_sound (B := w.heap.size) (w0 := w) (n := fn.ntmps) hm ⟨hC, hwk⟩ c _ _ G _ T _ w hG ⟨fun _ => b, ?_⟩ hT ?_
    · refine ⟨fun t x hx => ?_, fun x ds h => ?_, fun x y hx hy _ => ?_, fun t x off' h => ?_, ?_, rfl, Nat.le_refl _, Below.refl _ _, fun x ds h => ?_⟩
      · simp only at hx
        split at hx
        · rename_i ht
          injection hx with hx
          subst hx ht
          show Array.getD _ 0 _ = pv b off
          rw [Array.getD_eq_getD_getElem?, Array.getElem?_append_left (by simp)]
          simp
        · split at hx
          · rename_i ht
            injection hx with hx
            subst hx ht
            show AV.holds E (fun _ => b) w y (Array.getD _ 1 _)
            rw [Array.getD_eq_getD_getElem?, Array.getElem?_append_left (by simp)]
            exact hy _
          · cases hx
      · simp only at h
        split at h
        · rename_i hx
          injection h with h
          subst h
          exact ⟨fun hlt => absurd hlt (by omega), hcs⟩
        · cases h
      · simp only at hx hy
        split at hx
        · split at hy
          · rename_i e1 e2; rw [e1, e2]
          · cases hy
        · cases hx
      · simp only at h
        split at h
        · injection h with h
          injection h with h1 h2
          subst h1
          simp
        · split at h
          · injection h with h
            subst h
            cases hnp
          · cases h
      · simp; omega
      · simp only at h
        split at h
        · injection h with h; subst h; exact h0
        · cases h
    · intro G' S' e T' h1 h2 h3 a' w' h4'
      have fin : (resE C S' fn.results.toList).map Tree.leaf = some T' → a'.defers = [] ∧ ∃ v, (results fn a'.tmps).run P w' = .ok v w' ∧ (∃ β v', Ending.returned v = .returned v' ∧ (toAV (T.pick E)).holds E β w' v' ∧ Ext w w') := by
        intro hh
        obtain ⟨l, hl, rfl⟩ := Option.map_eq_some_iff.1 hh
        obtain ⟨β, v, r1, r2⟩ := resE_sound hC h4' (fn := fn) (rs := fn.results.toList) (by simp) h4 hl
        obtain ⟨β', hS⟩ := h4'
        exact ⟨hS.nd, v, r1, β, v, rfl, by rw [h3]; exact r2, hS.bl⟩
      cases e with
      | norm => exact fin h1
      | ret => exact fin h1
      | exit id => cases h1
  · cases hT
/-- Valid of a struct that is short enough. -/
def kVk (k : Nat) : Con
  | [.val true [.raw i, .raw j]], G => if i % 2 == 0 && (j == i + 1 && (decide (k ≤ 1000) && (G.find (.lt (.lit k) (.rlen i)) == some false && G.find (.lt (.lit k) (.rlen j)) == some false))) then some (.val false [.b (.var (i / 2))]) else none
  | _, _ => none
theorem kVk_ok {E : Env} (hE : VEnv E) {k : Nat} : ConOK Try.prog E 38 (kVk k) := by
  refine ⟨?_, ?_, ⟨_, Try.func38, by decide +kernel, by kernel_rfl⟩⟩
  · intro args As r h hG β w vs hv hlen
    unfold kVk at h
    split at h
    · rename_i i j
      split at h
      · rename_i hlo
        injection h with h
        subst h
        simp only [Bool.and_eq_true, beq_iff_eq, decide_eq_true_iff] at hlo
        obtain ⟨hi, rfl, hk, b1, b2⟩ := hlo
        have c1 := of_decide_eq_false (Asm.find_spec hG b1)
        have c2 := of_decide_eq_false (Asm.find_spec hG b2)
        simp only [IT.den] at c1 c2
        obtain ⟨v, rfl, h1⟩ := args1 hv hlen
        refine (rvalid_rat_calls w v _ _ _ _ (one_raw2 h1) (by omega) (by omega)).mono ?_
        rintro e w' ⟨rfl, ex⟩
        exact ⟨_, rfl, one_bool.2 (by rw [← hE i hi]; rfl), ex⟩
      · cases h
    · cases h
  · intro args As r h x off
    unfold kVk at h
    split at h
    · split at h
      · injection h with h; subst h; intro e; cases e
      · cases h
    · cases h
end Go.Proofs.Ytdleiiboffkidaa
end

/- ---- Fvb ---- -/
section
/-
  Laws of rational numbers that need not be valid.
-/
set_option maxRecDepth 100000
namespace Go.Proofs.Ytdleiiboffkidaa
open Go.RowKit

def fB (b : Bool) : Tree := .leaf [(false, [.b (.lit b)])]
def tVal (k : Nat) : Nat → Nat → Tree
  | _, 0 => fB true
  | i, n + 1 => .ite (.lt (.lit k) (.rlen (2 * i))) (fB false) (.ite (.lt (.lit k) (.rlen (2 * i + 1))) (fB false) (.ite (.var i) (tVal k (i + 1) n) (fB false)))
def okv (E : Env) (k i : Nat) : Prop := (E.r (2 * i)).2.length ≤ k ∧ (E.r (2 * i + 1)).2.length ≤ k ∧ E.b i = true
theorem tVal_pick {E : Env} {k : Nat} : ∀ (n i : Nat), ∃ b, (tVal k i n).pick E = [(false, [.b (.lit b)])] ∧ (b = true ↔ ∀ j, j < n → okv E k (i + j))
  | 0, i => ⟨true, rfl, by simp⟩
  | n + 1, i => by
    obtain ⟨b, h1, h2⟩ := tVal_pick (E := E) (k := k) n (i + 1)
    have c1 : (BT.lt (.lit k) (.rlen (2 * i))).den E = decide ((E.r (2 * i)).2.length > k) := by
      show decide ((k : Int) < ((E.r (2 * i)).2.length : Int)) = _
      rw [decide_eq_decide]; omega
    have c2 : (BT.lt (.lit k) (.rlen (2 * i + 1))).den E = decide ((E.r (2 * i + 1)).2.length > k) := by
      show decide ((k : Int) < ((E.r (2 * i + 1)).2.length : Int)) = _
      rw [decide_eq_decide]; omega
    have c3 : (BT.var i).den E = E.b i := rfl
    have bad : ¬ okv E k i → ∃ b, (fB false).pick E = [(false, [.b (.lit b)])] ∧ (b = true ↔ ∀ j, j < n + 1 → okv E k (i + j)) := fun h => ⟨false, rfl, by
      constructor
      · intro h; cases h
      · intro g; exact absurd (g 0 (by omega)) h⟩
    simp only [tVal, Tree.pick, c1, c2, c3, decide_eq_true_eq]
    split
    · exact bad (fun h => by unfold okv at h; omega)
    · split
      · exact bad (fun h => by unfold okv at h; omega)
      · split
        · rename_i g1 g2 g3
          refine ⟨b, h1, ?_⟩
          rw [h2]
          constructor
          · intro h j hj
            match j with
            | 0 =>
              show okv E k i
              exact ⟨by omega, by omega, g3⟩
            | j + 1 => have := h j (by omega); rwa [show i + 1 + j = i + (j + 1) by omega] at this
          · intro h j hj
            have := h (j + 1) (by omega)
            rwa [show i + (j + 1) = i + 1 + j by omega] at this
        · rename_i g3
          exact bad (fun h => g3 h.2.2)
def rawAt (l : List RI) (i : Nat) : RI := l.getD i (false, [])
theorem okv_sm {l : List RI} {k i : Nat} : okv (bE okQ l) k i ↔ smN k (rawAt l (2 * i)) (rawAt l (2 * i + 1)) = true := by
  unfold okv smN
  simp only [Bool.and_eq_true, decide_eq_true_iff]
  exact ⟨fun h => ⟨⟨h.1, h.2.1⟩, h.2.2⟩, fun h => ⟨h.1.1, h.1.2, h.2⟩⟩
theorem valid_row {l : List RI} {n k : Nat} (hT : funRv (cfgOf [(38, kVk k)]) Try.f10 [] (rowC n) (big + n) (.val false [.n .i64 (.lit k)]) = some (tVal k 0 n)) (h0 : sizes (rowC n) ≠ 0) (w : World) (b : Nat) (h : VarAt (bE okQ l) w b (rowC n)) :
    Calls Try.prog 10 #[pv b (big + n), .int .i64 (k : Int)] w fun e w' => ∃ c, e = .returned (.bool c) ∧ (c = true ↔ ∀ i, i < n → smN k (rawAt l (2 * i)) (rawAt l (2 * i + 1)) = true) ∧ Ext w w' := by
  refine (rowv_sound mixed (cfg_ok (.cons (kVk_ok (bE_ok l)) .nil)) no_asm Try.func10 (by decide +kernel) hT (by decide +kernel) w b h h0 (.int .i64 (k : Int)) (fun β => one_num.2 rfl) rfl).mono ?_
  rintro e w' ⟨β, v, rfl, hh, ex⟩
  obtain ⟨c, h1, h2⟩ := tVal_pick (E := bE okQ l) (k := k) n 0
  rw [h1] at hh
  have := one_bool.1 hh
  subst this
  refine ⟨c, rfl, ?_, ex⟩
  rw [h2]
  constructor
  · intro h i hi; have := h i hi; rw [Nat.zero_add] at this; exact okv_sm.1 this
  · intro h i hi; rw [Nat.zero_add]; exact okv_sm.2 (h i hi)
/-- A helper that takes a row and a number, as an oracle tells. -/
def cfgV (f0 : Nat) (sm : List Chunk → Nat → Int → Option Bool) (C : Cfg) : Cfg :=
  { C with
    calls := fun f args M G => if f = f0 then (match args, M with
      | [.ptr _ off, .val false [.n .i64 (.lit z)]], [some cs, _] => (sm cs off z).map fun c => .val false [.b (.lit c)]
      | _, _ => none) else C.calls f args M G }
def RowV (E : Env) (sm : List Chunk → Nat → Int → Option Bool) : Prop := ∀ cs off z c, sm cs off z = some c → ∀ (w : World) (b : Nat), VarAt E w b cs → Calls Try.prog 10 #[pv b off, .int .i64 z] w fun e w' => e = .returned (.bool c) ∧ Ext w w'
theorem cfgV_ok {E : Env} {sm : List Chunk → Nat → Int → Option Bool} {C : Cfg} (h : CfgOK Try.prog E C) (hs : RowV E sm) : CfgOK Try.prog E (cfgV 10 sm C) := by
  refine ⟨h.zero, h.ag, h.fld, h.flds, h.bool, h.row, h.arr, ?_, ?_, ?_, h.slc, h.strT, h.cnv, h.apd, h.eq2⟩
  · intro f args M G r hr hG β w vs hwk hv hlen hm
    simp only [cfgV] at hr
    split at hr
    · rename_i hf
      subst hf
      split at hr
      · rename_i x off z cs _
        obtain ⟨c, hc, rfl⟩ := Option.map_eq_some_iff.1 hr
        obtain ⟨v, u, rfl, h1, h2⟩ := args2 hv hlen
        have h1' : v = pv (β x) off := h1
        have h2' := one_num.1 h2
        subst h1' h2'
        refine (hs cs off z c hc w (β x) (hm 0 x off cs rfl rfl)).mono ?_
        rintro e w' ⟨rfl, ex⟩
        exact ⟨_, rfl, one_bool.2 rfl, ex⟩
      · cases hr
    · exact h.calls f args M G r hr hG β w vs hwk hv hlen hm
  · intro f args M G r hr x off
    simp only [cfgV] at hr
    split at hr
    · split at hr
      · obtain ⟨c, hc, rfl⟩ := Option.map_eq_some_iff.1 hr
        intro e; cases e
      · cases hr
    · exact h.nptr f args M G r hr x off
  · intro f args M G r hr
    simp only [cfgV] at hr
    split at hr
    · rename_i hf
      subst hf
      exact ⟨_, Try.func10, by decide +kernel, by kernel_rfl⟩
    · exact h.body f args M G r hr
def isVk (k : Nat) : Nat → List Chunk → Bool
  | _, [] => true
  | i, .int (.var j) l :: cs => (j == i && l == k) && isVk k (i + 1) cs
  | _, _ => false
theorem isVk_spec {k : Nat} : ∀ {cs : List Chunk} {i : Nat}, isVk k i cs = true → cs = (List.range cs.length).map fun m => .int (.var (i + m)) k
  | [], _, _ => rfl
  | .int (.var j) l :: cs, i, h => by
    simp only [isVk, Bool.and_eq_true, beq_iff_eq] at h
    obtain ⟨⟨rfl, rfl⟩, h⟩ := h
    have := isVk_spec h
    rw [List.length_cons, List.range_succ_eq_map, List.map_cons, List.map_map, Nat.add_zero]
    congr 1
    refine Eq.trans this (List.map_congr_left fun m _ => ?_)
    show Chunk.int _ _ = Chunk.int _ _
    rw [show j + 1 + m = j + (m + 1) by omega]
  | .int (.lit _) _ :: _, _, h | .int (.rlen _) _ :: _, _, h | .int (.slen _) _ :: _, _, h | .int (.a1 _ _) _ :: _, _, h | .int (.a2 _ _ _) _ :: _, _, h | .int (.a4 _ _ _ _ _) _ :: _, _, h => by cases h
  | .b _ :: _, _, h | .n _ _ :: _, _, h | .raw _ :: _, _, h | .mag _ _ :: _, _, h | .rmag _ :: _, _, h | .fn _ :: _, _, h | .nilSlice :: _, _, h | .str _ _ :: _, _, h => by cases h
def smG (n k : Nat) (cs : List Chunk) (off : Nat) (z : Int) : Option Bool := if isVk k 0 cs && (cs.length == 2 * n && (off == big + n && z == (k : Int))) then some true else none
def smB' (n k : Nat) (cs : List Chunk) (off : Nat) (z : Int) : Option Bool := if isRaw 0 cs && (cs.length == 2 * n && (off == big + n && z == (k : Int))) then some false else none
theorem ints_rawsK {E E' : Env} {w : World} {l : Nat} : ∀ (n i : Nat) (vs : List Value), chunks E w ((List.range n).map fun k => .int (.var (i + k)) l) vs → (∀ k, k < n → E'.r (i + k) = (decide (E.i (i + k) < 0), limbs (E.i (i + k)).natAbs)) → chunks E' w ((List.range n).map fun k => .raw (i + k)) vs := by
  intro n
  induction n with
  | zero => intro i vs h _; exact h
  | succ n ih =>
    intro i vs h e
    rw [List.range_succ_eq_map, List.map_cons, List.map_map] at h ⊢
    obtain ⟨l', r, rfl, h1, h2⟩ := h
    refine ⟨l', r, rfl, int_chunk h1 (e 0 (by omega)), ?_⟩
    have key := ih (i + 1) r (by
      have : (List.range n).map ((fun k => Chunk.int (.var (i + k)) l) ∘ Nat.succ) = (List.range n).map fun k => Chunk.int (.var (i + 1 + k)) l := List.map_congr_left fun k _ => by simp only [Function.comp]; rw [show i + (k + 1) = i + 1 + k by omega]
      rw [← this]; exact h2) (fun k hk => by
        have := e (k + 1) (by omega)
        rwa [show i + (k + 1) = i + 1 + k by omega] at this)
    have : (List.range n).map ((fun k => Chunk.raw (i + k)) ∘ Nat.succ) = (List.range n).map fun k => Chunk.raw (i + 1 + k) := List.map_congr_left fun k _ => by simp only [Function.comp]; rw [show i + (k + 1) = i + 1 + k by omega]
    rw [this]; exact key
end Go.Proofs.Ytdleiiboffkidaa
end

/- ---- Fvc ---- -/
section
/-
  FilterFromRat.
-/
set_option maxRecDepth 100000
namespace Go.Proofs.Ytdleiiboffkidaa
open Go.RowKit

theorem rowV_good {qs : List Rat} {raws : List RI} {n k : Nat} (hT : funRv (cfgOf [(38, kVk k)]) Try.f10 [] (rowC n) (big + n) (.val false [.n .i64 (.lit k)]) = some (tVal k 0 n)) (h0 : sizes (rowC n) ≠ 0) (hrow : rowC n = (List.range (2 * n)).map fun m => .raw (0 + m))
    (hraw : ∀ m, m < 2 * n → rawAt raws m = (decide ((qE qs).i m < 0), limbs ((qE qs).i m).natAbs)) (hsm : ∀ j, j < n → smN k (rawAt raws (2 * j)) (rawAt raws (2 * j + 1)) = true) : RowV (qE qs) (smG n k) := by
  intro cs off z c hc w b hv
  unfold smG at hc
  split at hc
  · rename_i hb
    injection hc with hc
    subst hc
    simp only [Bool.and_eq_true, beq_iff_eq] at hb
    obtain ⟨h1, h2, rfl, rfl⟩ := hb
    have hcs := isVk_spec h1
    rw [h2] at hcs
    rw [hcs] at hv
    have hv' : VarAt (bE okQ raws) w b (rowC n) := by
      obtain ⟨vs, hc, hcell⟩ := hv
      refine ⟨vs, ?_, hcell⟩
      rw [hrow]
      exact ints_rawsK (2 * n) 0 vs hc (fun m hm => by
        rw [Nat.zero_add]
        exact hraw m hm)
    refine (valid_row hT h0 w b hv').mono ?_
    rintro e w' ⟨c, rfl, hy, ex⟩
    obtain rfl : c = true := hy.2 hsm
    exact ⟨rfl, ex⟩
  · cases hc
theorem rowV_bad {raws : List RI} {n k : Nat} (hT : funRv (cfgOf [(38, kVk k)]) Try.f10 [] (rowC n) (big + n) (.val false [.n .i64 (.lit k)]) = some (tVal k 0 n)) (h0 : sizes (rowC n) ≠ 0) (hrow : rowC n = (List.range (2 * n)).map fun m => .raw (0 + m))
    (hbad : ¬ ∀ j, j < n → smN k (rawAt raws (2 * j)) (rawAt raws (2 * j + 1)) = true) : RowV (bE okQ raws) (smB' n k) := by
  intro cs off z c hc w b hv
  unfold smB' at hc
  split at hc
  · rename_i hb
    injection hc with hc
    subst hc
    simp only [Bool.and_eq_true, beq_iff_eq] at hb
    obtain ⟨h1, h2, rfl, rfl⟩ := hb
    have hcs := isRaw_spec h1
    rw [h2] at hcs
    rw [hcs, ← hrow] at hv
    refine (valid_row hT h0 w b hv).mono ?_
    rintro e w' ⟨c, rfl, hy, ex⟩
    have : c = false := by
      cases c with
      | false => rfl
      | true => exact absurd (hy.1 rfl) hbad
    subst this
    exact ⟨rfl, ex⟩
  · cases hc
noncomputable def cBad (n k : Nat) : Cfg := cfgV 10 (smB' n k) (cfgOf [(9, kTruF)])
noncomputable def cGood (n k : Nat) : Cfg := cfgV 10 (smG n k) cLw
/-- A law of rational numbers comes out true by its walk. -/
theorem lawV_calls {C : Cfg} {E : Env} (hC : CfgOK Try.prog E C) (hw : ∀ w, C.wok w) {G : Asm} (hG : G.holds E) {f : FuncId} {fn : Func} (hf : Try.prog.funcs[f]? = some fn) (h4 : fn.results.toList.length ≤ 4) {args : List AV} (hT : okTr (funE C fn G args) = true) (hn : args.length ≤ fn.ntmps) (hp : args.all noPtr = true) (w : World) (vs : List Value) (hl : vs.length = args.length)
    (hv : ∀ (i : Nat) (x : AV), args[i]? = some x → ∃ v, vs[i]? = some v ∧ ∀ β, x.holds E β w v) : Calls Try.prog f vs.toArray w (IsT w) := by
  obtain ⟨T, hT, hall⟩ := okTr_spec hT
  refine (fun_sound mixed hC hG hf h4 hT hn hp w vs hl (fun i x hx => ?_) (fun w' _ => hw w')).mono ?_
  · obtain ⟨v, h1, h2⟩ := hv i x hx
    exact ⟨fun _ => 0, v, h1, h2 _⟩
  · rintro e w' ⟨β, v, rfl, hh, ex⟩
    rw [allT_out hall hh]
    exact ⟨rfl, ex⟩
theorem bad_ok {raws : List RI} {n k : Nat} (hr : RowV (bE okQ raws) (smB' n k)) : CfgOK Try.prog (bE okQ raws) (cBad n k) := cfgV_ok (cfg_ok (.cons kAwF_ok .nil)) hr
theorem good_ok {qs : List Rat} {n k : Nat} (hr : RowV (qE qs) (smG n k)) : CfgOK Try.prog (qE qs) (cGood n k) := cfgV_ok (cLw_ok (qE_ok _)) hr
theorem val_8 : funRv (cfgOf [(38, kVk 8)]) Try.f10 [] (rowC 1) (big + 1) (.val false [.n .i64 (.lit (8 : Nat))]) = some (tVal 8 0 1) := by kernel_rfl
def frInT : IT2 := qop 2 (.var 0, .var 1) (izT (.lit 65536))
def fl0T : IT := frLo (.var 0) (.var 1)
def fh0T : IT := frHi (.var 0) (.var 1)
def argI (l : Nat) : AV := .val true [.int (.var 0) l, .int (.var 1) l]
theorem fr_bad : okTr (funE (cBad 1 8) Try.f3 [] [argRaw 0 1]) = true := by kernel_rfl
theorem fr_good_no : okTr (funE (cGood 1 8) Try.f3 [(exT fl0T fh0T, false)] [argI 8]) = true := by kernel_rfl
theorem fr_good : okTr (funE (cGood 1 8) Try.f3 ((.le (qcmp (izT fl0T) frInT) (.lit 0), true) :: (.le (qcmp frInT (izT fh0T)) (.lit 0), true) :: (exT fl0T fh0T, true) :: (gR fl0T ++ gR fh0T)) [argI 8]) = true := by kernel_rfl
theorem filterFromRat_calls (w : World) (v : Value) (p q : RI) (h : RawQ w v p.1 p.2 q.1 q.2) : Calls Try.prog 3 #[v] w (IsT w) := by
  by_cases hc : smN 8 p q = true
  · obtain ⟨k1, k2⟩ := smN_rat h hc
    generalize rq p q = r at k1 k2
    have hr := rat_raw k1
    have hrow : RowV (qE [r]) (smG 1 8) := by
      refine rowV_good (raws := [(decide (r.num < 0), limbs r.num.natAbs), (decide ((r.den : Int) < 0), limbs (r.den : Int).natAbs)]) val_8 (by decide) rfl (fun m hm => ?_) (fun j hj => ?_)
      · match m, hm with
        | 0, _ => rfl
        | 1, _ => rfl
      · match j, hj with
        | 0, _ =>
          show smN 8 (decide (r.num < 0), limbs r.num.natAbs) (decide ((r.den : Int) < 0), limbs (r.den : Int).natAbs) = true
          unfold smN
          have l1 : (limbs r.num.natAbs).length ≤ 8 := k2.1
          have l2 : (limbs (r.den : Int).natAbs).length ≤ 8 := k2.2
          rw [hr.2, decide_eq_true l1, decide_eq_true l2]
          rfl
    have hv := one_arg (E := qE [r]) (w := w) (args := [argI 8]) (vs := [v]) rfl rfl (fun β => by
      obtain ⟨a, b, c, d, rfl, h1, h2⟩ := k1
      exact one_rat.2 ⟨a, b, c, d, rfl, h1, k2.1, h2, k2.2⟩)
    have dl : fl0T.den (qE [r]) = flR r := flR_eq r
    have dh : fh0T.den (qE [r]) = clR r := clR_eq r
    have hin := (IvIn.const r) 0
    have rI : RepQ (qE [r]) frInT (r * ((65536 : Int) : Rat)) := rep_op (f := 2) (by omega) ⟨rfl, rfl⟩ (izT_rep rfl)
    by_cases hp : Prp (flR r) (clR r)
    · obtain ⟨m1, m2, m3⟩ := hp
      refine lawV_calls (good_ok hrow) (fun _ => trivial) ?_ Try.func3 (by decide +kernel) fr_good (by decide +kernel) rfl w _ rfl hv
      exact le0_t (izT_rep dl) rI hin.1 <| le0_t rI (izT_rep dh) hin.2 <| asm_c (by rw [exT_den, dl, dh]; exact prpB_iff.2 ⟨m1, m2, m3⟩) <| asm_app (gR_of dl (by omega)) (gR_of dh (by omega))
    · exact lawV_calls (good_ok hrow) (fun _ => trivial) (asm_c (by rw [exT_den, dl, dh]; exact prpB_f hp) no_asm) Try.func3 (by decide +kernel) fr_good_no (by decide +kernel) rfl w _ rfl hv
  · have hrow : RowV (bE okQ [p, q]) (smB' 1 8) := rowV_bad val_8 (by decide) rfl (fun g => hc (g 0 (by omega)))
    exact lawV_calls (bad_ok hrow) (fun _ => trivial) no_asm Try.func3 (by decide +kernel) fr_bad (by decide +kernel) rfl w _ rfl (one_arg rfl rfl fun β => argRaw_holds h rfl rfl)
end Go.Proofs.Ytdleiiboffkidaa
end

/- ---- Fvd ---- -/
section
/-
  FilterRoot.
-/
set_option maxRecDepth 100000
namespace Go.Proofs.Ytdleiiboffkidaa
open Go.RowKit

/-- Either all facts hold, or there is a first one that does not. -/
def flipAt (ts : Asm) (i : Nat) : Asm := ts.take i ++ ((ts.drop i).take 1).map fun p => (p.1, !p.2)
theorem first_bad {E : Env} : ∀ (ts : Asm), ts.holds E ∨ ∃ i, i < ts.length ∧ (flipAt ts i).holds E
  | [] => .inl no_asm
  | p :: ts => by
    by_cases h : p.1.den E = p.2
    · rcases first_bad (E := E) ts with k | ⟨i, hi, k⟩
      · refine .inl (asm_c (t := p.1) (b := p.2) h k)
      · refine .inr ⟨i + 1, by simpa using hi, ?_⟩
        exact asm_c (t := p.1) (b := p.2) h k
    · refine .inr ⟨0, by simp, ?_⟩
      refine asm_c (t := p.1) (b := !p.2) ?_ no_asm
      cases h1 : p.1.den E <;> cases h2 : p.2 <;> simp_all
theorem sgQ'_num (a : Rat) : sgQ' a = cmpZ a.num 0 := by
  unfold sgQ'
  split
  · rename_i h
    rw [cmpZ_gt (num_pos' h)]
  · split
    · rename_i h
      subst h; rfl
    · rename_i h1 h2
      have : a.num < 0 := by
        have h3 : ¬ 0 ≤ a.num := fun k => by
          have := Rat.num_nonneg.1 k
          grind
        omega
      rw [cmpZ_lt this]
def sgI (i : Nat) : IT := .a2 3 (.var i) (.lit 0)
def afT : IT := sgI 0
def bfT : IT := .a2 2 (sgI 2) (sgI 4)
def qI (i : Nat) : IT2 := (.var i, .var (i + 1))
def cfT : IT := .a2 2 afT (qcmp (qop 2 (qI 0) (qI 0)) (qop 2 (qop 2 (qI 2) (qI 2)) (qI 4)))
def exaT (x1 x2 x3 : Bool) : IT := if x1 || x2 then afT else if x3 then bfT else cfT
theorem exa_den {E : Env} {a b c : Rat} (ha : RepQ E (qI 0) a) (hb : RepQ E (qI 2) b) (hc : RepQ E (qI 4) c) : ∃ x1 x2 x3 : Bool, (BT.eq afT bfT).den E = x1 ∧ (BT.eq bfT (.lit 0)).den E = x2 ∧ (BT.eq afT (.lit 0)).den E = x3 ∧ (exaT x1 x2 x3).den E = sg2 a b c := by
  have da : afT.den E = sgQ' a := by rw [sgQ'_num, ← ha.1]; rfl
  have db : bfT.den E = sgQ' b * sgQ' c := by rw [sgQ'_num, sgQ'_num, ← hb.1, ← hc.1]; rfl
  have dc : cfT.den E = sgQ' a * sgQ' (a * a - b * b * c) := by
    show afT.den E * (qcmp (qop 2 (qI 0) (qI 0)) (qop 2 (qop 2 (qI 2) (qI 2)) (qI 4))).den E = _
    rw [da, rep_cmp (rep_op (f := 2) (by omega) ha ha) (rep_op (f := 2) (by omega) (rep_op (f := 2) (by omega) hb hb) hc), sgQ'_num (a * a - b * b * c)]
    rfl
  refine ⟨_, _, _, rfl, rfl, rfl, ?_⟩
  have e1 : (BT.eq afT bfT).den E = decide (sgQ' a = sgQ' b * sgQ' c) := by
    show (afT.den E == bfT.den E) = _
    rw [da, db, Bool.eq_iff_iff, beq_iff_eq, decide_eq_true_iff]
  have e2 : (BT.eq bfT (.lit 0)).den E = decide (sgQ' b * sgQ' c = 0) := by
    show (bfT.den E == 0) = _
    rw [db, Bool.eq_iff_iff, beq_iff_eq, decide_eq_true_iff]
  have e3 : (BT.eq afT (.lit 0)).den E = decide (sgQ' a = 0) := by
    show (afT.den E == 0) = _
    rw [da, Bool.eq_iff_iff, beq_iff_eq, decide_eq_true_iff]
  rw [e1, e2, e3]
  unfold sg2 sumSg
  generalize hs : sgQ' a = s at *
  generalize ht : sgQ' b * sgQ' c = t at *
  by_cases h1 : s = t
  · have : exaT (decide (s = t)) (decide (t = 0)) (decide (s = 0)) = afT := by rw [decide_eq_true h1]; rfl
    rw [this, da]
    by_cases h0 : s = 0
    · rw [if_pos h0, ← h1, h0]
    · rw [if_neg h0, if_neg (by omega), if_pos h1]
  · by_cases h2 : t = 0
    · have : exaT (decide (s = t)) (decide (t = 0)) (decide (s = 0)) = afT := by rw [decide_eq_true h2]; unfold exaT; rw [Bool.or_true]; rfl
      rw [this, da]
      rw [if_neg (by omega), if_pos h2]
    · by_cases h3 : s = 0
      · have : exaT (decide (s = t)) (decide (t = 0)) (decide (s = 0)) = bfT := by rw [decide_eq_false h1, decide_eq_false h2, decide_eq_true h3]; rfl
        rw [this, db, if_pos h3]
      · have : exaT (decide (s = t)) (decide (t = 0)) (decide (s = 0)) = cfT := by rw [decide_eq_false h1, decide_eq_false h2, decide_eq_false h3]; rfl
        rw [this, dc, if_neg h3, if_neg h2, if_neg h1]
/-- The intervals of a root, as terms. -/
def faL : IT := frLo (.var 0) (.var 1)
def faH : IT := frHi (.var 0) (.var 1)
def fbL : IT := frLo (.var 2) (.var 3)
def fbH : IT := frHi (.var 2) (.var 3)
def fcL : IT := frLo (.var 4) (.var 5)
def fcH : IT := frHi (.var 4) (.var 5)
def fsL : IT := sqLoT fcL
def fsH : IT := sqHiT fcH
def fmL : IT := muLo fbL fbH fsL fsH
def fmH : IT := muHi fbL fbH fsL fsH
def fxL : IT := adLo faL faH fmL fmH
def fxH : IT := adHi faL faH fmL fmH
def tsR : Asm := [(exT faL faH, true), (.lt (sgI 4) (.lit 0), false), (exT fcL fcH, true), (.lt fcH (.lit 0), false), (exT fsL fsH, true), (exT fbL fbH, true), (exT fmL fmH, true), (exT fxL fxH, true)]
/-- What is known of the sign of an interval: 1, -1, 0, or nothing. -/
def sgnG (x y : IT) : Nat → Asm
  | 0 => [(.lt (.lit 0) x, true)]
  | 1 => [(.lt (.lit 0) x, false), (.lt y (.lit 0), true)]
  | 2 => [(.lt (.lit 0) x, false), (.lt y (.lit 0), false), (.and (.eq x (.lit 0)) (.eq y (.lit 0)), true)]
  | _ => [(.lt (.lit 0) x, false), (.lt y (.lit 0), false), (.and (.eq x (.lit 0)) (.eq y (.lit 0)), false)]
def sgnN : Nat → Int
  | 0 => 1
  | 1 => -1
  | _ => 0
theorem sgnG_ok {E : Env} {x y : IT} {a b : Int} (hx : x.den E = a) (hy : y.den E = b) : ∃ n, n < 4 ∧ (sgnG x y n).holds E ∧ (n < 3 → ivSg a b = some (sgnN n)) := by
  subst hx hy
  by_cases h1 : 0 < x.den E
  · exact ⟨0, by omega, lt_t h1 no_asm, fun _ => if_pos h1⟩
  · by_cases h2 : y.den E < 0
    · exact ⟨1, by omega, lt_f h1 <| lt_t h2 no_asm, fun _ => by unfold ivSg; rw [if_neg h1, if_pos h2]; rfl⟩
    · by_cases h3 : x.den E = 0 ∧ y.den E = 0
      · refine ⟨2, by omega, lt_f h1 <| lt_f h2 <| asm_c ?_ no_asm, fun _ => by unfold ivSg; rw [if_neg h1, if_neg h2, if_pos h3]; rfl⟩
        show (x.den E == 0 && y.den E == 0) = true
        rw [h3.1, h3.2]; rfl
      · refine ⟨3, by omega, lt_f h1 <| lt_f h2 <| asm_c ?_ no_asm, fun h => by omega⟩
        show (x.den E == 0 && y.den E == 0) = false
        rw [Bool.eq_false_iff]
        intro k
        rw [Bool.and_eq_true, beq_iff_eq, beq_iff_eq] at k
        exact h3 k
def gKn (n : Nat) (t : IT) : Asm := if n < 3 then [(.eq (.lit (sgnN n)) t, true)] else []
theorem gKn_ok {E : Env} {n : Nat} {t : IT} (h : n < 3 → sgnN n = t.den E) : (gKn n t).holds E := by
  unfold gKn
  split
  · rename_i k
    exact eq_t (h k) no_asm
  · exact no_asm
def vR6 : AV := .val true [.int (.var 0) 4, .int (.var 1) 4, .int (.var 2) 4, .int (.var 3) 4, .int (.var 4) 4, .int (.var 5) 4]
theorem val_4 : funRv (cfgOf [(38, kVk 4)]) Try.f10 [] (rowC 3) (big + 3) (.val false [.n .i64 (.lit (4 : Nat))]) = some (tVal 4 0 3) := by kernel_rfl
theorem frt_bad : okTr (funE (cBad 3 4) Try.f6 [] [.val true [.raw 0, .raw 1, .raw 2, .raw 3, .raw 4, .raw 5]]) = true := by kernel_rfl
noncomputable def rtW (G : Asm) : Bool := okTr (funE (cGood 3 4) Try.f6 G [vR6])
theorem frt_no : ((List.range 8).all fun i => rtW ((.eq (sgI 2) (.lit 0), false) :: flipAt tsR i)) = true := by kernel_rfl
theorem frt_rat_no : rtW ((.eq (sgI 2) (.lit 0), true) :: [(exT faL faH, false)]) = true := by kernel_rfl
theorem frt_rat : ((List.range 4).all fun n => rtW ((.eq (sgI 2) (.lit 0), true) :: (exT faL faH, true) :: (sgnG faL faH n ++ gKn n afT))) = true := by kernel_rfl
theorem frt_all : ((List.range 4).all fun n => bools.all fun x1 => bools.all fun x2 => bools.all fun x3 => rtW ((.eq (sgI 2) (.lit 0), false) :: (tsR ++ (sgnG fxL fxH n ++ ((.eq afT bfT, x1) :: (.eq bfT (.lit 0), x2) :: (.eq afT (.lit 0), x3) :: gKn n (exaT x1 x2 x3)))))) = true := by kernel_rfl
end Go.Proofs.Ytdleiiboffkidaa
end

/- ---- Fve ---- -/
section
/-
  FilterRoot, any root.
-/
set_option maxRecDepth 100000
namespace Go.Proofs.Ytdleiiboffkidaa
open Go.RowKit

theorem rawOf_at (r : Rat) (l : List RI) : rawAt ((decide (r.num < 0), limbs r.num.natAbs) :: (decide ((r.den : Int) < 0), limbs (r.den : Int).natAbs) :: l) 0 = (decide (r.num < 0), limbs r.num.natAbs) := rfl
theorem smN_of {w : World} {v : Value} {r : Rat} {k : Nat} (h : IsRat w v r) (l : LimQ k r) : smN k (decide (r.num < 0), limbs r.num.natAbs) (decide ((r.den : Int) < 0), limbs (r.den : Int).natAbs) = true := by
  unfold smN
  have l1 : (limbs r.num.natAbs).length ≤ k := l.1
  have l2 : (limbs (r.den : Int).natAbs).length ≤ k := l.2
  rw [(rat_raw h).2, decide_eq_true l1, decide_eq_true l2]
  rfl
def rawsR (a b c : Rat) : List RI := [(decide (a.num < 0), limbs a.num.natAbs), (decide ((a.den : Int) < 0), limbs (a.den : Int).natAbs), (decide (b.num < 0), limbs b.num.natAbs), (decide ((b.den : Int) < 0), limbs (b.den : Int).natAbs), (decide (c.num < 0), limbs c.num.natAbs), (decide ((c.den : Int) < 0), limbs (c.den : Int).natAbs)]
/-- The interval of a root contains its value. -/
theorem root_in {a b c : Rat} {m : Sq} (hc : 0 ≤ c) (hm : IsRt c m) (hC : 0 ≤ clR c) : IvIn (flR a + mulLo (flR b) (clR b) (sqLo (flR c)) (sqHi (clR c))) (clR a + mulHi (flR b) (clR b) (sqLo (flR c)) (sqHi (clR c))) fun k => a + b * m k := by
  have hs : IvIn (sqLo (flR c)) (sqHi (clR c)) m := by
    obtain ⟨h1, h2⟩ := sqLo_spec (flR c)
    obtain ⟨h3, h4⟩ := sqHi_spec hC
    exact IvIn.sqrt hc hm (IvIn.const c) h1 h2 h3 h4
  exact (IvIn.const a).add ((IvIn.const b).mul hs)
theorem filterRoot_calls (w : World) (v : Value) (p1 p2 p3 p4 p5 p6 : RI) (h : RawR w v p1 p2 p3 p4 p5 p6) : Calls Try.prog 6 #[v] w (IsT w) := by
  by_cases hs : smN 4 p1 p2 = true ∧ smN 4 p3 p4 = true ∧ smN 4 p5 p6 = true
  · obtain ⟨h1, h2, h3⟩ := hs
    obtain ⟨hr, l1, l2, l3⟩ := h.root h1 h2 h3
    generalize rq p1 p2 = a at *
    generalize rq p3 p4 = b at *
    generalize rq p5 p6 = c at *
    have hr' := hr
    obtain ⟨x, y, z, rfl, i1, i2, i3⟩ := hr
    have hrow : RowV (qE [a, b, c]) (smG 3 4) := by
      refine rowV_good (raws := rawsR a b c) val_4 (by decide) rfl (fun m hm => ?_) (fun j hj => ?_)
      · match m, hm with
        | 0, _ => rfl
        | 1, _ => rfl
        | 2, _ => rfl
        | 3, _ => rfl
        | 4, _ => rfl
        | 5, _ => rfl
      · match j, hj with
        | 0, _ => exact smN_of i1 l1
        | 1, _ => exact smN_of i2 l2
        | 2, _ => exact smN_of i3 l3
    obtain ⟨E, hE⟩ : ∃ E, E = qE [a, b, c] := ⟨_, rfl⟩
    have ra : RepQ E (qI 0) a := by rw [hE]; exact ⟨rfl, rfl⟩
    have rb : RepQ E (qI 2) b := by rw [hE]; exact ⟨rfl, rfl⟩
    have rc : RepQ E (qI 4) c := by rw [hE]; exact ⟨rfl, rfl⟩
    have hv := one_arg (E := E) (w := w) (args := [vR6]) (vs := [.agg (x ++ (y ++ z)).toArray]) rfl rfl (fun β => (one_rt ra rb rc).2 ⟨hr', l1, l2, l3⟩)
    have fin : ∀ G : Asm, G.holds E → rtW G = true → Calls Try.prog 6 #[.agg (x ++ (y ++ z)).toArray] w (IsT w) := fun G hG hT => by
      rw [hE] at hG hv
      exact lawV_calls (good_ok hrow) (fun _ => trivial) hG Try.func6 (by decide +kernel) hT (by decide +kernel) rfl w _ rfl hv
    have daL : faL.den E = flR a := by show dq (E.i 0 * 65536) (E.i 1) = _; rw [show E.i 0 = a.num from ra.1, show E.i 1 = (a.den : Int) from ra.2]; exact flR_eq a
    have daH : faH.den E = clR a := by show -dq (-(E.i 0 * 65536)) (E.i 1) = _; rw [show E.i 0 = a.num from ra.1, show E.i 1 = (a.den : Int) from ra.2]; exact clR_eq a
    have dbL : fbL.den E = flR b := by show dq (E.i 2 * 65536) (E.i 3) = _; rw [show E.i 2 = b.num from rb.1, show E.i 3 = (b.den : Int) from rb.2]; exact flR_eq b
    have dbH : fbH.den E = clR b := by show -dq (-(E.i 2 * 65536)) (E.i 3) = _; rw [show E.i 2 = b.num from rb.1, show E.i 3 = (b.den : Int) from rb.2]; exact clR_eq b
    have dcL : fcL.den E = flR c := by show dq (E.i 4 * 65536) (E.i 5) = _; rw [show E.i 4 = c.num from rc.1, show E.i 5 = (c.den : Int) from rc.2]; exact flR_eq c
    have dcH : fcH.den E = clR c := by show -dq (-(E.i 4 * 65536)) (E.i 5) = _; rw [show E.i 4 = c.num from rc.1, show E.i 5 = (c.den : Int) from rc.2]; exact clR_eq c
    have dsL : fsL.den E = sqLo (flR c) := sqLoT_den dcL
    have dsH : fsH.den E = sqHi (clR c) := sqHiT_den dcH
    have dxL : fxL.den E = flR a + mulLo (flR b) (clR b) (sqLo (flR c)) (sqHi (clR c)) := by
      show faL.den E + fmL.den E = _
      unfold fmL
      rw [muLo_den, daL, dbL, dbH, dsL, dsH]
    have dxH : fxH.den E = clR a + mulHi (flR b) (clR b) (sqLo (flR c)) (sqHi (clR c)) := by
      show faH.den E + fmH.den E = _
      unfold fmH
      rw [muHi_den, daH, dbL, dbH, dsL, dsH]
    have dsg : ∀ (i : Nat) (q : Rat), RepQ E (qI i) q → (sgI i).den E = sgQ' q := fun i q hq => by rw [sgQ'_num, ← hq.1]; rfl
    by_cases hB : sgQ' b = 0
    · have fB : (BT.eq (sgI 2) (.lit 0)).den E = true := by
        show ((sgI 2).den E == 0) = true
        rw [dsg 2 b rb, hB]; rfl
      by_cases hA : Prp (flR a) (clR a)
      · obtain ⟨n, hn, hg, hk⟩ := sgnG_ok daL daH
        refine fin _ ?_ (List.all_eq_true.1 frt_rat n (List.mem_range.2 hn))
        refine asm_c fB <| asm_c (by rw [exT_den, daL, daH]; exact prpB_iff.2 hA) <| asm_app hg (gKn_ok fun h3 => ?_)
        have := ivSg_spec (hk h3) (IvIn.const a)
        rw [show afT.den E = sgQ' a from dsg 0 a ra]
        exact this.unique (hasSg_const a)
      · exact fin _ (asm_c fB <| asm_c (by rw [exT_den, daL, daH]; exact prpB_f hA) no_asm) frt_rat_no
    · have fB : (BT.eq (sgI 2) (.lit 0)).den E = false := by
        show ((sgI 2).den E == 0) = false
        rw [dsg 2 b rb]
        exact beq_eq_false_iff_ne.2 hB
      rcases first_bad (E := E) tsR with hall | ⟨i, hi, hbad⟩
      · have hC0 : ¬ sgQ' c < 0 := by
          have := hall (.lt (sgI 4) (.lit 0), false) (by simp [tsR])
          have := of_decide_eq_false this
          rw [dsg 4 c rc] at this
          exact this
        have hc : 0 ≤ c := by
          rw [sgQ'_num] at hC0
          exact Rat.num_nonneg.1 (by
            refine Decidable.byContradiction fun k => hC0 ?_
            rw [cmpZ_lt (by omega)]; omega)
        have hCH : 0 ≤ clR c := by
          have := of_decide_eq_false (hall (.lt fcH (.lit 0), false) (by simp [tsR]))
          rw [dcH] at this
          exact Int.not_lt.1 this
        obtain ⟨m, hm⟩ := exists_rt hc
        have hin := root_in (a := a) (b := b) hc hm hCH
        obtain ⟨n, hn, hg, hk⟩ := sgnG_ok dxL dxH
        obtain ⟨x1, x2, x3, e1, e2, e3, e4⟩ := exa_den ra rb rc
        refine fin _ ?_ (List.all_eq_true.1 (List.all_eq_true.1 (List.all_eq_true.1 (List.all_eq_true.1 frt_all n (List.mem_range.2 hn)) x1 (bools_mem x1)) x2 (bools_mem x2)) x3 (bools_mem x3))
        refine asm_c fB <| asm_app hall <| asm_app hg <| asm_c e1 <| asm_c e2 <| asm_c e3 <| gKn_ok fun h3 => ?_
        rw [e4]
        exact (ivSg_spec (hk h3) hin).unique (sqv2 hc hm)
      · exact fin _ (asm_c fB hbad) (List.all_eq_true.1 frt_no i (List.mem_range.2 hi))
  · have hrow : RowV (bE okQ [p1, p2, p3, p4, p5, p6]) (smB' 3 4) := rowV_bad val_4 (by decide) rfl (fun g => hs ⟨g 0 (by omega), g 1 (by omega), g 2 (by omega)⟩)
    exact lawV_calls (bad_ok hrow) (fun _ => trivial) no_asm Try.func6 (by decide +kernel) frt_bad (by decide +kernel) rfl w _ rfl (one_arg rfl rfl fun β => (one_rwC (i := 0)).2 h)
end Go.Proofs.Ytdleiiboffkidaa
end

/- ---- Fvf ---- -/
section
/-
  FilterSide: terms and walks.
-/
set_option maxRecDepth 100000
namespace Go.Proofs.Ytdleiiboffkidaa
open Go.RowKit

/-- Structs of rational numbers, one after another. -/
def RatsV (w : World) : List Value → List (RI × RI) → Prop
  | vs, [] => vs = []
  | vs, p :: l => ∃ x r, vs = x ++ r ∧ RawQ w (.agg x.toArray) p.1.1 p.1.2 p.2.1 p.2.2 ∧ RatsV w r l
def rawC : Nat → Nat → List Chunk
  | _, 0 => []
  | i, n + 1 => .raw i :: .raw (i + 1) :: rawC (i + 2) n
def intC (k : Nat) : Nat → Nat → List Chunk
  | _, 0 => []
  | i, n + 1 => .int (.var i) k :: .int (.var (i + 1)) k :: intC k (i + 2) n
theorem raws_hold {E : Env} {w : World} : ∀ (l : List (RI × RI)) (i : Nat) (vs : List Value), RatsV w vs l → (∀ j p, l[j]? = some p → E.r (i + 2 * j) = p.1 ∧ E.r (i + 2 * j + 1) = p.2) → chunks E w (rawC i l.length) vs
  | [], _, _, h, _ => h
  | p :: l, i, vs, h, e => by
    obtain ⟨x, r, rfl, h1, h2⟩ := h
    refine two_raws.2 ⟨x, r, rfl, ?_, raws_hold l (i + 2) r h2 fun j q hq => ?_⟩
    · obtain ⟨e1, e2⟩ := e 0 p rfl
      rw [Nat.mul_zero, Nat.add_zero] at e1 e2
      rw [e1, e2]
      exact h1
    · have := e (j + 1) q hq
      rwa [show i + 2 * (j + 1) = i + 2 + 2 * j by omega] at this
theorem ints_hold {E : Env} {w : World} {k : Nat} : ∀ (l : List (RI × RI)) (i : Nat) (vs : List Value), RatsV w vs l → (∀ j p, l[j]? = some p → smN k p.1 p.2 = true ∧ RepQ E (qI (i + 2 * j)) (rq p.1 p.2)) → chunks E w (intC k i l.length) vs
  | [], _, _, h, _ => h
  | p :: l, i, vs, h, e => by
    obtain ⟨x, r, rfl, h1, h2⟩ := h
    obtain ⟨e1, e2⟩ := e 0 p rfl
    obtain ⟨k1, k2⟩ := smN_rat h1 e1
    rw [Nat.mul_zero, Nat.add_zero] at e2
    refine (two_chunks e2).2 ⟨x, r, rfl, ⟨k1, k2⟩, ints_hold l (i + 2) r h2 fun j q hq => ?_⟩
    have := e (j + 1) q hq
    rwa [show i + 2 * (j + 1) = i + 2 + 2 * j by omega] at this
/-- The exact sign of a root, as terms. -/
def sgQT (A : IT2) : IT := .a2 3 A.1 (.lit 0)
def ebT (B C : IT2) : IT := .a2 2 (sgQT B) (sgQT C)
def ecT (A B C : IT2) : IT := .a2 2 (sgQT A) (qcmp (qop 2 A A) (qop 2 (qop 2 B B) C))
def exQ (A B C : IT2) (x1 x2 x3 : Bool) : IT := if x1 || x2 then sgQT A else if x3 then ebT B C else ecT A B C
theorem exQ_den {E : Env} {A B C : IT2} {a b c : Rat} (ha : RepQ E A a) (hb : RepQ E B b) (hc : RepQ E C c) : ∃ x1 x2 x3 : Bool, (BT.eq (sgQT A) (ebT B C)).den E = x1 ∧ (BT.eq (ebT B C) (.lit 0)).den E = x2 ∧ (BT.eq (sgQT A) (.lit 0)).den E = x3 ∧ (exQ A B C x1 x2 x3).den E = sg2 a b c := by
  have da : (sgQT A).den E = sgQ' a := by rw [sgQ'_num, ← ha.1]; rfl
  have db : (ebT B C).den E = sgQ' b * sgQ' c := by rw [sgQ'_num, sgQ'_num, ← hb.1, ← hc.1]; rfl
  have dc : (ecT A B C).den E = sgQ' a * sgQ' (a * a - b * b * c) := by
    show (sgQT A).den E * (qcmp (qop 2 A A) (qop 2 (qop 2 B B) C)).den E = _
    rw [da, rep_cmp (rep_op (f := 2) (by omega) ha ha) (rep_op (f := 2) (by omega) (rep_op (f := 2) (by omega) hb hb) hc), sgQ'_num (a * a - b * b * c)]
    rfl
  refine ⟨_, _, _, rfl, rfl, rfl, ?_⟩
  have e1 : (BT.eq (sgQT A) (ebT B C)).den E = decide (sgQ' a = sgQ' b * sgQ' c) := by
    show ((sgQT A).den E == (ebT B C).den E) = _
    rw [da, db, Bool.eq_iff_iff, beq_iff_eq, decide_eq_true_iff]
  have e2 : (BT.eq (ebT B C) (.lit 0)).den E = decide (sgQ' b * sgQ' c = 0) := by
    show ((ebT B C).den E == 0) = _
    rw [db, Bool.eq_iff_iff, beq_iff_eq, decide_eq_true_iff]
  have e3 : (BT.eq (sgQT A) (.lit 0)).den E = decide (sgQ' a = 0) := by
    show ((sgQT A).den E == 0) = _
    rw [da, Bool.eq_iff_iff, beq_iff_eq, decide_eq_true_iff]
  rw [e1, e2, e3]
  unfold sg2 sumSg
  generalize hs : sgQ' a = s at *
  generalize ht : sgQ' b * sgQ' c = t at *
  by_cases h1 : s = t
  · have : exQ A B C (decide (s = t)) (decide (t = 0)) (decide (s = 0)) = sgQT A := by rw [decide_eq_true h1]; rfl
    rw [this, da]
    by_cases h0 : s = 0
    · rw [if_pos h0, ← h1, h0]
    · rw [if_neg h0, if_neg (by omega), if_pos h1]
  · by_cases h2 : t = 0
    · have : exQ A B C (decide (s = t)) (decide (t = 0)) (decide (s = 0)) = sgQT A := by rw [decide_eq_true h2]; unfold exQ; rw [Bool.or_true]; rfl
      rw [this, da]
      rw [if_neg (by omega), if_pos h2]
    · by_cases h3 : s = 0
      · have : exQ A B C (decide (s = t)) (decide (t = 0)) (decide (s = 0)) = ebT B C := by rw [decide_eq_false h1, decide_eq_false h2, decide_eq_true h3]; rfl
        rw [this, db, if_pos h3]
      · have : exQ A B C (decide (s = t)) (decide (t = 0)) (decide (s = 0)) = ecT A B C := by rw [decide_eq_false h1, decide_eq_false h2, decide_eq_false h3]; rfl
        rw [this, dc, if_neg h3, if_neg h2, if_neg h1]
/-- Intervals of numbers, roots and products, as terms and as numbers. -/
def qL (q : IT2) : IT := frLo q.1 q.2
def qH (q : IT2) : IT := frHi q.1 q.2
theorem qL_den {E : Env} {q : IT2} {a : Rat} (h : RepQ E q a) : (qL q).den E = flR a := by
  show dq (q.1.den E * 65536) (q.2.den E) = _
  rw [h.1, h.2]; exact flR_eq a
theorem qH_den {E : Env} {q : IT2} {a : Rat} (h : RepQ E q a) : (qH q).den E = clR a := by
  show -dq (-(q.1.den E * 65536)) (q.2.den E) = _
  rw [h.1, h.2]; exact clR_eq a
def rbL (b c : IT2) : IT := muLo (qL b) (qH b) (sqLoT (qL c)) (sqHiT (qH c))
def rbH (b c : IT2) : IT := muHi (qL b) (qH b) (sqLoT (qL c)) (sqHiT (qH c))
def rtL (z : Bool) (a b c : IT2) : IT := if z then qL a else .a2 0 (qL a) (rbL b c)
def rtH (z : Bool) (a b c : IT2) : IT := if z then qH a else .a2 0 (qH a) (rbH b c)
def tsRt (z : Bool) (a b c : IT2) : Asm := (exT (qL a) (qH a), true) :: if z then [] else [(.lt (sgQT c) (.lit 0), false), (exT (qL c) (qH c), true), (.lt (qH c) (.lit 0), false), (exT (sqLoT (qL c)) (sqHiT (qH c)), true), (exT (qL b) (qH b), true), (exT (rbL b c) (rbH b c), true), (exT (rtL false a b c) (rtH false a b c), true)]
def rtLv (z : Bool) (a b c : Rat) : Int := if z then flR a else flR a + mulLo (flR b) (clR b) (sqLo (flR c)) (sqHi (clR c))
def rtHv (z : Bool) (a b c : Rat) : Int := if z then clR a else clR a + mulHi (flR b) (clR b) (sqLo (flR c)) (sqHi (clR c))
theorem rtL_den {E : Env} {A B C : IT2} {a b c : Rat} (z : Bool) (ha : RepQ E A a) (hb : RepQ E B b) (hc : RepQ E C c) : (rtL z A B C).den E = rtLv z a b c := by
  cases z
  · show (qL A).den E + (rbL B C).den E = _
    unfold rbL
    rw [muLo_den, qL_den ha, qL_den hb, qH_den hb, sqLoT_den (qL_den hc), sqHiT_den (qH_den hc)]; rfl
  · exact qL_den ha
theorem rtH_den {E : Env} {A B C : IT2} {a b c : Rat} (z : Bool) (ha : RepQ E A a) (hb : RepQ E B b) (hc : RepQ E C c) : (rtH z A B C).den E = rtHv z a b c := by
  cases z
  · show (qH A).den E + (rbH B C).den E = _
    unfold rbH
    rw [muHi_den, qH_den ha, qL_den hb, qH_den hb, sqLoT_den (qL_den hc), sqHiT_den (qH_den hc)]; rfl
  · exact qH_den ha
theorem clR_nonneg {c : Rat} (h : 0 ≤ c) : 0 ≤ clR c := by
  have h1 := Rat.floor_le (-(c * 65536))
  unfold clR
  have : ((-(c * 65536)).floor : Rat) ≤ ((0 : Int) : Rat) := by
    have : ((0 : Int) : Rat) = 0 := rfl
    grind
  have := Rat.intCast_le_intCast.1 this
  omega
theorem rt_in {a b c : Rat} {m : Sq} (z : Bool) (hz : z = true → b = 0) (hc : 0 ≤ c) (hm : IsRt c m) : IvIn (rtLv z a b c) (rtHv z a b c) fun k => a + b * m k := by
  cases z
  · exact root_in hc hm (clR_nonneg hc)
  · have := IvIn.const a
    intro k
    have h := this k
    rw [hz rfl]
    show (flR a : Rat) ≤ (a + 0 * m k) * 65536 ∧ (a + 0 * m k) * 65536 ≤ (clR a : Rat)
    constructor <;> grind
def sdA : IT2 := qop 1 (qop 0 (qop 2 (qI 0) (qI 6)) (qop 2 (qI 2) (qI 10))) (qI 4)
def sdB : IT2 := qop 0 (qop 2 (qI 0) (qI 8)) (qop 2 (qI 2) (qI 12))
def aLn : AV := .val true (intC 3 0 3)
def aPt : AV := .val true (intC 3 6 5)
theorem val_3 : funRv (cfgOf [(38, kVk 3)]) Try.f10 [] (rowC 8) (big + 8) (.val false [.n .i64 (.lit (3 : Nat))]) = some (tVal 3 0 8) := by kernel_rfl
theorem sd_bad : okTr (funE (cBad 8 3) Try.f7 [] [.val true (rawC 0 3), .val true (rawC 6 5)]) = true := by kernel_rfl
end Go.Proofs.Ytdleiiboffkidaa
end

/- ---- Fvg ---- -/
section
/-
  Root, of the program and of the reference: an interval that contains the value, or none.
-/
set_option maxRecDepth 100000
namespace Go.Proofs.Ytdleiiboffkidaa
open Go.RowKit

/-- Walks that end in one interval, or all in none. -/
def isIvO (x y : IT) : Option Tree → Bool
  | some T => isIv x y T
  | none => false
def isNoO : Option Tree → Bool
  | some T => isNo T
  | none => false
theorem ivO_calls {C : Cfg} {E : Env} (hC : CfgOK Try.prog E C) (hw : ∀ w, C.wok w) {G : Asm} (hG : G.holds E) {f : FuncId} {fn : Func} (hf : Try.prog.funcs[f]? = some fn) (h4 : fn.results.toList.length ≤ 4) {args : List AV} {x y : IT} {a b : Int} (hT : isIvO x y (funE C fn G args) = true) (hx : x.den E = a) (hy : y.den E = b) (hn : args.length ≤ fn.ntmps) (hp : args.all noPtr = true) (w : World) (vs : List Value) (hl : vs.length = args.length)
    (hv : ∀ (i : Nat) (x : AV), args[i]? = some x → ∃ v, vs[i]? = some v ∧ ∀ β, x.holds E β w v) : Calls Try.prog f vs.toArray w (RetIv (some (a, b)) w) := by
  unfold isIvO at hT
  split at hT
  · rename_i T hT'
    refine (fun_sound mixed hC hG hf h4 hT' hn hp w vs hl (fun i x hx => ?_) (fun w' _ => hw w')).mono ?_
    · obtain ⟨v, h1, h2⟩ := hv i x hx
      exact ⟨fun _ => 0, v, h1, h2 _⟩
    · rintro e w' ⟨β, v, rfl, hh, ex⟩
      rw [isIv_pick hT] at hh
      rw [ivL_out hh, hx, hy]
      exact ⟨rfl, ex⟩
  · cases hT
theorem noO_calls {C : Cfg} {E : Env} (hC : CfgOK Try.prog E C) (hw : ∀ w, C.wok w) {G : Asm} (hG : G.holds E) {f : FuncId} {fn : Func} (hf : Try.prog.funcs[f]? = some fn) (h4 : fn.results.toList.length ≤ 4) {args : List AV} (hT : isNoO (funE C fn G args) = true) (hn : args.length ≤ fn.ntmps) (hp : args.all noPtr = true) (w : World) (vs : List Value) (hl : vs.length = args.length)
    (hv : ∀ (i : Nat) (x : AV), args[i]? = some x → ∃ v, vs[i]? = some v ∧ ∀ β, x.holds E β w v) : Calls Try.prog f vs.toArray w (RetIv none w) := by
  unfold isNoO at hT
  split at hT
  · rename_i T hT'
    refine (fun_sound mixed hC hG hf h4 hT' hn hp w vs hl (fun i x hx => ?_) (fun w' _ => hw w')).mono ?_
    · obtain ⟨v, h1, h2⟩ := hv i x hx
      exact ⟨fun _ => 0, v, h1, h2 _⟩
    · rintro e w' ⟨β, v, rfl, hh, ex⟩
      rw [isNo_pick hT] at hh
      rw [noL_out hh]
      exact ⟨rfl, ex⟩
  · cases hT
def aRt : AV := .val true (rt (qI 0) (qI 2) (qI 4) 40)
def gZ (z : Bool) : Asm := [(.eq (sgQT (qI 2)) (.lit 0), z)]
noncomputable def pRt (G : Asm) : Option Tree := funE cLw1 Try.f26 G [aRt]
noncomputable def rRt (G : Asm) : Option Tree := funE cLw1 Try.f27 G [aRt]
theorem rt_yes : (bools.all fun z => isIvO (rtL z (qI 0) (qI 2) (qI 4)) (rtH z (qI 0) (qI 2) (qI 4)) (pRt (gZ z ++ tsRt z (qI 0) (qI 2) (qI 4))) && isIvO (rtL z (qI 0) (qI 2) (qI 4)) (rtH z (qI 0) (qI 2) (qI 4)) (rRt (gZ z ++ tsRt z (qI 0) (qI 2) (qI 4)))) = true := by kernel_rfl
theorem rt_no : (bools.all fun z => (List.range 8).all fun i => decide ((tsRt z (qI 0) (qI 2) (qI 4)).length ≤ i) || (isNoO (pRt (gZ z ++ flipAt (tsRt z (qI 0) (qI 2) (qI 4)) i)) && isNoO (rRt (gZ z ++ flipAt (tsRt z (qI 0) (qI 2) (qI 4)) i)))) = true := by kernel_rfl
/-- What Root returns. -/
structure RootIv (a b c : Rat) (o : Option (Int × Int)) : Prop where
  prog : ∀ (w : World) (v : Value), IsRoot w v a b c → LimR 40 a b c → Calls Try.prog 26 #[v] w (RetIv o w)
  ref : ∀ (w : World) (v : Value), IsRoot w v a b c → LimR 40 a b c → Calls Try.prog 27 #[v] w (RetIv o w)
  holds : ∀ L H, o = some (L, H) → Prp L H ∧ ∀ m, 0 ≤ c → IsRt c m → IvIn L H fun k => a + b * m k
theorem root_iv (a b c : Rat) : ∃ o, RootIv a b c o := by
  obtain ⟨E, hE⟩ : ∃ E, E = qE [a, b, c] := ⟨_, rfl⟩
  have hQ : QEnv E := by rw [hE]; exact qE_ok _
  have ra : RepQ E (qI 0) a := by rw [hE]; exact ⟨rfl, rfl⟩
  have rb : RepQ E (qI 2) b := by rw [hE]; exact ⟨rfl, rfl⟩
  have rc : RepQ E (qI 4) c := by rw [hE]; exact ⟨rfl, rfl⟩
  have hv : ∀ (w : World) (v : Value), IsRoot w v a b c → LimR 40 a b c → ∀ (i : Nat) (x : AV), [aRt][i]? = some x → ∃ u, [v][i]? = some u ∧ ∀ β, x.holds E β w u := fun w v h l => one_arg rfl rfl fun β => (one_rt ra rb rc).2 ⟨h, l⟩
  obtain ⟨z, hz⟩ : ∃ z : Bool, z = decide (sgQ' b = 0) := ⟨_, rfl⟩
  have gz : (gZ z).holds E := by
    refine asm_c ?_ no_asm
    show ((sgQT (qI 2)).den E == 0) = z
    rw [show (sgQT (qI 2)).den E = sgQ' b by rw [sgQ'_num, ← rb.1]; rfl, hz, Bool.eq_iff_iff, beq_iff_eq, decide_eq_true_iff]
  have zb : z = true → b = 0 := fun h => by
    rw [h] at hz
    have := of_decide_eq_true hz.symm
    rw [sgQ'_num] at this
    refine Rat.num_eq_zero.1 ?_
    rcases cmpZ_cases b.num 0 with ⟨_, e⟩ | ⟨_, e⟩ | ⟨_, e⟩ <;> omega
  have dl := rtL_den z ra rb rc
  have dh := rtH_den z ra rb rc
  rcases first_bad (E := E) (tsRt z (qI 0) (qI 2) (qI 4)) with hall | ⟨i, hi, hbad⟩
  · have hw := List.all_eq_true.1 rt_yes z (bools_mem z)
    rw [Bool.and_eq_true] at hw
    refine ⟨some (rtLv z a b c, rtHv z a b c), ?_, ?_, ?_⟩
    · intro w v h l
      exact ivO_calls (cLw1_ok hQ) (fun _ => trivial) (asm_app gz hall) Try.func26 (by decide +kernel) hw.1 dl dh (by decide +kernel) rfl w _ rfl (hv w v h l)
    · intro w v h l
      exact ivO_calls (cLw1_ok hQ) (fun _ => trivial) (asm_app gz hall) Try.func27 (by decide +kernel) hw.2 dl dh (by decide +kernel) rfl w _ rfl (hv w v h l)
    · intro L H e
      injection e with e
      injection e with e1 e2
      subst e1 e2
      refine ⟨?_, fun m hc hm => rt_in z zb hc hm⟩
      have : (exT (rtL z (qI 0) (qI 2) (qI 4)) (rtH z (qI 0) (qI 2) (qI 4))).den E = true := by
        cases z
        · exact hall (exT (rtL false (qI 0) (qI 2) (qI 4)) (rtH false (qI 0) (qI 2) (qI 4)), true) (by simp [tsRt])
        · exact hall (exT (qL (qI 0)) (qH (qI 0)), true) (by simp [tsRt])
      rw [exT_den, dl, dh] at this
      exact prpB_iff.1 this
  · have hi8 : i < 8 := by
      cases z
      · exact hi
      · have : i < 1 := hi
        omega
    have hw := List.all_eq_true.1 (List.all_eq_true.1 rt_no z (bools_mem z)) i (List.mem_range.2 hi8)
    rw [decide_eq_false (by omega), Bool.false_or, Bool.and_eq_true] at hw
    refine ⟨none, ?_, ?_, ?_⟩
    · intro w v h l
      exact noO_calls (cLw1_ok hQ) (fun _ => trivial) (asm_app gz hbad) Try.func26 (by decide +kernel) hw.1 (by decide +kernel) rfl w _ rfl (hv w v h l)
    · intro w v h l
      exact noO_calls (cLw1_ok hQ) (fun _ => trivial) (asm_app gz hbad) Try.func27 (by decide +kernel) hw.2 (by decide +kernel) rfl w _ rfl (hv w v h l)
    · intro L H e
      cases e
end Go.Proofs.Ytdleiiboffkidaa
end

/- ---- Fvh ---- -/
section
/-
  Products of a number and a root: an interval that contains them, or none.
-/
set_option maxRecDepth 100000
namespace Go.Proofs.Ytdleiiboffkidaa
open Go.RowKit

/-- A call with known arguments, and what it is known to return. -/
def resK (o : Option (IT × IT)) : AV := match o with | some p => tIv p.1 p.2 | none => tNo
def kKn (chk : List AV → Bool) (r : AV) (k : Con) : Con := fun args G => if chk args then some r else k args G
structure Known (E : Env) (f : Nat) (chk : List AV → Bool) (r : AV) : Prop where
  calls : ∀ args, chk args = true → ∀ (β : Nat → Nat) (w : World) (vs : List Value), (∀ (i : Nat) (x : AV), args[i]? = some x → ∃ v, vs[i]? = some v ∧ x.holds E β w v) → vs.length = args.length → Calls Try.prog f vs.toArray w fun e w' => ∃ v, e = .returned v ∧ (∀ β w', r.holds E β w' v) ∧ Ext w w'
  np : ∀ x off, r ≠ .ptr x off
theorem kKn_ok {E : Env} {f : Nat} {chk : List AV → Bool} {r : AV} {k : Con} (h : Known E f chk r) (hk : ConOK Try.prog E f k) : ConOK Try.prog E f (kKn chk r k) := by
  refine ⟨?_, ?_, hk.body⟩
  · intro args G s hs hG β w vs hv hl
    unfold kKn at hs
    split at hs
    · rename_i hc
      injection hs with hs
      subst hs
      refine (h.calls args hc β w vs hv hl).mono ?_
      rintro e w' ⟨v, rfl, h1, h2⟩
      exact ⟨v, rfl, h1 _ _, h2⟩
    · exact hk.calls args G s hs hG β w vs hv hl
  · intro args G s hs x off
    unfold kKn at hs
    split at hs
    · injection hs with hs
      subst hs
      exact h.np x off
    · exact hk.nptr args G s hs x off
def kNone : Con := fun _ _ => none
theorem kNone_ok {E : Env} {f : Nat} (hb : ∃ fn, Try.prog.funcs[f]? = some fn ∧ fn.name ≠ "runtime.NumGoroutine" ∧ fn.body.isNone = false) : ConOK Try.prog E f kNone := by
  refine ⟨?_, ?_, hb⟩
  · intro args G r h
    cases h
  · intro args G r h
    cases h
theorem resK_np (o : Option (IT × IT)) : ∀ x off, resK o ≠ .ptr x off := by
  intro x off e
  cases o <;> cases e
theorem resK_holds {E : Env} {β : Nat → Nat} {w : World} {o : Option (IT × IT)} {u : Option (Int × Int)} (h : u = o.map fun p => (p.1.den E, p.2.den E)) : (resK o).holds E β w (ivV u) := by
  subst h
  cases o with
  | none => exact tNo_holds
  | some p => exact tIv_holds rfl rfl
/-- Rational variables, with short parts. -/
def isQv (i : Nat) : List Chunk → Bool
  | [.int (.var j) l, .int (.var k) m] => j == i && (k == i + 1 && (decide (l ≤ 40) && decide (m ≤ 40)))
  | _ => false
def isQa (i : Nat) : AV → Bool
  | .val true cs => isQv i cs
  | _ => false
def isRa (a b c : Nat) : AV → Bool
  | .val true [x, y, z, t, u, s] => isQv a [x, y] && (isQv b [z, t] && isQv c [u, s])
  | _ => false
theorem isQv_spec {i : Nat} {cs : List Chunk} (h : isQv i cs = true) : ∃ l m, cs = [.int (.var i) l, .int (.var (i + 1)) m] ∧ l ≤ 40 ∧ m ≤ 40 := by
  unfold isQv at h
  split at h
  · simp only [Bool.and_eq_true, beq_iff_eq, decide_eq_true_iff] at h
    obtain ⟨rfl, rfl, h1, h2⟩ := h
    exact ⟨_, _, rfl, h1, h2⟩
  · cases h
theorem isQa_holds {E : Env} {w : World} {β : Nat → Nat} {i : Nat} {x : AV} {v : Value} {q : Rat} (hq : RepQ E (qI i) q) (h : isQa i x = true) (hv : x.holds E β w v) : IsRat w v q ∧ LimQ 40 q := by
  unfold isQa at h
  split at h
  · obtain ⟨l, m, rfl, h1, h2⟩ := isQv_spec h
    obtain ⟨k1, k2, k3⟩ := (one_q (A := qI i) hq).1 hv
    exact ⟨k1, k2.mono h1, k3.mono h2⟩
  · cases h
theorem isRa_holds {E : Env} {w : World} {β : Nat → Nat} {i j k : Nat} {x : AV} {v : Value} {a b c : Rat} (ha : RepQ E (qI i) a) (hb : RepQ E (qI j) b) (hc : RepQ E (qI k) c) (h : isRa i j k x = true) (hv : x.holds E β w v) : IsRoot w v a b c ∧ LimR 40 a b c := by
  unfold isRa at h
  split at h
  · rename_i p q r s t u
    simp only [Bool.and_eq_true] at h
    obtain ⟨l1, m1, e1, b1, b2⟩ := isQv_spec h.1
    obtain ⟨l2, m2, e2, b3, b4⟩ := isQv_spec h.2.1
    obtain ⟨l3, m3, e3, b5, b6⟩ := isQv_spec h.2.2
    simp only [List.cons.injEq, and_true] at e1 e2 e3
    obtain ⟨rfl, rfl⟩ := e1
    obtain ⟨rfl, rfl⟩ := e2
    obtain ⟨rfl, rfl⟩ := e3
    obtain ⟨k1, ⟨k2, k3⟩, ⟨k4, k5⟩, k6, k7⟩ := (one_root (A := qI i) (B := qI j) (C := qI k) ha hb hc).1 hv
    exact ⟨k1, ⟨k2.mono b1, k3.mono b2⟩, ⟨k4.mono b3, k5.mono b4⟩, k6.mono b5, k7.mono b6⟩
  · cases h
def chkR (a b c : Nat) : List AV → Bool
  | [x] => isRa a b c x
  | _ => false
theorem known_root {E : Env} {f : Nat} {i j k : Nat} {a b c : Rat} {u : Option (Int × Int)} {o : Option (IT × IT)} (ha : RepQ E (qI i) a) (hb : RepQ E (qI j) b) (hc : RepQ E (qI k) c) (h : ∀ (w : World) (v : Value), IsRoot w v a b c → LimR 40 a b c → Calls Try.prog f #[v] w (RetIv u w)) (ho : u = o.map fun p => (p.1.den E, p.2.den E)) : Known E f (chkR i j k) (resK o) := by
  refine ⟨?_, resK_np o⟩
  intro args hc' β w vs hv hl
  unfold chkR at hc'
  split at hc'
  · obtain ⟨v, rfl, h1⟩ := args1 hv hl
    obtain ⟨k1, k2⟩ := isRa_holds ha hb hc hc' h1
    refine (h w v k1 k2).mono ?_
    rintro e w' ⟨rfl, ex⟩
    exact ⟨_, rfl, fun β w' => resK_holds ho, ex⟩
  · cases hc'
/-- The walks of a product: k at 0, the root at 2, 4 and 6, its interval at 8 and 10. -/
def oV (b : Bool) : Option (IT × IT) := if b then some (.var 8, .var 10) else none
noncomputable def tabTm (b : Bool) : List (Nat × Con) := (26, kKn (chkR 2 4 6) (resK (oV b)) kNone) :: (27, kKn (chkR 2 4 6) (resK (oV b)) kNone) :: tabFl4
noncomputable def cTm0 (b : Bool) : Cfg := cfgN (cfgOf (tabTm b)) needLw
noncomputable def cTm (b : Bool) : Cfg := cfgI (cTm0 b) (cTm0 b) [(60, Try.f60)]
def aQs (i : Nat) : AV := .val true [.int (.var i) 40, .int (.var (i + 1)) 40]
def tmL : IT := muLo (qL (qI 0)) (qH (qI 0)) (.var 8) (.var 10)
def tmH : IT := muHi (qL (qI 0)) (qH (qI 0)) (.var 8) (.var 10)
def tsTm : Asm := [(exT (qL (qI 0)) (qH (qI 0)), true), (exT tmL tmH, true)]
noncomputable def pTm (b : Bool) (G : Asm) : Option Tree := funE (cTm b) Try.f62 G [aQs 0, aQs 2, aQs 4, aQs 6]
noncomputable def rTm (b : Bool) (G : Asm) : Option Tree := funE (cTm b) Try.f64 G [aQs 0, .val true (rt (qI 2) (qI 4) (qI 6) 40)]
theorem tm_none : (isNoO (pTm false []) && isNoO (rTm false [])) = true := by kernel_rfl
theorem tm_yes : (isIvO tmL tmH (pTm true (gTx (.var 8) (.var 10) ++ tsTm)) && isIvO tmL tmH (rTm true (gTx (.var 8) (.var 10) ++ tsTm))) = true := by kernel_rfl
theorem tm_no : ((List.range 2).all fun i => isNoO (pTm true (gTx (.var 8) (.var 10) ++ flipAt tsTm i)) && isNoO (rTm true (gTx (.var 8) (.var 10) ++ flipAt tsTm i))) = true := by kernel_rfl
structure TermIv (k a b c : Rat) (o : Option (Int × Int)) : Prop where
  prog : ∀ (w : World) (v1 v2 v3 v4 : Value), (IsRat w v1 k ∧ LimQ 40 k) → (IsRat w v2 a ∧ LimQ 40 a) → (IsRat w v3 b ∧ LimQ 40 b) → (IsRat w v4 c ∧ LimQ 40 c) → Calls Try.prog 62 #[v1, v2, v3, v4] w (RetIv o w)
  ref : ∀ (w : World) (v u : Value), (IsRat w v k ∧ LimQ 40 k) → (IsRoot w u a b c ∧ LimR 40 a b c) → Calls Try.prog 64 #[v, u] w (RetIv o w)
  holds : ∀ L H, o = some (L, H) → Prp L H ∧ ∀ m, 0 ≤ c → IsRt c m → IvIn L H fun i => k * (a + b * m i)
theorem four_args {E : Env} {w : World} {args : List AV} {vs : List Value} {x x' x'' x3 : AV} {v v' v'' v3 : Value} (ha : args = [x, x', x'', x3]) (hv : vs = [v, v', v'', v3]) (h : ∀ β, x.holds E β w v) (h' : ∀ β, x'.holds E β w v') (h'' : ∀ β, x''.holds E β w v'') (h3 : ∀ β, x3.holds E β w v3) : ∀ (i : Nat) (y : AV), args[i]? = some y → ∃ u, vs[i]? = some u ∧ ∀ β, y.holds E β w u := by
  subst ha hv
  intro i y hy
  match i, hy with
  | 0, hy => injection hy with hy; subst hy; exact ⟨v, rfl, h⟩
  | 1, hy => injection hy with hy; subst hy; exact ⟨v', rfl, h'⟩
  | 2, hy => injection hy with hy; subst hy; exact ⟨v'', rfl, h''⟩
  | 3, hy => injection hy with hy; subst hy; exact ⟨v3, rfl, h3⟩
theorem term_iv (k a b c : Rat) : ∃ o, TermIv k a b c o := by
  obtain ⟨u, hu⟩ := root_iv a b c
  obtain ⟨s, L, H, hs⟩ : ∃ (s : Bool) (L H : Int), u = if s then some (L, H) else none := by
    cases u with
    | none => exact ⟨false, 0, 0, rfl⟩
    | some p => exact ⟨true, p.1, p.2, rfl⟩
  obtain ⟨E, hE⟩ : ∃ E, E = qE [k, a, b, c, (L : Rat), (H : Rat)] := ⟨_, rfl⟩
  have hQ : QEnv E := by rw [hE]; exact qE_ok _
  have rk : RepQ E (qI 0) k := by rw [hE]; exact ⟨rfl, rfl⟩
  have ra : RepQ E (qI 2) a := by rw [hE]; exact ⟨rfl, rfl⟩
  have rb : RepQ E (qI 4) b := by rw [hE]; exact ⟨rfl, rfl⟩
  have rc : RepQ E (qI 6) c := by rw [hE]; exact ⟨rfl, rfl⟩
  have e8 : E.i 8 = L := by rw [hE]; exact qE_int (i := 4) rfl
  have e10 : E.i 10 = H := by rw [hE]; exact qE_int (i := 5) rfl
  have ho : u = (oV s).map fun p => (p.1.den E, p.2.den E) := by
    rw [hs]
    cases s
    · rfl
    · show some (L, H) = some (E.i 8, E.i 10)
      rw [e8, e10]
  have hC : CfgOK Try.prog E (cTm s) := by
    have hT : TabOK Try.prog E (tabTm s) := .cons (kKn_ok (known_root ra rb rc hu.prog ho) (kNone_ok ⟨_, Try.func26, by decide +kernel, by kernel_rfl⟩)) <| .cons (kKn_ok (known_root ra rb rc hu.ref ho) (kNone_ok ⟨_, Try.func27, by decide +kernel, by kernel_rfl⟩)) (tabFl4_ok hQ)
    exact cfgI_ok mixed (cfgN_ok (cfg_ok hT)) (cfgN_ok (cfg_ok hT)) (fun _ => trivial) (.cons Try.func60 (by decide +kernel) (by kernel_rfl) .nil)
  have qh : ∀ {w : World} {v : Value} {i : Nat} {q : Rat}, RepQ E (qI i) q → (IsRat w v q ∧ LimQ 40 q) → ∀ β, (aQs i).holds E β w v := fun {w v i q} hq h β => (one_q (A := qI i) hq).2 ⟨h.1, h.2.1, h.2.2⟩
  have hv1 : ∀ (w : World) (v1 v2 v3 v4 : Value), (IsRat w v1 k ∧ LimQ 40 k) → (IsRat w v2 a ∧ LimQ 40 a) → (IsRat w v3 b ∧ LimQ 40 b) → (IsRat w v4 c ∧ LimQ 40 c) → ∀ (i : Nat) (x : AV), [aQs 0, aQs 2, aQs 4, aQs 6][i]? = some x → ∃ u, [v1, v2, v3, v4][i]? = some u ∧ ∀ β, x.holds E β w u := fun w v1 v2 v3 v4 h1 h2 h3 h4 => four_args rfl rfl (qh rk h1) (qh ra h2) (qh rb h3) (qh rc h4)
  have hv2 : ∀ (w : World) (v u : Value), (IsRat w v k ∧ LimQ 40 k) → (IsRoot w u a b c ∧ LimR 40 a b c) → ∀ (i : Nat) (x : AV), [aQs 0, .val true (rt (qI 2) (qI 4) (qI 6) 40)][i]? = some x → ∃ y, [v, u][i]? = some y ∧ ∀ β, x.holds E β w y := fun w v u h1 h2 => two_args rfl rfl (qh rk h1) (fun β => (one_rt ra rb rc).2 h2)
  cases s with
  | false =>
    have hw := tm_none
    rw [Bool.and_eq_true] at hw
    refine ⟨none, ?_, ?_, fun L H e => by cases e⟩
    · intro w v1 v2 v3 v4 h1 h2 h3 h4
      exact noO_calls hC (fun _ => trivial) no_asm Try.func62 (by decide +kernel) hw.1 (by decide +kernel) rfl w _ rfl (hv1 w v1 v2 v3 v4 h1 h2 h3 h4)
    · intro w v u h1 h2
      exact noO_calls hC (fun _ => trivial) no_asm Try.func64 (by decide +kernel) hw.2 (by decide +kernel) rfl w _ rfl (hv2 w v u h1 h2)
  | true =>
    obtain ⟨hp, hin⟩ := hu.holds L H hs
    have g0 : (gTx (.var 8) (.var 10)).holds E := gTx_ok e8 e10 hp
    have dl : tmL.den E = mulLo (flR k) (clR k) L H := by unfold tmL; rw [muLo_den, qL_den rk, qH_den rk]; show mulLo _ _ (E.i 8) (E.i 10) = _; rw [e8, e10]
    have dh : tmH.den E = mulHi (flR k) (clR k) L H := by unfold tmH; rw [muHi_den, qL_den rk, qH_den rk]; show mulHi _ _ (E.i 8) (E.i 10) = _; rw [e8, e10]
    rcases first_bad (E := E) tsTm with hall | ⟨i, hi, hbad⟩
    · have hw := tm_yes
      rw [Bool.and_eq_true] at hw
      refine ⟨some (mulLo (flR k) (clR k) L H, mulHi (flR k) (clR k) L H), ?_, ?_, ?_⟩
      · intro w v1 v2 v3 v4 h1 h2 h3 h4
        exact ivO_calls hC (fun _ => trivial) (asm_app g0 hall) Try.func62 (by decide +kernel) hw.1 dl dh (by decide +kernel) rfl w _ rfl (hv1 w v1 v2 v3 v4 h1 h2 h3 h4)
      · intro w v u h1 h2
        exact ivO_calls hC (fun _ => trivial) (asm_app g0 hall) Try.func64 (by decide +kernel) hw.2 dl dh (by decide +kernel) rfl w _ rfl (hv2 w v u h1 h2)
      · intro L' H' e
        injection e with e
        injection e with e1 e2
        subst e1 e2
        have : (exT tmL tmH).den E = true := hall (exT tmL tmH, true) (by simp [tsTm])
        rw [exT_den, dl, dh] at this
        exact ⟨prpB_iff.1 this, fun m hc hm => (IvIn.const k).mul (hin m hc hm)⟩
    · have hw := List.all_eq_true.1 tm_no i (List.mem_range.2 hi)
      rw [Bool.and_eq_true] at hw
      refine ⟨none, ?_, ?_, fun L H e => by cases e⟩
      · intro w v1 v2 v3 v4 h1 h2 h3 h4
        exact noO_calls hC (fun _ => trivial) (asm_app g0 hbad) Try.func62 (by decide +kernel) hw.1 (by decide +kernel) rfl w _ rfl (hv1 w v1 v2 v3 v4 h1 h2 h3 h4)
      · intro w v u h1 h2
        exact noO_calls hC (fun _ => trivial) (asm_app g0 hbad) Try.func64 (by decide +kernel) hw.2 (by decide +kernel) rfl w _ rfl (hv2 w v u h1 h2)
end Go.Proofs.Ytdleiiboffkidaa
end

/- ---- Fvi ---- -/
section
/-
  FilterSide.
-/
set_option maxRecDepth 100000
namespace Go.Proofs.Ytdleiiboffkidaa
open Go.RowKit

def chkT (k a b c : Nat) : List AV → Bool
  | [x, y, z, t] => isQa k x && (isQa a y && (isQa b z && isQa c t))
  | _ => false
def chkP (k a b c : Nat) : List AV → Bool
  | [x, y] => isQa k x && isRa a b c y
  | _ => false
theorem known_term {E : Env} {i j l m : Nat} {k a b c : Rat} {u : Option (Int × Int)} {o : Option (IT × IT)} (hk : RepQ E (qI i) k) (ha : RepQ E (qI j) a) (hb : RepQ E (qI l) b) (hc : RepQ E (qI m) c) (h : TermIv k a b c u) (ho : u = o.map fun p => (p.1.den E, p.2.den E)) : Known E 62 (chkT i j l m) (resK o) := by
  refine ⟨?_, resK_np o⟩
  intro args hc' β w vs hv hl
  unfold chkT at hc'
  split at hc'
  · rename_i x y z t
    simp only [Bool.and_eq_true] at hc'
    obtain ⟨v1, e1, g1⟩ := hv 0 x rfl
    obtain ⟨v2, e2, g2⟩ := hv 1 y rfl
    obtain ⟨v3, e3, g3⟩ := hv 2 z rfl
    obtain ⟨v4, e4, g4⟩ := hv 3 t rfl
    obtain rfl : vs = [v1, v2, v3, v4] := by
      match vs, hl, e1, e2, e3, e4 with
      | [p, q, r, s], _, e1, e2, e3, e4 =>
        injection e1 with e1; injection e2 with e2; injection e3 with e3; injection e4 with e4
        subst e1 e2 e3 e4; rfl
    refine (h.prog w v1 v2 v3 v4 (isQa_holds hk hc'.1 g1) (isQa_holds ha hc'.2.1 g2) (isQa_holds hb hc'.2.2.1 g3) (isQa_holds hc hc'.2.2.2 g4)).mono ?_
    rintro e w' ⟨rfl, ex⟩
    exact ⟨_, rfl, fun β w' => resK_holds ho, ex⟩
  · cases hc'
theorem known_prod {E : Env} {i j l m : Nat} {k a b c : Rat} {u : Option (Int × Int)} {o : Option (IT × IT)} (hk : RepQ E (qI i) k) (ha : RepQ E (qI j) a) (hb : RepQ E (qI l) b) (hc : RepQ E (qI m) c) (h : TermIv k a b c u) (ho : u = o.map fun p => (p.1.den E, p.2.den E)) : Known E 64 (chkP i j l m) (resK o) := by
  refine ⟨?_, resK_np o⟩
  intro args hc' β w vs hv hl
  unfold chkP at hc'
  split at hc'
  · simp only [Bool.and_eq_true] at hc'
    obtain ⟨v, u', rfl, h1, h2⟩ := args2 hv hl
    refine (h.ref w v u' (isQa_holds hk hc'.1 h1) (isRa_holds ha hb hc hc'.2 h2)).mono ?_
    rintro e w' ⟨rfl, ex⟩
    exact ⟨_, rfl, fun β w' => resK_holds ho, ex⟩
  · cases hc'
def oX (b : Bool) : Option (IT × IT) := if b then some (.var 16, .var 18) else none
def oY (b : Bool) : Option (IT × IT) := if b then some (.var 20, .var 22) else none
noncomputable def tabSd (b d : Bool) : List (Nat × Con) := (62, kKn (chkT 0 6 8 14) (resK (oX b)) (kKn (chkT 2 10 12 14) (resK (oY d)) kNone)) :: (64, kKn (chkP 0 6 8 14) (resK (oX b)) (kKn (chkP 2 10 12 14) (resK (oY d)) kNone)) :: (tabFl4 ++ (tabR1 ++ tabT))
noncomputable def cSd0 (b d : Bool) : Cfg := cfgN (cfgOf (tabSd b d)) needLw
noncomputable def cSd1 (b d : Bool) : Cfg := cfgI (cSd0 b d) (cSd0 b d) lL1
noncomputable def cSd (b d : Bool) : Cfg := cfgV 10 (smG 8 3) (cfgI (cSd1 b d) (cSd1 b d) lL4)
noncomputable def sdW (b d : Bool) (G : Asm) : Bool := okTr (funE (cSd b d) Try.f7 G [aLn, aPt])
def gNn : Asm := [(.lt (sgI 14) (.lit 0), false)]
def suL : IT := .a2 0 (.var 16) (.var 20)
def suH : IT := .a2 0 (.var 18) (.var 22)
def dfL : IT := .a2 0 suL (.a1 0 (qH (qI 4)))
def dfH : IT := .a2 0 suH (.a1 0 (qL (qI 4)))
def tsSd : Asm := [(exT (qL (qI 4)) (qH (qI 4)), true), (exT suL suH, true), (exT dfL dfH, true)]
def gXY : Asm := gTx (.var 16) (.var 18) ++ gTx (.var 20) (.var 22)
def sgnS (x y : IT) : Nat → Asm
  | 0 => [(.lt (.lit 0) x, true)]
  | 1 => [(.lt (.lit 0) x, false), (.lt y (.lit 0), true)]
  | 2 => [(.lt (.lit 0) x, false), (.lt y (.lit 0), false), (.eq x (.lit 0), true), (.eq y (.lit 0), true)]
  | 3 => [(.lt (.lit 0) x, false), (.lt y (.lit 0), false), (.eq x (.lit 0), false), (.eq y (.lit 0), false)]
  | 4 => [(.lt (.lit 0) x, false), (.lt y (.lit 0), false), (.eq x (.lit 0), true), (.eq y (.lit 0), false)]
  | _ => [(.lt (.lit 0) x, false), (.lt y (.lit 0), false), (.eq x (.lit 0), false), (.eq y (.lit 0), true)]
theorem sgnS_ok {E : Env} {x y : IT} {a b : Int} (hx : x.den E = a) (hy : y.den E = b) : ∃ n, n < 6 ∧ (sgnS x y n).holds E ∧ (n < 3 → ivSg a b = some (sgnN n)) := by
  subst hx hy
  by_cases h1 : 0 < x.den E
  · exact ⟨0, by omega, lt_t h1 no_asm, fun _ => if_pos h1⟩
  · by_cases h2 : y.den E < 0
    · exact ⟨1, by omega, lt_f h1 <| lt_t h2 no_asm, fun _ => by unfold ivSg; rw [if_neg h1, if_pos h2]; rfl⟩
    · by_cases h3 : x.den E = 0
      · by_cases h4 : y.den E = 0
        · exact ⟨2, by omega, lt_f h1 <| lt_f h2 <| eq_t h3 <| eq_t h4 no_asm, fun _ => by unfold ivSg; rw [if_neg h1, if_neg h2, if_pos ⟨h3, h4⟩]; rfl⟩
        · exact ⟨4, by omega, lt_f h1 <| lt_f h2 <| eq_t h3 <| eq_f h4 no_asm, fun h => by omega⟩
      · by_cases h4 : y.den E = 0
        · exact ⟨5, by omega, lt_f h1 <| lt_f h2 <| eq_f h3 <| eq_t h4 no_asm, fun h => by omega⟩
        · exact ⟨3, by omega, lt_f h1 <| lt_f h2 <| eq_f h3 <| eq_f h4 no_asm, fun h => by omega⟩
theorem sd_neg : sdW false false [(.lt (sgI 14) (.lit 0), true)] = true := by kernel_rfl
theorem sd_none : (sdW false false gNn && (sdW true false (gXY ++ gNn) && sdW false true (gXY ++ gNn))) = true := by kernel_rfl
theorem sd_no : ((List.range 3).all fun i => sdW true true (gXY ++ (gNn ++ flipAt tsSd i))) = true := by kernel_rfl
theorem sd_all : ((List.range 6).all fun n => bools.all fun x1 => bools.all fun x2 => bools.all fun x3 => sdW true true (gXY ++ (gNn ++ (tsSd ++ (sgnS dfL dfH n ++ ((.eq (sgQT sdA) (ebT sdB (qI 14)), x1) :: (.eq (ebT sdB (qI 14)) (.lit 0), x2) :: (.eq (sgQT sdA) (.lit 0), x3) :: gKn n (exQ sdA sdB (qI 14) x1 x2 x3))))))) = true := by kernel_rfl
end Go.Proofs.Ytdleiiboffkidaa
end

/- ---- Fvj ---- -/
section
/-
  FilterSide, any line and point.
-/
set_option maxRecDepth 100000
namespace Go.Proofs.Ytdleiiboffkidaa
open Go.RowKit

def pairOf (r : Rat) : List RI := [(decide (r.num < 0), limbs r.num.natAbs), (decide ((r.den : Int) < 0), limbs (r.den : Int).natAbs)]
def raws8 (p1 p2 p3 p4 p5 p6 p7 p8 : RI × RI) : List RI := [p1.1, p1.2, p2.1, p2.2, p3.1, p3.2, p4.1, p4.2, p5.1, p5.2, p6.1, p6.2, p7.1, p7.2, p8.1, p8.2]
def rqP (p : RI × RI) : Rat := rq p.1 p.2
theorem oX_map {E : Env} {s : Bool} {L H : Int} (h1 : E.i 16 = L) (h2 : E.i 18 = H) : (if s then some (L, H) else none) = (oX s).map fun p => (p.1.den E, p.2.den E) := by
  cases s
  · rfl
  · show some (L, H) = some (E.i 16, E.i 18)
    rw [h1, h2]
theorem oY_map {E : Env} {s : Bool} {L H : Int} (h1 : E.i 20 = L) (h2 : E.i 22 = H) : (if s then some (L, H) else none) = (oY s).map fun p => (p.1.den E, p.2.den E) := by
  cases s
  · rfl
  · show some (L, H) = some (E.i 20, E.i 22)
    rw [h1, h2]
theorem opt_if (u : Option (Int × Int)) : ∃ (s : Bool) (L H : Int), u = if s then some (L, H) else none := by
  cases u with
  | none => exact ⟨false, 0, 0, rfl⟩
  | some p => exact ⟨true, p.1, p.2, rfl⟩
theorem side_good (w : World) (vs us : List Value) (p1 p2 p3 p4 p5 p6 p7 p8 : RI × RI) (hl : RatsV w vs [p1, p2, p3]) (hp : RatsV w us [p4, p5, p6, p7, p8]) (hs : ∀ p ∈ [p1, p2, p3, p4, p5, p6, p7, p8], smN 3 p.1 p.2 = true) (hq : ∀ p ∈ [p1, p2, p3, p4, p5, p6, p7, p8], ∃ v, IsRat w v (rqP p) ∧ LimQ 3 (rqP p)) :
    Calls Try.prog 7 #[.agg vs.toArray, .agg us.toArray] w (IsT w) := by
  obtain ⟨u1, hu1⟩ := term_iv (rqP p1) (rqP p4) (rqP p5) (rqP p8)
  obtain ⟨u2, hu2⟩ := term_iv (rqP p2) (rqP p6) (rqP p7) (rqP p8)
  obtain ⟨s1, L1, H1, e1⟩ := opt_if u1
  obtain ⟨s2, L2, H2, e2⟩ := opt_if u2
  have hrow : RowV (qE [rqP p1, rqP p2, rqP p3, rqP p4, rqP p5, rqP p6, rqP p7, rqP p8, (L1 : Rat), (H1 : Rat), (L2 : Rat), (H2 : Rat)]) (smG 8 3) := by
    refine rowV_good (raws := pairOf (rqP p1) ++ (pairOf (rqP p2) ++ (pairOf (rqP p3) ++ (pairOf (rqP p4) ++ (pairOf (rqP p5) ++ (pairOf (rqP p6) ++ (pairOf (rqP p7) ++ pairOf (rqP p8)))))))) val_3 (by decide) rfl (fun m hm => ?_) (fun j hj => ?_)
    · have hm : m < 16 := hm
      match m, hm with
      | 0, _ => rfl
      | 1, _ => rfl
      | 2, _ => rfl
      | 3, _ => rfl
      | 4, _ => rfl
      | 5, _ => rfl
      | 6, _ => rfl
      | 7, _ => rfl
      | 8, _ => rfl
      | 9, _ => rfl
      | 10, _ => rfl
      | 11, _ => rfl
      | 12, _ => rfl
      | 13, _ => rfl
      | 14, _ => rfl
      | 15, _ => rfl
      | m + 16, hm => exact absurd hm (by omega)
    · have key : ∀ p ∈ [p1, p2, p3, p4, p5, p6, p7, p8], smN 3 (decide ((rqP p).num < 0), limbs (rqP p).num.natAbs) (decide (((rqP p).den : Int) < 0), limbs ((rqP p).den : Int).natAbs) = true := fun p hm => by
        obtain ⟨v, h1, h2⟩ := hq p hm
        exact smN_of h1 h2
      match j, hj with
      | 0, _ => exact key p1 (by simp)
      | 1, _ => exact key p2 (by simp)
      | 2, _ => exact key p3 (by simp)
      | 3, _ => exact key p4 (by simp)
      | 4, _ => exact key p5 (by simp)
      | 5, _ => exact key p6 (by simp)
      | 6, _ => exact key p7 (by simp)
      | 7, _ => exact key p8 (by simp)
  obtain ⟨E, hE⟩ : ∃ E, E = qE [rqP p1, rqP p2, rqP p3, rqP p4, rqP p5, rqP p6, rqP p7, rqP p8, (L1 : Rat), (H1 : Rat), (L2 : Rat), (H2 : Rat)] := ⟨_, rfl⟩
  have hQ : QEnv E := by rw [hE]; exact qE_ok _
  have r1 : RepQ E (qI 0) (rqP p1) := by rw [hE]; exact ⟨rfl, rfl⟩
  have r2 : RepQ E (qI 2) (rqP p2) := by rw [hE]; exact ⟨rfl, rfl⟩
  have r3 : RepQ E (qI 4) (rqP p3) := by rw [hE]; exact ⟨rfl, rfl⟩
  have r4 : RepQ E (qI 6) (rqP p4) := by rw [hE]; exact ⟨rfl, rfl⟩
  have r5 : RepQ E (qI 8) (rqP p5) := by rw [hE]; exact ⟨rfl, rfl⟩
  have r6 : RepQ E (qI 10) (rqP p6) := by rw [hE]; exact ⟨rfl, rfl⟩
  have r7 : RepQ E (qI 12) (rqP p7) := by rw [hE]; exact ⟨rfl, rfl⟩
  have r8 : RepQ E (qI 14) (rqP p8) := by rw [hE]; exact ⟨rfl, rfl⟩
  have e16 : E.i 16 = L1 := by rw [hE]; exact qE_int (i := 8) rfl
  have e18 : E.i 18 = H1 := by rw [hE]; exact qE_int (i := 9) rfl
  have e20 : E.i 20 = L2 := by rw [hE]; exact qE_int (i := 10) rfl
  have e22 : E.i 22 = H2 := by rw [hE]; exact qE_int (i := 11) rfl
  have o1 := e1.trans (oX_map (E := E) (s := s1) e16 e18)
  have o2 := e2.trans (oY_map (E := E) (s := s2) e20 e22)
  have hC : CfgOK Try.prog E (cSd s1 s2) := by
    have hT : TabOK Try.prog E (tabSd s1 s2) := .cons (kKn_ok (known_term r1 r4 r5 r8 hu1 o1) (kKn_ok (known_term r2 r6 r7 r8 hu2 o2) (kNone_ok ⟨_, Try.func62, by decide +kernel, by kernel_rfl⟩))) <| .cons (kKn_ok (known_prod r1 r4 r5 r8 hu1 o1) (kKn_ok (known_prod r2 r6 r7 r8 hu2 o2) (kNone_ok ⟨_, Try.func64, by decide +kernel, by kernel_rfl⟩))) (TabOK.app (tabFl4_ok hQ) (TabOK.app tabR1_ok (tabT_ok hQ)))
    have h0 : CfgOK Try.prog E (cSd0 s1 s2) := cfgN_ok (cfg_ok hT)
    have h1 : CfgOK Try.prog E (cSd1 s1 s2) := cfgI_ok mixed h0 h0 (fun _ => trivial) lL1_ok
    exact cfgV_ok (cfgI_ok mixed h1 h1 (fun _ => trivial) lL4_ok) (by rw [hE]; exact hrow)
  have hv := two_args (E := E) (w := w) (args := [aLn, aPt]) (vs := [.agg vs.toArray, .agg us.toArray]) rfl rfl
    (fun β => ⟨vs, rfl, ints_hold [p1, p2, p3] 0 vs hl (fun j p hj => by
      match j, hj with
      | 0, hj => injection hj with hj; subst hj; exact ⟨hs _ (by simp), r1⟩
      | 1, hj => injection hj with hj; subst hj; exact ⟨hs _ (by simp), r2⟩
      | 2, hj => injection hj with hj; subst hj; exact ⟨hs _ (by simp), r3⟩)⟩)
    (fun β => ⟨us, rfl, ints_hold [p4, p5, p6, p7, p8] 6 us hp (fun j p hj => by
      match j, hj with
      | 0, hj => injection hj with hj; subst hj; exact ⟨hs _ (by simp), r4⟩
      | 1, hj => injection hj with hj; subst hj; exact ⟨hs _ (by simp), r5⟩
      | 2, hj => injection hj with hj; subst hj; exact ⟨hs _ (by simp), r6⟩
      | 3, hj => injection hj with hj; subst hj; exact ⟨hs _ (by simp), r7⟩
      | 4, hj => injection hj with hj; subst hj; exact ⟨hs _ (by simp), r8⟩)⟩)
  have fin : ∀ (G : Asm), G.holds E → sdW s1 s2 G = true → Calls Try.prog 7 #[.agg vs.toArray, .agg us.toArray] w (IsT w) := fun G hG hT =>
    lawV_calls hC (fun _ => trivial) hG Try.func7 (by decide +kernel) hT (by decide +kernel) rfl w _ rfl hv
  have dsg : (sgI 14).den E = sgQ' (rqP p8) := by rw [sgQ'_num, ← r8.1]; rfl
  by_cases hneg : (sgI 14).den E < 0
  · have : sdW s1 s2 [(.lt (sgI 14) (.lit 0), true)] = true := by
      cases s1 <;> cases s2 <;> kernel_rfl
    exact fin _ (lt_t hneg no_asm) this
  · have hc : 0 ≤ rqP p8 := by
      rw [dsg, sgQ'_num] at hneg
      exact Rat.num_nonneg.1 (by
        refine Decidable.byContradiction fun k => hneg ?_
        rw [cmpZ_lt (by omega)]; omega)
    have gn : gNn.holds E := lt_f hneg no_asm
    have hno := sd_none
    rw [Bool.and_eq_true, Bool.and_eq_true] at hno
    cases s1 with
    | false =>
      cases s2 with
      | false => exact fin _ gn hno.1
      | true =>
        have hn2 : sdW false true gNn = true := by kernel_rfl
        exact fin _ gn hn2
    | true =>
      cases s2 with
      | false =>
        have hn2 : sdW true false gNn = true := by kernel_rfl
        exact fin _ gn hn2
      | true =>
        obtain ⟨q1, in1⟩ := hu1.holds L1 H1 e1
        obtain ⟨q2, in2⟩ := hu2.holds L2 H2 e2
        have gxy : gXY.holds E := asm_app (gTx_ok e16 e18 q1) (gTx_ok e20 e22 q2)
        rcases first_bad (E := E) tsSd with hall | ⟨i, hi, hbad⟩
        · obtain ⟨m, hm⟩ := exists_rt hc
          have dl : dfL.den E = L1 + L2 + -(clR (rqP p3)) := by
            show E.i 16 + E.i 20 + -((qH (qI 4)).den E) = _
            rw [e16, e20, qH_den r3]
          have dh : dfH.den E = H1 + H2 + -(flR (rqP p3)) := by
            show E.i 18 + E.i 22 + -((qL (qI 4)).den E) = _
            rw [e18, e22, qL_den r3]
          have hin : IvIn (L1 + L2 + -(clR (rqP p3))) (H1 + H2 + -(flR (rqP p3))) fun k => (rqP p1 * (rqP p4 + rqP p5 * m k) + rqP p2 * (rqP p6 + rqP p7 * m k)) + -(rqP p3) := ((in1 m hc hm).add (in2 m hc hm)).add (IvIn.const (rqP p3)).neg
          obtain ⟨n, hn, hg, hk⟩ := sgnS_ok dl dh
          have rA : RepQ E sdA (rqP p1 * rqP p4 + rqP p2 * rqP p6 - rqP p3) := rep_op (f := 1) (by omega) (rep_op (f := 0) (by omega) (rep_op (f := 2) (by omega) r1 r4) (rep_op (f := 2) (by omega) r2 r6)) r3
          have rB : RepQ E sdB (rqP p1 * rqP p5 + rqP p2 * rqP p7) := rep_op (f := 0) (by omega) (rep_op (f := 2) (by omega) r1 r5) (rep_op (f := 2) (by omega) r2 r7)
          obtain ⟨x1, x2, x3, f1, f2, f3, f4⟩ := exQ_den rA rB r8
          refine fin _ ?_ (List.all_eq_true.1 (List.all_eq_true.1 (List.all_eq_true.1 (List.all_eq_true.1 sd_all n (List.mem_range.2 hn)) x1 (bools_mem x1)) x2 (bools_mem x2)) x3 (bools_mem x3))
          refine asm_app gxy <| asm_app gn <| asm_app hall <| asm_app hg <| asm_c f1 <| asm_c f2 <| asm_c f3 <| gKn_ok fun h3 => ?_
          rw [f4]
          refine (ivSg_spec (hk h3) hin).unique ((sqv2 (a := rqP p1 * rqP p4 + rqP p2 * rqP p6 - rqP p3) (b := rqP p1 * rqP p5 + rqP p2 * rqP p7) hc hm).of_eq fun k => ?_)
          grind
        · exact fin _ (asm_app gxy <| asm_app gn hbad) (List.all_eq_true.1 sd_no i (List.mem_range.2 hi))
theorem filterSide_calls (w : World) (vs us : List Value) (p1 p2 p3 p4 p5 p6 p7 p8 : RI × RI) (hl : RatsV w vs [p1, p2, p3]) (hp : RatsV w us [p4, p5, p6, p7, p8]) :
    Calls Try.prog 7 #[.agg vs.toArray, .agg us.toArray] w (IsT w) := by
  by_cases hs : ∀ p ∈ [p1, p2, p3, p4, p5, p6, p7, p8], smN 3 p.1 p.2 = true
  · refine side_good w vs us p1 p2 p3 p4 p5 p6 p7 p8 hl hp hs ?_
    intro p hm
    obtain ⟨x1, r1, _, a1, x2, r2, _, a2, x3, r3, _, a3, _⟩ := hl
    obtain ⟨x4, r4, _, a4, x5, r5, _, a5, x6, r6, _, a6, x7, r7, _, a7, x8, r8, _, a8, _⟩ := hp
    have g := hs p hm
    have k : ∃ x : List Value, RawQ w (.agg x.toArray) p.1.1 p.1.2 p.2.1 p.2.2 := by
      simp only [List.mem_cons, List.not_mem_nil, or_false] at hm
      rcases hm with rfl | rfl | rfl | rfl | rfl | rfl | rfl | rfl
      · exact ⟨_, a1⟩
      · exact ⟨_, a2⟩
      · exact ⟨_, a3⟩
      · exact ⟨_, a4⟩
      · exact ⟨_, a5⟩
      · exact ⟨_, a6⟩
      · exact ⟨_, a7⟩
      · exact ⟨_, a8⟩
    obtain ⟨x, hx⟩ := k
    exact ⟨_, smN_rat hx g⟩
  · have hrow : RowV (bE okQ (raws8 p1 p2 p3 p4 p5 p6 p7 p8)) (smB' 8 3) := rowV_bad val_3 (by decide) rfl (fun g => hs (fun p hm => by
      simp only [List.mem_cons, List.not_mem_nil, or_false] at hm
      rcases hm with rfl | rfl | rfl | rfl | rfl | rfl | rfl | rfl
      · exact g 0 (by omega)
      · exact g 1 (by omega)
      · exact g 2 (by omega)
      · exact g 3 (by omega)
      · exact g 4 (by omega)
      · exact g 5 (by omega)
      · exact g 6 (by omega)
      · exact g 7 (by omega)))
    refine lawV_calls (bad_ok hrow) (fun _ => trivial) no_asm Try.func7 (by decide +kernel) sd_bad (by decide +kernel) rfl w _ rfl (two_args rfl rfl (fun β => ⟨vs, rfl, raws_hold [p1, p2, p3] 0 vs hl fun j p hj => ?_⟩) (fun β => ⟨us, rfl, raws_hold [p4, p5, p6, p7, p8] 6 us hp fun j p hj => ?_⟩))
    · match j, hj with
      | 0, hj => injection hj with hj; subst hj; exact ⟨rfl, rfl⟩
      | 1, hj => injection hj with hj; subst hj; exact ⟨rfl, rfl⟩
      | 2, hj => injection hj with hj; subst hj; exact ⟨rfl, rfl⟩
    · match j, hj with
      | 0, hj => injection hj with hj; subst hj; exact ⟨rfl, rfl⟩
      | 1, hj => injection hj with hj; subst hj; exact ⟨rfl, rfl⟩
      | 2, hj => injection hj with hj; subst hj; exact ⟨rfl, rfl⟩
      | 3, hj => injection hj with hj; subst hj; exact ⟨rfl, rfl⟩
      | 4, hj => injection hj with hj; subst hj; exact ⟨rfl, rfl⟩
end Go.Proofs.Ytdleiiboffkidaa
end
