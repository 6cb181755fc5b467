/-
  Texts of this seat, joined.
-/
import Derived.Test.YtifeacfljfmnpaaGreatJ3
import Derived.Shelf.LaysM
import Derived.Shelf.Strings.Cut
import Derived.Shelf.Strconv.AppendUint10
import Derived.Laws.IdiomStrings
import Derived.Lib.LaidTab
import Derived.Shelf.Small.Wraps
import Derived.Deep.DeepCutAuto
import Derived.LaidLaws
import Derived.Handed
section
set_option maxRecDepth 100000
namespace Go.Proofs.YtifeacfljfmnpaaGreat
open Go.RowKit
theorem LimQ.mul {l m k j : Nat} {a b : Rat} (h1 : Lim l a.num) (h2 : Lim m (a.den : Int)) (h3 : Lim k b.num) (h4 : Lim j (b.den : Int)) : Lim (l + m + k + j + 1) (a * b).num ∧ Lim (l + m + k + j + 1) ((a * b).den : Int) := by
  obtain ⟨m1, m2⟩ := mul_dq a b
  rw [← m1, ← m2]
  exact ⟨((h1.natAbs_le (dq_abs _ _)).mul (h3.natAbs_le (dq_abs _ _))).mono (by omega), ((h2.natAbs_le (dq_abs _ _)).mul (h4.natAbs_le (dq_abs _ _))).mono (by omega)⟩
theorem LimQ.add {l m k j : Nat} {a b : Rat} (h1 : Lim l a.num) (h2 : Lim m (a.den : Int)) (h3 : Lim k b.num) (h4 : Lim j (b.den : Int)) : Lim (l + m + k + j + 1) (a + b).num ∧ Lim (l + m + k + j + 1) ((a + b).den : Int) := by
  obtain ⟨m1, m2⟩ := sum_dq a b _ rfl
  rw [← m1, ← m2]
  refine ⟨Lim.natAbs_le ?_ (dq_abs _ _), ((h2.natAbs_le (dq_abs _ _)).mul (h4.natAbs_le (dq_abs _ _))).mono (by omega)⟩
  exact ((h1.mul (h4.natAbs_le (dq_abs _ _))).add2 (h3.mul (h2.natAbs_le (dq_abs _ _)))).mono (by omega)
theorem LimQ.sub {l m k j : Nat} {a b : Rat} (h1 : Lim l a.num) (h2 : Lim m (a.den : Int)) (h3 : Lim k b.num) (h4 : Lim j (b.den : Int)) : Lim (l + m + k + j + 1) (a - b).num ∧ Lim (l + m + k + j + 1) ((a - b).den : Int) := by
  rw [Rat.sub_eq_add_neg]
  exact LimQ.add (b := -b) h1 h2 (by rw [Rat.neg_num]; exact h3.neg) h4

def QEnv (E : Env) : Prop := ∀ i, i % 2 = 0 → ∃ q : Rat, E.i i = q.num ∧ E.i (i + 1) = (q.den : Int)
def canon0 : IT → IT → Bool
  | .var i, .var j => i % 2 == 0 && j == i + 1
  | .lit z, .lit d => decide (0 < d) && Nat.gcd z.natAbs d.natAbs == 1
  | .a1 f x, t => f == 0 && canon0 x t
  | .a2 f x y, .a2 g z t => f == 7 && (g == 8 && (x.beq z && y.beq t))
  | .a4 f x y z t, .a4 g x' y' z' t' => f % 2 == 0 && (g == f + 1 && (f != 8 && (x.beq x' && (y.beq y' && (z.beq z' && t.beq t')))))
  | _, _ => false
theorem canon0_spec {E : Env} (hE : QEnv E) : ∀ {s t : IT}, canon0 s t = true → ∃ q : Rat, s.den E = q.num ∧ t.den E = (q.den : Int) := by
  intro s
  induction s with
  | var i =>
    intro t h
    cases t <;> simp only [canon0, Bool.false_eq_true, Bool.and_eq_true, beq_iff_eq] at h
    obtain ⟨h1, rfl⟩ := h
    exact hE i h1
  | lit z =>
    intro t h
    cases t with
    | lit d =>
      simp only [canon0, Bool.and_eq_true, beq_iff_eq, decide_eq_true_iff] at h
      obtain ⟨h1, h2⟩ := h
      exact ⟨⟨z, d.natAbs, by omega, h2⟩, rfl, (by show d = (d.natAbs : Int); omega)⟩
    | _ => simp [canon0] at h
  | rlen i => intro t h; cases t <;> simp [canon0] at h
  | slen i => intro t h; cases t <;> simp [canon0] at h
  | a1 f x ih =>
    intro t h
    simp only [canon0, Bool.and_eq_true, beq_iff_eq] at h
    obtain ⟨rfl, h⟩ := h
    obtain ⟨q, h1, h2⟩ := ih h
    exact ⟨-q, by rw [Rat.neg_num, ← h1]; rfl, h2⟩
  | a2 f x y _ _ =>
    intro t h
    cases t <;> simp only [canon0, Bool.false_eq_true, Bool.and_eq_true, beq_iff_eq] at h
    obtain ⟨rfl, rfl, h1, h2⟩ := h
    rw [← IT.eq_of_beq h1, ← IT.eq_of_beq h2]
    exact ⟨_, rfl, rfl⟩
  | a4 f x y z t _ _ _ _ =>
    intro u h
    cases u <;> simp only [canon0, Bool.false_eq_true, Bool.and_eq_true, beq_iff_eq] at h
    obtain ⟨h0, rfl, h8, h1, h2, h3, h4⟩ := h
    have h8' : f ≠ 8 := by simpa using h8
    rw [← IT.eq_of_beq h1, ← IT.eq_of_beq h2, ← IT.eq_of_beq h3, ← IT.eq_of_beq h4]
    refine ⟨_, if_pos h0, ?_⟩
    show fn4 (f + 1) _ _ _ _ = _
    unfold fn4
    rw [if_neg (by omega), if_neg (by omega), show (f + 1) / 2 = f / 2 by omega]
def canon (s t : IT) : Bool := t.beq (.lit 1) || canon0 s t
theorem canon_spec {E : Env} (hE : QEnv E) {s t : IT} (h : canon s t = true) : ∃ q : Rat, s.den E = q.num ∧ t.den E = (q.den : Int) := by
  unfold canon at h
  rw [Bool.or_eq_true] at h
  rcases h with h | h
  · rw [IT.eq_of_beq h]
    exact ⟨⟨s.den E, 1, by omega, Nat.gcd_one_right _⟩, rfl, rfl⟩
  · exact canon0_spec hE h
theorem divInt_parts (q : Rat) : Rat.divInt q.num (q.den : Int) = q := Rat.num_divInt_den q
theorem one_ratQ {E : Env} {w : World} {s t : IT} {l m : Nat} {v : Value} (hE : QEnv E) (hc : canon s t = true) (h : one E w (true, [.int s l, .int t m]) v) : ∃ q : Rat, q = Rat.divInt (s.den E) (t.den E) ∧ s.den E = q.num ∧ t.den E = (q.den : Int) ∧ IsRat w v q ∧ Lim l q.num ∧ Lim m (q.den : Int) := by
  obtain ⟨q, e1, e2⟩ := canon_spec hE hc
  obtain ⟨a, b, c, d, rfl, h1, h2, h3, h4⟩ := one_rat.1 h
  rw [e1] at h1 h2
  rw [e2] at h3 h4
  refine ⟨q, ?_, e1, e2, ⟨a, b, c, d, rfl, h1, h3⟩, h2, h4⟩
  rw [e1, e2, divInt_parts]
def ql (l : Nat) : Bool := decide (l ≤ 100000)
def kQQ (f : Nat) : Con
  | [.val true [.int x l, .int y m], .val true [.int z k, .int t j]], _ => if canon x y && (canon z t && (ql l && (ql m && (ql k && ql j)))) then
      some (.val true [.int (.a4 (2 * f) x y z t) (l + m + k + j + 1), .int (.a4 (2 * f + 1) x y z t) (l + m + k + j + 1)]) else none
  | _, _ => none
theorem kQQ_ok {E : Env} (hE : QEnv E) {f i : Nat} (hf : f < 4)
    (hc : ∀ (w : World) (v1 v2 : Value) (a b : Rat), IsRat w v1 a → IsRat w v2 b → LimQ 100000 a → LimQ 100000 b → Calls Tryz.prog i #[v1, v2] w (Ret (fun v w' => IsRat w' v (ratF f a b)) w))
    (hl : ∀ {l m k j : Nat} {a b : Rat}, Lim l a.num → Lim m (a.den : Int) → Lim k b.num → Lim j (b.den : Int) → Lim (l + m + k + j + 1) (ratF f a b).num ∧ Lim (l + m + k + j + 1) ((ratF f a b).den : Int))
    (hb : ∃ fn, Tryz.prog.funcs[i]? = some fn ∧ fn.name ≠ "runtime.NumGoroutine" ∧ fn.body.isNone = false) : ConOK Tryz.prog E i (kQQ f) := by
  refine ⟨?_, ?_, hb⟩
  · intro args As r h hG β w vs hv hlen
    unfold kQQ at h
    split at h
    · rename_i x l y m z k t j
      split at h
      · rename_i hlo
        injection h with h
        subst h
        simp only [ql, Bool.and_eq_true, decide_eq_true_iff] at hlo
        obtain ⟨c1, c2, b1, b2, b3, b4⟩ := hlo
        obtain ⟨v, u, rfl, h1, h2⟩ := args2 hv hlen
        obtain ⟨p, ep, ex1, ex2, hp, lp1, lp2⟩ := one_ratQ hE c1 h1
        obtain ⟨q, eq, ey1, ey2, hq, lq1, lq2⟩ := one_ratQ hE c2 h2
        obtain ⟨n1, n2⟩ := hl lp1 lp2 lq1 lq2
        refine (hc w v u p q hp hq ⟨lp1.mono (by omega), lp2.mono (by omega)⟩ ⟨lq1.mono (by omega), lq2.mono (by omega)⟩).mono ?_
        rintro e w' ⟨v', rfl, ⟨a, b, c, d, rfl, r1, r2⟩, ex⟩
        have d1 : (IT.a4 (2 * f) x y z t).den E = (ratF f p q).num := by
          show fn4 (2 * f) _ _ _ _ = _
          unfold fn4
          rw [if_pos (by omega), show 2 * f / 2 = f by omega, ← ep, ← eq]
        have d2 : (IT.a4 (2 * f + 1) x y z t).den E = ((ratF f p q).den : Int) := by
          show fn4 (2 * f + 1) _ _ _ _ = _
          unfold fn4
          rw [if_neg (by omega), if_neg (by omega), show (2 * f + 1) / 2 = f by omega, ← ep, ← eq]
        refine ⟨_, rfl, one_rat.2 ⟨a, b, c, d, rfl, ?_, ?_, ?_, ?_⟩, ex⟩
        · rw [d1]; exact r1
        · rw [d1]; exact n1
        · rw [d2]; exact r2
        · rw [d2]; exact n2
      · cases h
    · cases h
  · intro args As r h x off
    unfold kQQ at h
    split at h
    · split at h
      · injection h with h; subst h; intro e; cases e
      · cases h
    · cases h
end Go.Proofs.YtifeacfljfmnpaaGreat
end

section
set_option maxRecDepth 100000
namespace Go.Proofs.YtifeacfljfmnpaaGreat
open Go.RowKit
def tabR2 : List (Nat × Con) := (164, kDM) :: tabR1
theorem tabR2_ok {E : Env} : TabOK Tryz.prog E tabR2 := .cons (kDMg_ok (fun w v u a b h k l1 l2 => rdivMod_fn w v u a b h k l1 l2) ⟨_, Tryz.func164, by decide +kernel, by kernel_rfl⟩) tabR1_ok

theorem red_pos (a : Int) {b : Int} (hb : 0 < b) : dq a ((Nat.gcd a.natAbs b.natAbs : Nat) : Int) = (Rat.divInt a b).num ∧ dq b ((Nat.gcd a.natAbs b.natAbs : Nat) : Int) = ((Rat.divInt a b).den : Int) := by
  have hg : 0 < Nat.gcd a.natAbs b.natAbs := Nat.gcd_pos_of_pos_right _ (by omega)
  have hgc : b.gcd a = Nat.gcd a.natAbs b.natAbs := Nat.gcd_comm _ _
  rw [Rat.num_divInt, Rat.den_divInt, if_neg (by omega), hgc, Int.sign_eq_one_of_pos hb, Int.one_mul, dq_cast _ hg]
  refine ⟨rfl, ?_⟩
  have hbn : b = (b.natAbs : Int) := by omega
  generalize Nat.gcd a.natAbs b.natAbs = g at *
  rw [hbn, dq_cast2 _ hg, ← hbn]
theorem divInt_negs (a b : Int) : Rat.divInt (-a) (-b) = Rat.divInt a b := by
  have := Rat.divInt_mul_right (n := a) (d := b) (a := -1) (by omega)
  rw [← this]
  congr 1 <;> omega
theorem red_neg (a : Int) {b : Int} (hb : b < 0) : dq (-a) ((Nat.gcd (-a).natAbs (-b).natAbs : Nat) : Int) = (Rat.divInt a b).num ∧ dq (-b) ((Nat.gcd (-a).natAbs (-b).natAbs : Nat) : Int) = ((Rat.divInt a b).den : Int) := by
  rw [← divInt_negs a b]
  exact red_pos (-a) (by omega)
theorem cmp_lt0 (b : Int) : (cmpZ b 0 < 0) ↔ b < 0 := by
  rcases cmpZ_cases b 0 with ⟨h, e⟩ | ⟨h, e⟩ | ⟨h, e⟩ <;> rw [e] <;> omega
theorem cmp_eq0 (b : Int) : (cmpZ b 0 = 0) ↔ b = 0 := by
  rcases cmpZ_cases b 0 with ⟨h, e⟩ | ⟨h, e⟩ | ⟨h, e⟩ <;> rw [e] <;> omega
theorem cmp_eqm (b : Int) : (cmpZ b 0 = -1) ↔ b < 0 := by
  rcases cmpZ_cases b 0 with ⟨h, e⟩ | ⟨h, e⟩ | ⟨h, e⟩ <;> rw [e] <;> omega
theorem divInt_lim {l m : Nat} {a b : Int} (h : Lim l a) (k : Lim m b) (hb : b ≠ 0) : Lim l (Rat.divInt a b).num ∧ Lim m ((Rat.divInt a b).den : Int) := by
  rcases Int.lt_or_gt_of_ne hb with h1 | h1
  · obtain ⟨e1, e2⟩ := red_neg a h1
    rw [← e1, ← e2]
    exact ⟨h.neg.natAbs_le (dq_abs _ _), k.neg.natAbs_le (dq_abs _ _)⟩
  · obtain ⟨e1, e2⟩ := red_pos a h1
    rw [← e1, ← e2]
    exact ⟨h.natAbs_le (dq_abs _ _), k.natAbs_le (dq_abs _ _)⟩

theorem of_calls (w : World) (v1 v2 : Value) (a b : Int) (hb : b ≠ 0) (h : IsInt w v1 a) (k : IsInt w v2 b) (l1 : Lim 400000 a) (l2 : Lim 400000 b) :
    Calls Tryz.prog 98 #[v1, v2] w (Ret (fun v w' => IsRat w' v (Rat.divInt a b)) w) := by
  refine (walkZ2 (T := .ite (.lt (.a2 3 (.var 1) (.lit 0)) (.lit 0))
    (.leaf [(true, [.int (.a2 4 (.a1 0 (.var 0)) (.a2 6 (.a1 0 (.var 0)) (.a1 0 (.var 1)))) 400000, .int (.a2 4 (.a1 0 (.var 1)) (.a2 6 (.a1 0 (.var 0)) (.a1 0 (.var 1)))) 400000])])
    (.leaf [(true, [.int (.a2 4 (.var 0) (.a2 6 (.var 0) (.var 1))) 400000, .int (.a2 4 (.var 1) (.a2 6 (.var 0) (.var 1))) 400000])]))
    tabR2_ok Tryz.func98 (by kernel_rfl) (by decide +kernel) (by decide +kernel) h k l1 l2).mono ?_
  rintro e w' ⟨β, v, rfl, hh, ex⟩
  simp only [Tree.pick] at hh
  split at hh
  · rename_i hz
    have hz' : b < 0 := (cmp_lt0 b).1 (of_decide_eq_true hz)
    obtain ⟨x, y, z, t, rfl, k1, _, k2, _⟩ := one_rat.1 hh
    obtain ⟨m1, m2⟩ := red_neg a hz'
    refine ⟨_, rfl, ⟨x, y, z, t, rfl, ?_, ?_⟩, ex⟩
    · rw [← m1]; exact k1
    · rw [← m2]; exact k2
  · rename_i hz
    have hz' : ¬ b < 0 := fun hb => hz (decide_eq_true ((cmp_lt0 b).2 hb))
    obtain ⟨x, y, z, t, rfl, k1, _, k2, _⟩ := one_rat.1 hh
    obtain ⟨m1, m2⟩ := red_pos a (show 0 < b by omega)
    refine ⟨_, rfl, ⟨x, y, z, t, rfl, ?_, ?_⟩, ex⟩
    · rw [← m1]; exact k1
    · rw [← m2]; exact k2
theorem unit_calls (w : World) : Calls Tryz.prog 89 #[] w (Ret (fun v w' => IsInt w' v 1) w) := by
  refine (walk0 (T := .leaf [(true, [.int (.lit 1) 3])]) tabR2_ok Tryz.func89 (by kernel_rfl) (by decide +kernel)).mono ?_
  rintro e w' ⟨β, v, rfl, hh, ex⟩
  exact ⟨v, rfl, (one_int.1 hh).1, ex⟩

def denZ (a b : Int) : Int := if b = 0 then 0 else ((Rat.divInt a b).den : Int)
def RetMake (a b : Int) (w : World) (e : Ending) (w' : World) : Prop :=
  ∃ x y z t, e = .returned (.tuple #[.agg #[x, y, z, t], .int .i64 (de b)]) ∧ IsInt w' (.agg #[x, y]) (Rat.divInt a b).num ∧ IsInt w' (.agg #[z, t]) (denZ a b) ∧ Ext w w'
theorem divInt_zero' (a : Int) : (Rat.divInt a 0).num = 0 := by rw [Rat.num_divInt]; simp
theorem make_calls (w : World) (v1 v2 : Value) (a b : Int) (h : IsInt w v1 a) (k : IsInt w v2 b) (l1 : Lim 400000 a) (l2 : Lim 400000 b) :
    Calls Tryz.prog 153 #[v1, v2] w (RetMake a b w) := by
  refine (walkZ2 (T := .ite (.eq (.a2 3 (.var 1) (.lit 0)) (.lit 0)) (.leaf [(true, [.int (.lit 0) 0, .int (.lit 0) 0]), (false, [.n .i64 (.lit 6)])])
    (.ite (.eq (.a2 3 (.var 1) (.lit 0)) (.lit (-1)))
    (.leaf [(true, [.int (.a2 4 (.a1 0 (.var 0)) (.a2 6 (.a1 0 (.var 0)) (.a1 0 (.var 1)))) 400000, .int (.a2 4 (.a1 0 (.var 1)) (.a2 6 (.a1 0 (.var 0)) (.a1 0 (.var 1)))) 400000]), (false, [.n .i64 (.lit 0)])])
    (.leaf [(true, [.int (.a2 4 (.var 0) (.a2 6 (.var 0) (.var 1))) 400000, .int (.a2 4 (.var 1) (.a2 6 (.var 0) (.var 1))) 400000]), (false, [.n .i64 (.lit 0)])])))
    tabDiv_ok Tryz.func153 (by kernel_rfl) (by decide +kernel) (by decide +kernel) h k l1 l2).mono ?_
  rintro e w' ⟨β, v, rfl, hh, ex⟩
  have open_ : ∀ (s t u : IT) (l m : Nat), (AV.tup [(true, [.int s l, .int t m]), (false, [.n .i64 u])]).holds (zE [a, b]) β w' v → s.den (zE [a, b]) = (Rat.divInt a b).num → t.den (zE [a, b]) = denZ a b → u.den (zE [a, b]) = de b → RetMake a b w (.returned v) w' := by
    intro s t u l m hx e1 e2 e3
    obtain ⟨vs, rfl, u1, r1, rfl, k1, u2, r2, rfl, k2, hn⟩ := hx
    simp only [tupAll] at hn
    subst hn
    have k2' := one_num.1 k2
    subst k2'
    obtain ⟨x, y, z, t', rfl, j1, _, j2, _⟩ := one_rat.1 k1
    rw [e1] at j1
    rw [e2] at j2
    exact ⟨x, y, z, t', by rw [e3], j1, j2, ex⟩
  simp only [Tree.pick] at hh
  split at hh
  · rename_i hz
    have hz' : b = 0 := (cmp_eq0 b).1 (eq_of_beq hz)
    subst hz'
    exact open_ _ _ _ _ _ hh (divInt_zero' a).symm rfl rfl
  · rename_i hz
    have hb : b ≠ 0 := fun hb => hz (beq_iff_eq.2 ((cmp_eq0 b).2 hb))
    have e3 : (0 : Int) = de b := by unfold de; rw [if_neg hb]
    have e2 : denZ a b = ((Rat.divInt a b).den : Int) := by unfold denZ; rw [if_neg hb]
    split at hh
    · rename_i hz
      have hz' : b < 0 := (cmp_eqm b).1 (eq_of_beq hz)
      obtain ⟨m1, m2⟩ := red_neg a hz'
      exact open_ _ _ _ _ _ hh m1 (by rw [e2]; exact m2) e3
    · rename_i hz
      have hz' : ¬ b < 0 := fun hb => hz (beq_iff_eq.2 ((cmp_eqm b).2 hb))
      obtain ⟨m1, m2⟩ := red_pos a (show 0 < b by omega)
      exact open_ _ _ _ _ _ hh m1 (by rw [e2]; exact m2) e3

end Go.Proofs.YtifeacfljfmnpaaGreat
end

section
set_option maxRecDepth 100000
namespace Go.Proofs.YtifeacfljfmnpaaGreat
open Go.RowKit
def IsPair (w : World) (v : Value) (n d : Int) : Prop := ∃ a b c e, v = .agg #[a, b, c, e] ∧ IsInt w (.agg #[a, b]) n ∧ IsInt w (.agg #[c, e]) d
theorem argP_holds {E : Env} {β : Nat → Nat} {w : World} {v : Value} {n d : Int} {i : Nat} (h : IsPair w v n d) (l1 : Lim 100000 n) (l2 : Lim 100000 d) (e1 : E.i (2 * i) = n) (e2 : E.i (2 * i + 1) = d) : (argQ i).holds E β w v := by
  obtain ⟨a, b, c, f, rfl, h1, h2⟩ := h
  refine one_rat.2 ⟨a, b, c, f, rfl, ?_, ?_, ?_, ?_⟩
  · show IsInt w _ (E.i (2 * i)); rw [e1]; exact h1
  · show Lim 100000 (E.i (2 * i)); rw [e1]; exact l1
  · show IsInt w _ (E.i (2 * i + 1)); rw [e2]; exact h2
  · show Lim 100000 (E.i (2 * i + 1)); rw [e2]; exact l2
theorem walkP2 {tab : List (Nat × Con)} {f : Nat} {fn : Func} {T : Tree} {w : World} {n1 d1 n2 d2 : Int} {v1 v2 : Value} (ht : TabOK Tryz.prog (zE [n1, d1, n2, d2]) tab) (hf : Tryz.prog.funcs[f]? = some fn) (hT : funE (cfgOf tab) fn [] [argQ 0, argQ 1] = some T) (h4 : fn.results.toList.length ≤ 4) (hn : 2 ≤ fn.ntmps)
    (h1 : IsPair w v1 n1 d1) (h2 : IsPair w v2 n2 d2) (l1 : Lim 100000 n1) (l1' : Lim 100000 d1) (l2 : Lim 100000 n2) (l2' : Lim 100000 d2) :
    Calls Tryz.prog f #[v1, v2] w fun e w' => ∃ β v, e = .returned v ∧ (toAV (T.pick (zE [n1, d1, n2, d2]))).holds (zE [n1, d1, n2, d2]) β w' v ∧ Ext w w' := by
  refine fun_sound mixed (cfg_ok ht) no_asm hf h4 hT hn rfl w [v1, v2] rfl ?_
  intro i x hx
  match i, hx with
  | 0, hx => injection hx with hx; subst hx; exact ⟨fun _ => 0, v1, rfl, argP_holds h1 l1 l1' rfl rfl⟩
  | 1, hx => injection hx with hx; subst hx; exact ⟨fun _ => 0, v2, rfl, argP_holds h2 l2 l2' rfl rfl⟩
theorem one_pair {E : Env} {w : World} {s t : IT} {l m : Nat} {v : Value} : one E w (true, [.int s l, .int t m]) v ↔ IsPair w v (s.den E) (t.den E) ∧ Lim l (s.den E) ∧ Lim m (t.den E) := by
  rw [one_rat]
  constructor
  · rintro ⟨a, b, c, d, rfl, h1, h2, h3, h4⟩
    exact ⟨⟨a, b, c, d, rfl, h1, h3⟩, h2, h4⟩
  · rintro ⟨⟨a, b, c, d, rfl, h1, h3⟩, h2, h4⟩
    exact ⟨a, b, c, d, rfl, h1, h2, h3, h4⟩

theorem mulRaw_calls (w : World) (v1 v2 : Value) (n1 d1 n2 d2 : Int) (h1 : IsPair w v1 n1 d1) (h2 : IsPair w v2 n2 d2) (l1 : Lim 100000 n1) (l1' : Lim 100000 d1) (l2 : Lim 100000 n2) (l2' : Lim 100000 d2) :
    Calls Tryz.prog 131 #[v1, v2] w (Ret (fun v w' => IsPair w' v (dq n1 ((Nat.gcd n1.natAbs d2.natAbs : Nat) : Int) * dq n2 ((Nat.gcd n2.natAbs d1.natAbs : Nat) : Int)) (dq d1 ((Nat.gcd n2.natAbs d1.natAbs : Nat) : Int) * dq d2 ((Nat.gcd n1.natAbs d2.natAbs : Nat) : Int))) w) := by
  refine (walkP2 (T := .leaf [(true, [.int (.a2 2 (.a2 4 (.var 0) (.a2 6 (.var 0) (.var 3))) (.a2 4 (.var 2) (.a2 6 (.var 2) (.var 1)))) 200000, .int (.a2 2 (.a2 4 (.var 1) (.a2 6 (.var 2) (.var 1))) (.a2 4 (.var 3) (.a2 6 (.var 0) (.var 3)))) 200000])])
    tabDiv_ok Tryz.func131 (by kernel_rfl) (by decide +kernel) (by decide +kernel) h1 h2 l1 l1' l2 l2').mono ?_
  rintro e w' ⟨β, v, rfl, hh, ex⟩
  exact ⟨_, rfl, (one_pair.1 hh).1, ex⟩
def kMulRaw : Con
  | [.val true [.int x l, .int y m], .val true [.int z k, .int t j]], _ => if ql l && (ql m && (ql k && ql j)) || decide (l ≤ 100000) && (decide (m ≤ 100000) && (decide (k ≤ 100000) && decide (j ≤ 100000))) then
      some (.val true [.int (.a2 2 (.a2 4 x (.a2 6 x t)) (.a2 4 z (.a2 6 z y))) (l + k), .int (.a2 2 (.a2 4 y (.a2 6 z y)) (.a2 4 t (.a2 6 x t))) (m + j)]) else none
  | _, _ => none
theorem kMulRaw_ok {E : Env} : ConOK Tryz.prog E 131 kMulRaw := by
  refine ⟨?_, ?_, ⟨_, Tryz.func131, by decide +kernel, by kernel_rfl⟩⟩
  · intro args As r h hG β w vs hv hlen
    unfold kMulRaw at h
    split at h
    · rename_i x l y m z k t j
      split at h
      · rename_i hlo
        injection h with h
        subst h
        simp only [ql, Bool.and_eq_true, Bool.or_eq_true, decide_eq_true_iff] at hlo
        obtain ⟨v, u, rfl, h1, h2⟩ := args2 hv hlen
        obtain ⟨p1, a1, a2⟩ := one_pair.1 h1
        obtain ⟨p2, a3, a4⟩ := one_pair.1 h2
        refine (mulRaw_calls w v u _ _ _ _ p1 p2 (a1.mono (by omega)) (a2.mono (by omega)) (a3.mono (by omega)) (a4.mono (by omega))).mono ?_
        rintro e w' ⟨v', rfl, hp, ex⟩
        exact ⟨v', rfl, one_pair.2 ⟨hp, (a1.natAbs_le (dq_abs _ _)).mul (a3.natAbs_le (dq_abs _ _)), (a2.natAbs_le (dq_abs _ _)).mul (a4.natAbs_le (dq_abs _ _))⟩, ex⟩
      · cases h
    · cases h
  · intro args As r h x off
    unfold kMulRaw at h
    split at h
    · split at h
      · injection h with h; subst h; intro e; cases e
      · cases h
    · cases h
theorem sign_rat_calls (w : World) (v1 : Value) (n d : Int) (h1 : IsPair w v1 n d) (l1 : Lim 100000 n) (l1' : Lim 100000 d) : Calls Tryz.prog 126 #[v1] w fun e w' => e = .returned (.int .i64 (cmpZ n 0)) ∧ Ext w w' := by
  refine (fun_sound (E := zE [n, d]) (args := [argQ 0]) (T := .leaf [(false, [.n .i64 (.a2 3 (.var 0) (.lit 0))])]) mixed (cfg_ok tabDiv_ok) no_asm Tryz.func126 (by decide +kernel) (by kernel_rfl) (by decide +kernel) rfl w [v1] rfl ?_).mono ?_
  · intro i x hx
    match i, hx with
    | 0, hx => injection hx with hx; subst hx; exact ⟨fun _ => 0, v1, rfl, argP_holds h1 l1 l1' rfl rfl⟩
  · rintro e w' ⟨β, v, rfl, hh, ex⟩
    have := one_num.1 hh
    subst this
    exact ⟨rfl, ex⟩
def kSg : Con
  | [.val true [.int x l, .int _ m]], _ => if decide (l ≤ 100000) && decide (m ≤ 100000) then some (.val false [.n .i64 (.a2 3 x (.lit 0))]) else none
  | _, _ => none
theorem kSg_ok {E : Env} : ConOK Tryz.prog E 126 kSg := by
  refine ⟨?_, ?_, ⟨_, Tryz.func126, by decide +kernel, by kernel_rfl⟩⟩
  · intro args As r h hG β w vs hv hlen
    unfold kSg at h
    split at h
    · split at h
      · rename_i hlo
        injection h with h
        subst h
        simp only [Bool.and_eq_true, decide_eq_true_iff] at hlo
        obtain ⟨v, rfl, h1⟩ := args1 hv hlen
        obtain ⟨p1, a1, a2⟩ := one_pair.1 h1
        refine (sign_rat_calls w v _ _ p1 (a1.mono hlo.1) (a2.mono hlo.2)).mono ?_
        rintro e w' ⟨rfl, ex⟩
        exact ⟨_, rfl, one_num.2 rfl, ex⟩
      · cases h
    · cases h
  · intro args As r h x off
    unfold kSg at h
    split at h
    · split at h
      · injection h with h; subst h; intro e; cases e
      · cases h
    · cases h
def tabMul : List (Nat × Con) := (131, kMulRaw)  :: (126, kSg) :: tabDiv
theorem tabMul_ok {E : Env} : TabOK Tryz.prog E tabMul := by
  refine .cons kMulRaw_ok ?_ 
  refine .cons kSg_ok ?_ 
  exact tabDiv_ok

def divD (a b : Rat) : Int := if b = 0 then 0 else ((a / b).den : Int)
def RetDiv (a b : Rat) (w : World) (e : Ending) (w' : World) : Prop :=
  ∃ v, e = .returned (.tuple #[v, .int .i64 (de b.num)]) ∧ IsPair w' v (a / b).num (divD a b) ∧ Ext w w'
theorem open_quot {E : Env} {β : Nat → Nat} {w' : World} {v : Value} {s t u : IT} {l m : Nat} (hx : (AV.tup [(true, [.int s l, .int t m]), (false, [.n .i64 u])]).holds E β w' v) :
    ∃ p, v = .tuple #[p, .int .i64 (u.den E)] ∧ IsPair w' p (s.den E) (t.den E) := by
  obtain ⟨vs, rfl, u1, r1, rfl, k1, u2, r2, rfl, k2, hn⟩ := hx
  simp only [tupAll] at hn
  subst hn
  have k2' := one_num.1 k2
  subst k2'
  exact ⟨u1, rfl, (one_pair.1 k1).1⟩
end Go.Proofs.YtifeacfljfmnpaaGreat
end

section
set_option maxRecDepth 100000
namespace Go.Proofs.YtifeacfljfmnpaaGreat
open Go.RowKit
def nz (q : Bool) : IT → Bool
  | .var i => q && i % 2 == 1
  | .lit z => z != 0
  | .a2 f x y => f == 2 && (nz q x && nz q y) || f == 8
  | .a4 f _ _ _ _ => f % 2 == 1 && f != 9
  | _ => false
theorem nz_spec {E : Env} {q : Bool} (hE : q = true → QEnv E) : ∀ {t : IT}, nz q t = true → t.den E ≠ 0 := by
  intro t
  induction t with
  | var i =>
    intro h
    simp only [nz, Bool.and_eq_true, beq_iff_eq] at h
    obtain ⟨q', _, h2⟩ := hE h.1 (i - 1) (by omega)
    rw [show i - 1 + 1 = i by omega] at h2
    show E.i i ≠ 0
    rw [h2]
    have := q'.den_pos
    omega
  | lit z => intro h; simpa [nz, IT.den] using h
  | a2 f x y ihx ihy =>
    intro h
    simp only [nz, Bool.or_eq_true, Bool.and_eq_true, beq_iff_eq] at h
    rcases h with ⟨rfl, h1, h2⟩ | rfl
    · exact Int.mul_ne_zero (ihx h1) (ihy h2)
    · show ((Rat.divInt _ _).den : Int) ≠ 0
      have := (Rat.divInt (x.den E) (y.den E)).den_pos
      omega
  | a4 f x y z t _ _ _ _ =>
    intro h
    simp only [nz, Bool.and_eq_true, beq_iff_eq, bne_iff_ne] at h
    show fn4 f _ _ _ _ ≠ 0
    unfold fn4
    rw [if_neg (by omega), if_neg (fun e => h.2 e.1)]
    have := (ratF (f / 2) (Rat.divInt (x.den E) (y.den E)) (Rat.divInt (z.den E) (t.den E))).den_pos
    omega
  | _ => intro h; cases h
def kOf (q : Bool) : Con
  | [.val true [.int x l], .val true [.int y m]], G => if lo l && (lo m && (nz q y || (G.find (.eq (.a2 3 y (.lit 0)) (.lit 0)) == some false || G.find (.eq y (.lit 0)) == some false))) then some (.val true [.int (.a2 7 x y) l, .int (.a2 8 x y) m]) else none
  | _, _ => none
theorem kOf_ok {E : Env} {q : Bool} (hE : q = true → QEnv E) : ConOK Tryz.prog E 98 (kOf q) := by
  refine ⟨?_, ?_, ⟨_, Tryz.func98, by decide +kernel, by kernel_rfl⟩⟩
  · intro args As r h hG β w vs hv hlen
    unfold kOf at h
    split at h
    · rename_i x l y m
      split at h
      · rename_i hlo
        injection h with h
        subst h
        simp only [lo, Bool.and_eq_true, Bool.or_eq_true, decide_eq_true_iff, beq_iff_eq] at hlo
        obtain ⟨b1, b2, b3⟩ := hlo
        have hy : y.den E ≠ 0 := by
          rcases b3 with b3 | b3 | b3
          · exact nz_spec hE b3
          · have := Asm.find_spec hG b3
            intro e
            have h2 : (cmpZ (y.den E) 0 == 0) = false := this
            rw [e] at h2
            cases h2
          · have := Asm.find_spec hG b3
            intro e
            have h2 : (y.den E == 0) = false := this
            rw [e] at h2
            cases h2
        obtain ⟨v, u, rfl, h1, h2⟩ := args2 hv hlen
        obtain ⟨i1, l1⟩ := one_int.1 h1
        obtain ⟨i2, l2⟩ := one_int.1 h2
        refine (of_calls w v u _ _ hy i1 i2 (l1.mono b1) (l2.mono b2)).mono ?_
        rintro e w' ⟨v', rfl, hp, ex⟩
        obtain ⟨n1, n2⟩ := divInt_lim l1 l2 hy
        exact ⟨v', rfl, one_pair.2 ⟨hp, n1, n2⟩, ex⟩
      · cases h
    · cases h
  · intro args As r h x off
    unfold kOf at h
    split at h
    · split at h
      · injection h with h; subst h; intro e; cases e
      · cases h
    · cases h
def kMake : Con
  | [.val true [.int x l], .val true [.int y m]], _ => if lo l && lo m then some (.tup [(true, [.int (.a2 7 x y) l, .int (.a2 11 x y) m]), (false, [.n .i64 (.a1 1 y)])]) else none
  | _, _ => none
theorem lim_zero {l : Nat} : Lim l 0 := by unfold Lim; rw [Int.natAbs_zero, limbs_zero]; exact Nat.zero_le _
theorem kMake_ok {E : Env} {f : Nat} (hc : ∀ (w : World) (v u : Value) (a b : Int), IsInt w v a → IsInt w u b → Lim 400000 a → Lim 400000 b → Calls Tryz.prog f #[v, u] w (RetMake a b w))
    (hb : ∃ fn, Tryz.prog.funcs[f]? = some fn ∧ fn.name ≠ "runtime.NumGoroutine" ∧ fn.body.isNone = false) : ConOK Tryz.prog E f kMake := by
  refine ⟨?_, ?_, hb⟩
  · intro args As r h hG β w vs hv hlen
    unfold kMake at h
    split at h
    · rename_i x l y m
      split at h
      · rename_i hlo
        injection h with h
        subst h
        simp only [lo, Bool.and_eq_true, decide_eq_true_iff] at hlo
        obtain ⟨v, u, rfl, h1, h2⟩ := args2 hv hlen
        obtain ⟨i1, l1⟩ := one_int.1 h1
        obtain ⟨i2, l2⟩ := one_int.1 h2
        refine (hc w v u _ _ i1 i2 (l1.mono (by omega)) (l2.mono (by omega))).mono ?_
        rintro e w' ⟨a, b, c, d, rfl, k1, k2, ex⟩
        have hlim : Lim l (Rat.divInt (x.den E) (y.den E)).num ∧ Lim m (denZ (x.den E) (y.den E)) := by
          unfold denZ
          by_cases hy : y.den E = 0
          · rw [if_pos hy, hy, divInt_zero']
            exact ⟨lim_zero, lim_zero⟩
          · rw [if_neg hy]
            exact divInt_lim l1 l2 hy
        exact ⟨_, rfl, ⟨[.agg #[a, b, c, d], .int .i64 (de (y.den E))], rfl, _, _, rfl, one_pair.2 ⟨⟨a, b, c, d, rfl, k1, k2⟩, hlim.1, hlim.2⟩, _, _, rfl, one_num.2 rfl, rfl⟩, ex⟩
      · cases h
    · cases h
  · intro args As r h x off
    unfold kMake at h
    split at h
    · split at h
      · injection h with h; subst h; intro e; cases e
      · cases h
    · cases h
def tabR3 (q : Bool) : List (Nat × Con) := (98, kOf q) :: (89, k0 (.lit 1) 3) :: tabR2
theorem tabR3_ok {E : Env} {q : Bool} (hE : q = true → QEnv E) : TabOK Tryz.prog E (tabR3 q) :=
  .cons (kOf_ok hE) (.cons (k0_ok 1 rfl (fun w => unit_calls w) (lim3 (by decide) (by decide)) ⟨_, Tryz.func89, by decide +kernel, by kernel_rfl⟩) tabR2_ok)
theorem qE_ok (l : List Rat) : QEnv (qE l) := by
  intro i hi
  refine ⟨l.getD (i / 2) 0, ?_, ?_⟩
  · show (if i % 2 = 0 then _ else _) = _
    rw [if_pos hi]
  · show (if (i + 1) % 2 = 0 then _ else _) = _
    rw [if_neg (by omega), show (i + 1) / 2 = i / 2 by omega]
theorem rmake_calls (w : World) (v1 v2 : Value) (a b : Int) (h : IsInt w v1 a) (k : IsInt w v2 b) (l1 : Lim 400000 a) (l2 : Lim 400000 b) :
    Calls Tryz.prog 105 #[v1, v2] w (RetMake a b w) := by
  refine (walkZ2 (T := .ite (.eq (.a2 3 (.var 1) (.lit 0)) (.lit 0)) (.leaf [(true, [.int (.lit 0) 0, .int (.lit 0) 0]), (false, [.n .i64 (.lit 6)])])
    (.leaf [(true, [.int (.a2 7 (.var 0) (.var 1)) 400000, .int (.a2 8 (.var 0) (.var 1)) 400000]), (false, [.n .i64 (.lit 0)])]))
    (tabR3_ok (q := false) (fun h => by cases h)) Tryz.func105 (by kernel_rfl) (by decide +kernel) (by decide +kernel) h k l1 l2).mono ?_
  rintro e w' ⟨β, v, rfl, hh, ex⟩
  simp only [Tree.pick] at hh
  split at hh
  · rename_i hz
    have hz' : b = 0 := (cmp_eq0 b).1 (eq_of_beq hz)
    subst hz'
    obtain ⟨p, rfl, x, y, z, t, rfl, k1, k2⟩ := open_quot hh
    exact ⟨x, y, z, t, rfl, by rw [divInt_zero']; exact k1, k2, ex⟩
  · rename_i hz
    have hb : b ≠ 0 := fun hb => hz (beq_iff_eq.2 ((cmp_eq0 b).2 hb))
    obtain ⟨p, rfl, x, y, z, t, rfl, k1, k2⟩ := open_quot hh
    refine ⟨x, y, z, t, ?_, k1, ?_, ex⟩
    · unfold de; rw [if_neg hb]; rfl
    · unfold denZ; rw [if_neg hb]; exact k2
theorem den_ne (q : Rat) : (q.den : Int) ≠ 0 := by have := q.den_pos; omega
theorem radd_rat_calls (w : World) (v1 v2 : Value) (a b : Rat) (h1 : IsRat w v1 a) (h2 : IsRat w v2 b) (l1 : LimQ 100000 a) (l2 : LimQ 100000 b) :
    Calls Tryz.prog 27 #[v1, v2] w (Ret (fun v w' => IsRat w' v (a + b)) w) := by
  refine (walkQ2 (T := .leaf [(true, [.int (.a2 7 (.a2 0 (.a2 2 (.var 0) (.var 3)) (.a2 2 (.var 2) (.var 1))) (.a2 2 (.var 1) (.var 3))) 200001, .int (.a2 8 (.a2 0 (.a2 2 (.var 0) (.var 3)) (.a2 2 (.var 2) (.var 1))) (.a2 2 (.var 1) (.var 3))) 200000])])
    (tabR3_ok (q := true) (fun _ => qE_ok _)) Tryz.func27 (by kernel_rfl) (by decide +kernel) (by decide +kernel) h1 h2 l1 l2).mono ?_
  rintro e w' ⟨β, v, rfl, hh, ex⟩
  have e1 : a + b = Rat.divInt (a.num * (b.den : Int) + b.num * (a.den : Int)) ((a.den : Int) * (b.den : Int)) := by
    rw [← Rat.divInt_add_divInt _ _ (den_ne a) (den_ne b), divInt_parts, divInt_parts]
  exact ⟨v, rfl, by rw [e1]; exact (one_pair.1 hh).1, ex⟩
theorem rmul_rat_calls (w : World) (v1 v2 : Value) (a b : Rat) (h1 : IsRat w v1 a) (h2 : IsRat w v2 b) (l1 : LimQ 100000 a) (l2 : LimQ 100000 b) :
    Calls Tryz.prog 26 #[v1, v2] w (Ret (fun v w' => IsRat w' v (a * b)) w) := by
  refine (walkQ2 (T := .leaf [(true, [.int (.a2 7 (.a2 2 (.var 0) (.var 2)) (.a2 2 (.var 1) (.var 3))) 200000, .int (.a2 8 (.a2 2 (.var 0) (.var 2)) (.a2 2 (.var 1) (.var 3))) 200000])])
    (tabR3_ok (q := true) (fun _ => qE_ok _)) Tryz.func26 (by kernel_rfl) (by decide +kernel) (by decide +kernel) h1 h2 l1 l2).mono ?_
  rintro e w' ⟨β, v, rfl, hh, ex⟩
  have e1 : a * b = Rat.divInt (a.num * b.num) ((a.den : Int) * (b.den : Int)) := by
    rw [← Rat.divInt_mul_divInt, divInt_parts, divInt_parts]
  exact ⟨v, rfl, by rw [e1]; exact (one_pair.1 hh).1, ex⟩
theorem rneg_rat_calls (w : World) (v1 : Value) (a : Rat) (h1 : IsRat w v1 a) (l1 : LimQ 100000 a) :
    Calls Tryz.prog 97 #[v1] w (Ret (fun v w' => IsRat w' v (-a)) w) := by
  refine (walkQ1 (T := .leaf [(true, [.int (.a1 0 (.var 0)) 100000, .int (.var 1) 100000])])
    (tabR3_ok (q := true) (fun _ => qE_ok _)) Tryz.func97 (by kernel_rfl) (by decide +kernel) (by decide +kernel) h1 l1).mono ?_
  rintro e w' ⟨β, v, rfl, hh, ex⟩
  exact ⟨v, rfl, (one_pair.1 hh).1, ex⟩
def tabR4 (q : Bool) : List (Nat × Con) := (105, kMake) :: tabR3 q
theorem tabR4_ok {E : Env} {q : Bool} (hE : q = true → QEnv E) : TabOK Tryz.prog E (tabR4 q) :=
  .cons (kMake_ok (fun w v u a b h k l1 l2 => rmake_calls w v u a b h k l1 l2) ⟨_, Tryz.func105, by decide +kernel, by kernel_rfl⟩) (tabR3_ok hE)
theorem rdiv_rat_calls (w : World) (v1 v2 : Value) (a b : Rat) (h1 : IsRat w v1 a) (h2 : IsRat w v2 b) (l1 : LimQ 100000 a) (l2 : LimQ 100000 b) :
    Calls Tryz.prog 29 #[v1, v2] w (RetDiv a b w) := by
  refine (walkQ2 (T := .leaf [(true, [.int (.a2 7 (.a2 2 (.var 0) (.var 3)) (.a2 2 (.var 1) (.var 2))) 200000, .int (.a2 11 (.a2 2 (.var 0) (.var 3)) (.a2 2 (.var 1) (.var 2))) 200000]), (false, [.n .i64 (.a1 1 (.a2 2 (.var 1) (.var 2)))])])
    (tabR4_ok (q := true) (fun _ => qE_ok _)) Tryz.func29 (by kernel_rfl) (by decide +kernel) (by decide +kernel) h1 h2 l1 l2).mono ?_
  rintro e w' ⟨β, v, rfl, hh, ex⟩
  obtain ⟨p, rfl, hp⟩ := open_quot hh
  have e1 : a / b = Rat.divInt (a.num * (b.den : Int)) ((a.den : Int) * b.num) := by
    rw [← Rat.divInt_mul_divInt, divInt_parts, ← Rat.inv_divInt, divInt_parts, Rat.div_def]
  have e0 : ((a.den : Int) * b.num = 0) ↔ b = 0 := by
    rw [Int.mul_eq_zero, ← Rat.num_eq_zero]
    exact ⟨fun h => h.resolve_left (den_ne a), .inr⟩
  have e2 : divD a b = denZ (a.num * (b.den : Int)) ((a.den : Int) * b.num) := by
    unfold divD denZ
    rw [e1]
    by_cases hb : b = 0
    · rw [if_pos hb, if_pos (e0.2 hb)]
    · rw [if_neg hb, if_neg (fun h => hb (e0.1 h))]
  have e3 : de b.num = de ((a.den : Int) * b.num) := by
    unfold de
    by_cases hb : b = 0
    · rw [if_pos (Rat.num_eq_zero.2 hb), if_pos (e0.2 hb)]
    · rw [if_neg (fun h => hb (Rat.num_eq_zero.1 h)), if_neg (fun h => hb (e0.1 h))]
  exact ⟨p, by rw [e3]; rfl, by rw [e2, e1]; exact hp, ex⟩

end Go.Proofs.YtifeacfljfmnpaaGreat
end

section
set_option maxRecDepth 100000
namespace Go.Proofs.YtifeacfljfmnpaaGreat
open Go.RowKit
theorem fn4_num {f : Nat} (hf : f % 2 = 0) (a b : Rat) : fn4 f a.num (a.den : Int) b.num (b.den : Int) = (ratF (f / 2) a b).num := by
  unfold fn4
  rw [if_pos hf, divInt_parts, divInt_parts]
theorem fn4_den {f : Nat} (hf : f % 2 = 1) (h9 : f ≠ 9) (a b : Rat) : fn4 f a.num (a.den : Int) b.num (b.den : Int) = ((ratF (f / 2) a b).den : Int) := by
  unfold fn4
  rw [if_neg (by omega), if_neg (fun e => h9 e.1), divInt_parts, divInt_parts]
theorem args3 {E : Env} {β : Nat → Nat} {w : World} {x y z : AV} {vs : List Value} (hv : ∀ (i : Nat) (a : AV), [x, y, z][i]? = some a → ∃ v, vs[i]? = some v ∧ a.holds E β w v) (hl : vs.length = [x, y, z].length) :
    ∃ v u t, vs = [v, u, t] ∧ x.holds E β w v ∧ y.holds E β w u ∧ z.holds E β w t := by
  match vs, hl with
  | [v, u, t], _ =>
    obtain ⟨v', e1, h1⟩ := hv 0 x rfl
    obtain ⟨u', e2, h2⟩ := hv 1 y rfl
    obtain ⟨t', e3, h3⟩ := hv 2 z rfl
    injection e1 with e1
    injection e2 with e2
    injection e3 with e3
    subst e1 e2 e3
    exact ⟨_, _, _, rfl, h1, h2, h3⟩
def kSum (f g : Nat) : Con
  | [.val true [.int x l, .int y m], .val true [.int z k, .int t j], .val false [.fn h]], _ => if h == g && (canon x y && (canon z t && (decide (l ≤ 100000) && (decide (m ≤ 100000) && (decide (k ≤ 100000) && decide (j ≤ 100000)))))) then
      some (.val true [.int (.a4 (2 * f) x y z t) (l + m + k + j + 1), .int (.a4 (2 * f + 1) x y z t) (l + m + k + j + 1)]) else none
  | _, _ => none
theorem kSum_ok {E : Env} (hE : QEnv E) {f g : Nat} (hf : f < 4)
    (hc : ∀ (w : World) (v1 v2 : Value) (a b : Rat), IsRat w v1 a → IsRat w v2 b → LimQ 100000 a → LimQ 100000 b → Calls Tryz.prog 180 #[v1, v2, .func (.func g) #[] #[]] w (Ret (fun v w' => IsRat w' v (ratF f a b)) w))
    (hl : ∀ {l m k j : Nat} {a b : Rat}, Lim l a.num → Lim m (a.den : Int) → Lim k b.num → Lim j (b.den : Int) → Lim (l + m + k + j + 1) (ratF f a b).num ∧ Lim (l + m + k + j + 1) ((ratF f a b).den : Int)) :
    ConOK Tryz.prog E 180 (kSum f g) := by
  refine ⟨?_, ?_, ⟨_, Tryz.func180, by decide +kernel, by kernel_rfl⟩⟩
  · intro args As r h hG β w vs hv hlen
    unfold kSum at h
    split at h
    · rename_i x l y m z k t j g'
      split at h
      · rename_i hlo
        injection h with h
        subst h
        simp only [Bool.and_eq_true, decide_eq_true_iff, beq_iff_eq] at hlo
        obtain ⟨rfl, c1, c2, b1, b2, b3, b4⟩ := hlo
        obtain ⟨v, u, s, rfl, h1, h2, h3⟩ := args3 hv hlen
        obtain ⟨p, ep, ex1, ex2, hp, lp1, lp2⟩ := one_ratQ hE c1 h1
        obtain ⟨q, eq, ey1, ey2, hq, lq1, lq2⟩ := one_ratQ hE c2 h2
        obtain ⟨⟨l1, r1, h31, h32, h33⟩, _⟩ := h3
        simp only [Chunk.holds] at h32
        simp only [chunks] at h33
        subst h32 h33
        injection h31 with h31
        subst h31
        obtain ⟨n1, n2⟩ := hl lp1 lp2 lq1 lq2
        refine (hc w v u p q hp hq ⟨lp1.mono b1, lp2.mono b2⟩ ⟨lq1.mono b3, lq2.mono b4⟩).mono ?_
        rintro e w' ⟨v', rfl, hr, ex⟩
        have d1 : (IT.a4 (2 * f) x y z t).den E = (ratF f p q).num := by
          show fn4 (2 * f) (x.den E) (y.den E) (z.den E) (t.den E) = _
          rw [ex1, ex2, ey1, ey2, fn4_num (by omega), show 2 * f / 2 = f by omega]
        have d2 : (IT.a4 (2 * f + 1) x y z t).den E = ((ratF f p q).den : Int) := by
          show fn4 (2 * f + 1) (x.den E) (y.den E) (z.den E) (t.den E) = _
          rw [ex1, ex2, ey1, ey2, fn4_den (by omega) (by omega), show (2 * f + 1) / 2 = f by omega]
        exact ⟨_, rfl, one_pair.2 ⟨by rw [d1, d2]; exact hr, by rw [d1]; exact n1, by rw [d2]; exact n2⟩, ex⟩
      · cases h
    · cases h
  · intro args As r h x off
    unfold kSum at h
    split at h
    · split at h
      · injection h with h; subst h; intro e; cases e
      · cases h
    · cases h
theorem add_rat_calls (w : World) (v1 v2 : Value) (a b : Rat) (h1 : IsRat w v1 a) (h2 : IsRat w v2 b) (l1 : LimQ 100000 a) (l2 : LimQ 100000 b) :
    Calls Tryz.prog 128 #[v1, v2] w (Ret (fun v w' => IsRat w' v (a + b)) w) := by
  refine (walkQ2 (tab := [(180, kSum 0 181)]) (T := .leaf [(true, [.int (.a4 0 (.var 0) (.var 1) (.var 2) (.var 3)) 400001, .int (.a4 1 (.var 0) (.var 1) (.var 2) (.var 3)) 400001])])
    (.cons (kSum_ok (qE_ok _) (by omega) (fun w v1 v2 a b h1 h2 l1 l2 => sum_add_calls w v1 v2 a b h1 h2 l1 l2) (fun h1 h2 h3 h4 => LimQ.add h1 h2 h3 h4)) .nil) Tryz.func128 (by kernel_rfl) (by decide +kernel) (by decide +kernel) h1 h2 l1 l2).mono ?_
  rintro e w' ⟨β, v, rfl, hh, ex⟩
  have hp := (one_pair.1 hh).1
  have d1 : (IT.a4 0 (.var 0) (.var 1) (.var 2) (.var 3)).den (qE [a, b]) = (a + b).num := fn4_num rfl a b
  have d2 : (IT.a4 1 (.var 0) (.var 1) (.var 2) (.var 3)).den (qE [a, b]) = ((a + b).den : Int) := fn4_den rfl (by omega) a b
  rw [d1, d2] at hp
  exact ⟨v, rfl, hp, ex⟩
theorem sub_rat_calls (w : World) (v1 v2 : Value) (a b : Rat) (h1 : IsRat w v1 a) (h2 : IsRat w v2 b) (l1 : LimQ 100000 a) (l2 : LimQ 100000 b) :
    Calls Tryz.prog 129 #[v1, v2] w (Ret (fun v w' => IsRat w' v (a - b)) w) := by
  refine (walkQ2 (tab := [(180, kSum 1 182)]) (T := .leaf [(true, [.int (.a4 2 (.var 0) (.var 1) (.var 2) (.var 3)) 400001, .int (.a4 3 (.var 0) (.var 1) (.var 2) (.var 3)) 400001])])
    (.cons (kSum_ok (qE_ok _) (by omega) (fun w v1 v2 a b h1 h2 l1 l2 => sum_sub_calls w v1 v2 a b h1 h2 l1 l2) (fun h1 h2 h3 h4 => LimQ.sub h1 h2 h3 h4)) .nil) Tryz.func129 (by kernel_rfl) (by decide +kernel) (by decide +kernel) h1 h2 l1 l2).mono ?_
  rintro e w' ⟨β, v, rfl, hh, ex⟩
  have hp := (one_pair.1 hh).1
  have d1 : (IT.a4 2 (.var 0) (.var 1) (.var 2) (.var 3)).den (qE [a, b]) = (a - b).num := fn4_num rfl a b
  have d2 : (IT.a4 3 (.var 0) (.var 1) (.var 2) (.var 3)).den (qE [a, b]) = ((a - b).den : Int) := fn4_den rfl (by omega) a b
  rw [d1, d2] at hp
  exact ⟨v, rfl, hp, ex⟩
def kNegQ : Con
  | [.val true [.int x l, .int y m]], _ => if canon x y && (decide (l ≤ 100000) && decide (m ≤ 100000)) then some (.val true [.int (.a1 0 x) l, .int y m]) else none
  | _, _ => none
theorem kNegQ_ok {E : Env} (hE : QEnv E) {f : Nat} (hc : ∀ (w : World) (v1 : Value) (a : Rat), IsRat w v1 a → LimQ 100000 a → Calls Tryz.prog f #[v1] w (Ret (fun v w' => IsRat w' v (-a)) w))
    (hb : ∃ fn, Tryz.prog.funcs[f]? = some fn ∧ fn.name ≠ "runtime.NumGoroutine" ∧ fn.body.isNone = false) : ConOK Tryz.prog E f kNegQ := by
  refine ⟨?_, ?_, hb⟩
  · intro args As r h hG β w vs hv hlen
    unfold kNegQ at h
    split at h
    · rename_i x l y m
      split at h
      · rename_i hlo
        injection h with h
        subst h
        simp only [Bool.and_eq_true, decide_eq_true_iff] at hlo
        obtain ⟨c1, b1, b2⟩ := hlo
        obtain ⟨v, rfl, h1⟩ := args1 hv hlen
        obtain ⟨p, ep, ex1, ex2, hp, lp1, lp2⟩ := one_ratQ hE c1 h1
        refine (hc w v p hp ⟨lp1.mono b1, lp2.mono b2⟩).mono ?_
        rintro e w' ⟨v', rfl, hr, ex⟩
        have d1 : (IT.a1 0 x).den E = (-p).num := by rw [Rat.neg_num, ← ex1]; rfl
        exact ⟨_, rfl, one_pair.2 ⟨by rw [d1, ex2]; exact hr, by rw [d1]; exact lp1.neg, by rw [ex2]; exact lp2⟩, ex⟩
      · cases h
    · cases h
  · intro args As r h x off
    unfold kNegQ at h
    split at h
    · split at h
      · injection h with h; subst h; intro e; cases e
      · cases h
    · cases h
def tabR5 : List (Nat × Con) := [(97, kNegQ), (27, kQQ 0)]
theorem tabR5_ok {E : Env} (hE : QEnv E) : TabOK Tryz.prog E tabR5 :=
  .cons (kNegQ_ok hE (fun w v a h l => rneg_rat_calls w v a h l) ⟨_, Tryz.func97, by decide +kernel, by kernel_rfl⟩)
    (.cons (kQQ_ok hE (by omega) (fun w v1 v2 a b h1 h2 l1 l2 => radd_rat_calls w v1 v2 a b h1 h2 l1 l2) (fun h1 h2 h3 h4 => LimQ.add h1 h2 h3 h4) ⟨_, Tryz.func27, by decide +kernel, by kernel_rfl⟩) .nil)

end Go.Proofs.YtifeacfljfmnpaaGreat
end

section
set_option maxRecDepth 100000
namespace Go.Proofs.YtifeacfljfmnpaaGreat
open Go.RowKit
theorem rsub_rat_calls (w : World) (v1 v2 : Value) (a b : Rat) (h1 : IsRat w v1 a) (h2 : IsRat w v2 b) (l1 : LimQ 100000 a) (l2 : LimQ 100000 b) :
    Calls Tryz.prog 23 #[v1, v2] w (Ret (fun v w' => IsRat w' v (a - b)) w) := by
  refine (walkQ2 (T := .leaf [(true, [.int (.a4 0 (.var 0) (.var 1) (.a1 0 (.var 2)) (.var 3)) 400001, .int (.a4 1 (.var 0) (.var 1) (.a1 0 (.var 2)) (.var 3)) 400001])])
    (tabR5_ok (qE_ok _)) Tryz.func23 (by kernel_rfl) (by decide +kernel) (by decide +kernel) h1 h2 l1 l2).mono ?_
  rintro e w' ⟨β, v, rfl, hh, ex⟩
  have hp := (one_pair.1 hh).1
  have d1 : (IT.a4 0 (.var 0) (.var 1) (.a1 0 (.var 2)) (.var 3)).den (qE [a, b]) = (a - b).num := by rw [Rat.sub_eq_add_neg]; exact fn4_num rfl a (-b)
  have d2 : (IT.a4 1 (.var 0) (.var 1) (.a1 0 (.var 2)) (.var 3)).den (qE [a, b]) = ((a - b).den : Int) := by rw [Rat.sub_eq_add_neg]; exact fn4_den rfl (by omega) a (-b)
  rw [d1, d2] at hp
  exact ⟨v, rfl, hp, ex⟩

def bnd (i : Nat) : Asm := [(.le (.lit (-9223372036854775808)) (.var i), true), (.le (.var i) (.lit 9223372036854775807), true)]
def argN (i : Nat) : AV := .val false [.n .i64 (.var i)]
def I64 (n : Int) : Prop := -9223372036854775808 ≤ n ∧ n ≤ 9223372036854775807
theorem bnd_holds {E : Env} {i : Nat} (h : I64 (E.i i)) : (bnd i).holds E := by
  intro p hp
  simp only [bnd, List.mem_cons, List.not_mem_nil, or_false] at hp
  rcases hp with rfl | rfl
  · exact decide_eq_true h.1
  · exact decide_eq_true h.2
theorem walkN1 {tab : List (Nat × Con)} {f : Nat} {fn : Func} {T : Tree} {w : World} {n : Int} (ht : TabOK Tryz.prog (zE [n]) tab) (hf : Tryz.prog.funcs[f]? = some fn) (hT : funE (cfgOf tab) fn (bnd 0) [argN 0] = some T) (h4 : fn.results.toList.length ≤ 4) (hn : 1 ≤ fn.ntmps) (h : I64 n) :
    Calls Tryz.prog f #[.int .i64 n] w fun e w' => ∃ β v, e = .returned v ∧ (toAV (T.pick (zE [n]))).holds (zE [n]) β w' v ∧ Ext w w' := by
  refine fun_sound mixed (cfg_ok ht) (bnd_holds (E := zE [n]) (i := 0) h) hf h4 hT hn rfl w [.int .i64 n] rfl ?_
  intro i x hx
  match i, hx with
  | 0, hx => injection hx with hx; subst hx; exact ⟨fun _ => 0, _, rfl, one_num.2 rfl⟩
theorem walkN2 {tab : List (Nat × Con)} {f : Nat} {fn : Func} {T : Tree} {w : World} {n d : Int} (ht : TabOK Tryz.prog (zE [n, d]) tab) (hf : Tryz.prog.funcs[f]? = some fn) (hT : funE (cfgOf tab) fn (bnd 0 ++ bnd 1) [argN 0, argN 1] = some T) (h4 : fn.results.toList.length ≤ 4) (hn : 2 ≤ fn.ntmps) (h : I64 n) (k : I64 d) :
    Calls Tryz.prog f #[.int .i64 n, .int .i64 d] w fun e w' => ∃ β v, e = .returned v ∧ (toAV (T.pick (zE [n, d]))).holds (zE [n, d]) β w' v ∧ Ext w w' := by
  have hG : (bnd 0 ++ bnd 1).holds (zE [n, d]) := by
    intro p hp
    rcases List.mem_append.1 hp with hp | hp
    · exact bnd_holds (E := zE [n, d]) (i := 0) h p hp
    · exact bnd_holds (E := zE [n, d]) (i := 1) k p hp
  refine fun_sound mixed (cfg_ok ht) hG hf h4 hT hn rfl w [.int .i64 n, .int .i64 d] rfl ?_
  intro i x hx
  match i, hx with
  | 0, hx => injection hx with hx; subst hx; exact ⟨fun _ => 0, _, rfl, one_num.2 rfl⟩
  | 1, hx => injection hx with hx; subst hx; exact ⟨fun _ => 0, _, rfl, one_num.2 rfl⟩
theorem from_rat_calls (w : World) (n : Int) (h : I64 n) : Calls Tryz.prog 122 #[.int .i64 n] w (Ret (fun v w' => IsPair w' v n 1) w) := by
  refine (walkN1 (T := .leaf [(true, [.int (.var 0) 3, .int (.lit 1) 3])]) tabDiv_ok Tryz.func122 (by kernel_rfl) (by decide +kernel) (by decide +kernel) h).mono ?_
  rintro e w' ⟨β, v, rfl, hh, ex⟩
  exact ⟨v, rfl, (one_pair.1 hh).1, ex⟩
theorem rfrom_rat_calls (w : World) (n : Int) (h : I64 n) : Calls Tryz.prog 91 #[.int .i64 n] w (Ret (fun v w' => IsPair w' v n 1) w) := by
  refine (walkN1 (T := .leaf [(true, [.int (.var 0) 3, .int (.lit 1) 3])]) (tabR3_ok (q := false) (fun h => by cases h)) Tryz.func91 (by kernel_rfl) (by decide +kernel) (by decide +kernel) h).mono ?_
  rintro e w' ⟨β, v, rfl, hh, ex⟩
  exact ⟨v, rfl, (one_pair.1 hh).1, ex⟩
def inR (G : Asm) : IT → Bool
  | .lit z => decide (-9223372036854775808 ≤ z) && decide (z ≤ 9223372036854775807)
  | t => G.find (.le (.lit (-9223372036854775808)) t) == some true && G.find (.le t (.lit 9223372036854775807)) == some true
theorem inR_spec {E : Env} {G : Asm} (hG : G.holds E) {t : IT} (h : inR G t = true) : I64 (t.den E) := by
  unfold inR at h
  split at h
  · simpa [I64, IT.den] using h
  · rw [Bool.and_eq_true, beq_iff_eq, beq_iff_eq] at h
    have b1 := Asm.find_spec hG h.1
    have b2 := Asm.find_spec hG h.2
    simp only [BT.den, IT.den] at b1 b2
    exact ⟨of_decide_eq_true b1, of_decide_eq_true b2⟩
def kFromQ : Con
  | [.val false [.n .i64 t]], G => if inR G t then some (.val true [.int t 3, .int (.lit 1) 3]) else none
  | _, _ => none
theorem kFromQ_ok {E : Env} {f : Nat} (hc : ∀ (w : World) (n : Int), I64 n → Calls Tryz.prog f #[.int .i64 n] w (Ret (fun v w' => IsPair w' v n 1) w))
    (hb : ∃ fn, Tryz.prog.funcs[f]? = some fn ∧ fn.name ≠ "runtime.NumGoroutine" ∧ fn.body.isNone = false) : ConOK Tryz.prog E f kFromQ := by
  refine ⟨?_, ?_, hb⟩
  · intro args As r h hG β w vs hv hlen
    unfold kFromQ at h
    split at h
    · rename_i t
      split at h
      · rename_i hr
        injection h with h
        subst h
        have hi := inR_spec hG hr
        obtain ⟨v, rfl, h1⟩ := args1 hv hlen
        have h1' := one_num.1 h1
        subst h1'
        refine (hc w _ hi).mono ?_
        rintro e w' ⟨v', rfl, hp, ex⟩
        exact ⟨v', rfl, one_pair.2 ⟨hp, lim3 hi.1 hi.2, lim3 (z := 1) (by decide) (by decide)⟩, ex⟩
      · cases h
    · cases h
  · intro args As r h x off
    unfold kFromQ at h
    split at h
    · split at h
      · injection h with h; subst h; intro e; cases e
      · cases h
    · cases h
theorem divInt_0 (n : Int) : Rat.divInt n 0 = 0 := by
  have := divInt_zero' n
  exact Rat.num_eq_zero.1 this
theorem rfrac_rat_calls (w : World) (n d : Int) (h : I64 n) (k : I64 d) : Calls Tryz.prog 69 #[.int .i64 n, .int .i64 d] w (Ret (fun v w' => IsRat w' v (Rat.divInt n d)) w) := by
  refine (walkN2 (T := .ite (.eq (.var 1) (.lit 0)) (.leaf [(true, [.int (.a2 7 (.lit 0) (.lit 1)) 3, .int (.a2 8 (.lit 0) (.lit 1)) 3])]) (.leaf [(true, [.int (.a2 7 (.var 0) (.var 1)) 3, .int (.a2 8 (.var 0) (.var 1)) 3])]))
    (tabR3_ok (q := false) (fun h => by cases h)) Tryz.func69 (by kernel_rfl) (by decide +kernel) (by decide +kernel) h k).mono ?_
  rintro e w' ⟨β, v, rfl, hh, ex⟩
  simp only [Tree.pick] at hh
  split at hh
  · rename_i hz
    have hd : d = 0 := eq_of_beq hz
    have hp := (one_pair.1 hh).1
    subst hd
    have e0 : Rat.divInt 0 1 = 0 := by rw [← Rat.num_eq_zero, Rat.num_divInt]; simp
    refine ⟨v, rfl, ?_, ex⟩
    rw [divInt_0, ← e0]
    exact hp
  · exact ⟨v, rfl, (one_pair.1 hh).1, ex⟩
theorem floor_rat_calls (w : World) (v1 : Value) (a : Rat) (h1 : IsRat w v1 a) (l1 : LimQ 100000 a) :
    Calls Tryz.prog 209 #[v1] w (Ret (fun v w' => IsInt w' v (dq a.num (a.den : Int))) w) := by
  refine (walkQ1 (T := .leaf [(true, [.int (.a2 4 (.var 0) (.var 1)) 100000])]) tabMul_ok Tryz.func209 (by kernel_rfl) (by decide +kernel) (by decide +kernel) h1 l1).mono ?_
  rintro e w' ⟨β, v, rfl, hh, ex⟩
  exact ⟨v, rfl, (one_int.1 hh).1, ex⟩

end Go.Proofs.YtifeacfljfmnpaaGreat
end

section
set_option maxRecDepth 100000
namespace Go.Proofs.YtifeacfljfmnpaaGreat
open Go.RowKit
theorem cmp_cross {n1 n2 d1 d2 : Int} (h1 : 0 < d1) (h2 : 0 < d2) (hs : cmpZ n1 0 ≠ cmpZ n2 0) : cmpZ n1 n2 = cmpZ (n1 * d2) (n2 * d1) := by
  have p1 : n1 < 0 → n1 * d2 < 0 := fun h => Int.mul_neg_of_neg_of_pos h h2
  have p2 : 0 < n1 → 0 < n1 * d2 := fun h => Int.mul_pos h h2
  have p3 : n1 = 0 → n1 * d2 = 0 := fun h => by rw [h, Int.zero_mul]
  have q1 : n2 < 0 → n2 * d1 < 0 := fun h => Int.mul_neg_of_neg_of_pos h h1
  have q2 : 0 < n2 → 0 < n2 * d1 := fun h => Int.mul_pos h h1
  have q3 : n2 = 0 → n2 * d1 = 0 := fun h => by rw [h, Int.zero_mul]
  generalize n1 * d2 = X at *
  generalize n2 * d1 = Y at *
  rcases cmpZ_cases n1 0 with ⟨a1, e1⟩ | ⟨a1, e1⟩ | ⟨a1, e1⟩ <;> rcases cmpZ_cases n2 0 with ⟨a2, e2⟩ | ⟨a2, e2⟩ | ⟨a2, e2⟩ <;> rcases cmpZ_cases n1 n2 with ⟨a3, e3⟩ | ⟨a3, e3⟩ | ⟨a3, e3⟩ <;> rcases cmpZ_cases X Y with ⟨a4, e4⟩ | ⟨a4, e4⟩ | ⟨a4, e4⟩ <;> omega
theorem cmp_rat_calls (w : World) (v1 v2 : Value) (a b : Rat) (h1 : IsRat w v1 a) (h2 : IsRat w v2 b) (l1 : LimQ 100000 a) (l2 : LimQ 100000 b) :
    Calls Tryz.prog 112 #[v1, v2] w fun e w' => e = .returned (.int .i64 (cmpZ (a.num * (b.den : Int)) (b.num * (a.den : Int)))) ∧ Ext w w' := by
  refine (walkQ2 (T := .ite (.eq (.a2 3 (.var 0) (.lit 0)) (.a2 3 (.var 2) (.lit 0)))
      (.ite (.eq (.var 1) (.lit 1)) (.ite (.eq (.var 3) (.lit 1)) (.leaf [(false, [.n .i64 (.a2 3 (.var 0) (.var 2))])]) (.leaf [(false, [.n .i64 (.a2 3 (.a2 2 (.var 0) (.var 3)) (.a2 2 (.var 2) (.var 1)))])]))
        (.leaf [(false, [.n .i64 (.a2 3 (.a2 2 (.var 0) (.var 3)) (.a2 2 (.var 2) (.var 1)))])]))
      (.leaf [(false, [.n .i64 (.a2 3 (.var 0) (.var 2))])]))
    tabMul_ok Tryz.func112 (by kernel_rfl) (by decide +kernel) (by decide +kernel) h1 h2 l1 l2).mono ?_
  rintro e w' ⟨β, v, rfl, hh, ex⟩
  simp only [Tree.pick] at hh
  split at hh
  · split at hh
    · rename_i hd1
      split at hh
      · rename_i hd2
        have e1 : (a.den : Int) = 1 := eq_of_beq hd1
        have e2 : (b.den : Int) = 1 := eq_of_beq hd2
        have := one_num.1 hh
        subst this
        rw [e1, e2, Int.mul_one, Int.mul_one]
        exact ⟨rfl, ex⟩
      · have := one_num.1 hh
        subst this
        exact ⟨rfl, ex⟩
    · have := one_num.1 hh
      subst this
      exact ⟨rfl, ex⟩
  · rename_i hs
    have := one_num.1 hh
    subst this
    have hc := cmp_cross (n1 := a.num) (n2 := b.num) (d1 := (a.den : Int)) (d2 := (b.den : Int)) (by have := a.den_pos; omega) (by have := b.den_pos; omega) (fun e => hs (beq_iff_eq.2 e))
    rw [← hc]
    exact ⟨rfl, ex⟩
def kCmpQ : Con
  | [.val true [.int x l, .int y m], .val true [.int z k, .int t j]], _ => if canon x y && (canon z t && (ql l && (ql m && (ql k && ql j)))) then some (.val false [.n .i64 (.a2 3 (.a2 2 x t) (.a2 2 z y))]) else none
  | _, _ => none
theorem kCmpQ_ok {E : Env} (hE : QEnv E) {f : Nat} (hc : ∀ (w : World) (v1 v2 : Value) (a b : Rat), IsRat w v1 a → IsRat w v2 b → LimQ 100000 a → LimQ 100000 b → Calls Tryz.prog f #[v1, v2] w fun e w' => e = .returned (.int .i64 (cmpZ (a.num * (b.den : Int)) (b.num * (a.den : Int)))) ∧ Ext w w')
    (hb : ∃ fn, Tryz.prog.funcs[f]? = some fn ∧ fn.name ≠ "runtime.NumGoroutine" ∧ fn.body.isNone = false) : ConOK Tryz.prog E f kCmpQ := by
  refine ⟨?_, ?_, hb⟩
  · intro args As r h hG β w vs hv hlen
    unfold kCmpQ at h
    split at h
    · rename_i x l y m z k t j
      split at h
      · rename_i hlo
        injection h with h
        subst h
        simp only [ql, Bool.and_eq_true, decide_eq_true_iff] at hlo
        obtain ⟨c1, c2, b1, b2, b3, b4⟩ := hlo
        obtain ⟨v, u, rfl, h1, h2⟩ := args2 hv hlen
        obtain ⟨p, ep, ex1, ex2, hp, lp1, lp2⟩ := one_ratQ hE c1 h1
        obtain ⟨q, eq, ey1, ey2, hq, lq1, lq2⟩ := one_ratQ hE c2 h2
        refine (hc w v u p q hp hq ⟨lp1.mono b1, lp2.mono b2⟩ ⟨lq1.mono b3, lq2.mono b4⟩).mono ?_
        rintro e w' ⟨rfl, ex⟩
        refine ⟨_, rfl, one_num.2 ?_, ex⟩
        show Value.int .i64 _ = .int .i64 (cmpZ (x.den E * t.den E) (z.den E * y.den E))
        rw [ex1, ex2, ey1, ey2]
      · cases h
    · cases h
  · intro args As r h x off
    unfold kCmpQ at h
    split at h
    · split at h
      · injection h with h; subst h; intro e; cases e
      · cases h
    · cases h

def kIIb (g : IT → IT → BT) : Con
  | [.val true [.int x _], .val true [.int y _]], _ => some (.val false [.b (g x y)])
  | _, _ => none
theorem kIIb_ok {P : Program} {E : Env} {f : Nat} {g : IT → IT → BT} (G : Int → Int → Bool) (hg : ∀ x y, (g x y).den E = G (x.den E) (y.den E))
    (hc : ∀ (w : World) (v1 v2 : Value) (z1 z2 : Int), IsInt w v1 z1 → IsInt w v2 z2 → Calls P f #[v1, v2] w (fun e w' => e = .returned (.bool (G z1 z2)) ∧ Ext w w'))
    (hb : ∃ fn, P.funcs[f]? = some fn ∧ fn.name ≠ "runtime.NumGoroutine" ∧ fn.body.isNone = false) : ConOK P E f (kIIb g) := by
  refine ⟨?_, ?_, hb⟩
  · intro args As r h hG β w vs hv hlen
    unfold kIIb at h
    split at h
    · injection h with h
      subst h
      obtain ⟨v, u, rfl, h1, h2⟩ := args2 hv hlen
      refine (hc w v u _ _ (one_int.1 h1).1 (one_int.1 h2).1).mono ?_
      rintro e w' ⟨rfl, ex⟩
      exact ⟨_, rfl, one_bool.2 (by rw [hg]), ex⟩
    · cases h
  · intro args As r h x off
    unfold kIIb at h
    split at h
    · injection h with h; subst h; intro e; cases e
    · cases h
theorem same_rat_calls (w : World) (v1 v2 : Value) (n1 d1 n2 d2 : Int) (h1 : IsPair w v1 n1 d1) (h2 : IsPair w v2 n2 d2) (l1 : Lim 100000 n1) (l1' : Lim 100000 d1) (l2 : Lim 100000 n2) (l2' : Lim 100000 d2) :
    Calls Tryz.prog 20 #[v1, v2] w fun e w' => e = .returned (.bool (n1 == n2 && d1 == d2)) ∧ Ext w w' := by
  refine (walkP2 (tab := [(87, kIIb fun x y => .eq x y)]) (T := .ite (.eq (.var 0) (.var 2)) (.leaf [(false, [.b (.eq (.var 1) (.var 3))])]) (.leaf [(false, [.b (.lit false)])]))
    (.cons (kIIb_ok (fun x y => x == y) (fun _ _ => rfl) (fun w v1 v2 z1 z2 h1 h2 => (rsame_calls w v1 v2 z1 z2 h1 h2).mono (fun e w' h => ⟨by rw [h.1]; by_cases hz : z1 = z2 <;> simp [hz], h.2⟩)) ⟨_, Tryz.func87, by decide +kernel, by kernel_rfl⟩) .nil) Tryz.func20 (by kernel_rfl) (by decide +kernel) (by decide +kernel) h1 h2 l1 l1' l2 l2').mono ?_
  rintro e w' ⟨β, v, rfl, hh, ex⟩
  simp only [Tree.pick] at hh
  split at hh
  · rename_i hz
    have := one_bool.1 hh
    subst this
    have hz' : (n1 == n2) = true := hz
    rw [hz', Bool.true_and]
    exact ⟨rfl, ex⟩
  · rename_i hz
    have := one_bool.1 hh
    subst this
    have hz' : (n1 == n2) = false := by rw [← Bool.not_eq_true]; exact hz
    rw [hz', Bool.false_and]
    exact ⟨rfl, ex⟩
def kSame : Con
  | [.val true [.int x l, .int y m], .val true [.int z k, .int t j]], _ => if ql l && (ql m && (ql k && ql j)) then some (.val false [.b (if x.beq z && y.beq t then .lit true else .and (.eq x z) (.eq y t))]) else none
  | _, _ => none
theorem kSame_ok {E : Env} : ConOK Tryz.prog E 20 kSame := by
  refine ⟨?_, ?_, ⟨_, Tryz.func20, by decide +kernel, by kernel_rfl⟩⟩
  · intro args As r h hG β w vs hv hlen
    unfold kSame at h
    split at h
    · rename_i x l y m z k t j
      split at h
      · rename_i hlo
        injection h with h
        subst h
        simp only [ql, Bool.and_eq_true, decide_eq_true_iff] at hlo
        obtain ⟨b1, b2, b3, b4⟩ := hlo
        obtain ⟨v, u, rfl, h1, h2⟩ := args2 hv hlen
        obtain ⟨p1, a1, a2⟩ := one_pair.1 h1
        obtain ⟨p2, a3, a4⟩ := one_pair.1 h2
        refine (same_rat_calls w v u _ _ _ _ p1 p2 (a1.mono b1) (a2.mono b2) (a3.mono b3) (a4.mono b4)).mono ?_
        rintro e w' ⟨rfl, ex⟩
        refine ⟨_, rfl, one_bool.2 ?_, ex⟩
        split
        · rename_i hb
          rw [Bool.and_eq_true] at hb
          rw [IT.eq_of_beq hb.1, IT.eq_of_beq hb.2]
          simp [BT.den]
        · rfl
      · cases h
    · cases h
  · intro args As r h x off
    unfold kSame at h
    split at h
    · split at h
      · injection h with h; subst h; intro e; cases e
      · cases h
    · cases h

def kDiv : Con
  | [.val true [.int x l, .int y m], .val true [.int z k, .int t j]], _ => if canon x y && (canon z t && (ql l && (ql m && (ql k && ql j)))) then
      some (.tup [(true, [.int (.a4 8 x y z t) (l + m + k + j + 1), .int (.a4 9 x y z t) (l + m + k + j + 1)]), (false, [.n .i64 (.a1 1 z)])]) else none
  | _, _ => none
theorem LimQ.div {l m k j : Nat} {a b : Rat} (h1 : Lim l a.num) (h2 : Lim m (a.den : Int)) (h3 : Lim k b.num) (h4 : Lim j (b.den : Int)) : Lim (l + m + k + j + 1) (a / b).num ∧ Lim (l + m + k + j + 1) (divD a b) := by
  unfold divD
  by_cases hb : b = 0
  · rw [if_pos hb, hb, Rat.div_def, Rat.inv_zero, Rat.mul_zero]
    exact ⟨lim_zero, lim_zero⟩
  · have hn : b.num ≠ 0 := fun e => hb (Rat.num_eq_zero.1 e)
    rw [if_neg hb, Rat.div_def]
    have e1 : Lim j b⁻¹.num := by
      refine h4.natAbs_le ?_
      rw [Rat.num_inv, Int.natAbs_mul, Int.natAbs_sign_of_ne_zero hn, Nat.one_mul]
      exact Nat.le_refl _
    have e2 : Lim k (b⁻¹.den : Int) := by
      refine h3.natAbs_le ?_
      rw [Rat.den_inv, if_neg hn]
      exact Nat.le_refl _
    obtain ⟨r1, r2⟩ := LimQ.mul h1 h2 e1 e2
    exact ⟨r1.mono (by omega), r2.mono (by omega)⟩
theorem kDiv_ok {E : Env} (hE : QEnv E) {f : Nat} (hc : ∀ (w : World) (v1 v2 : Value) (a b : Rat), IsRat w v1 a → IsRat w v2 b → LimQ 100000 a → LimQ 100000 b → Calls Tryz.prog f #[v1, v2] w (RetDiv a b w))
    (hb : ∃ fn, Tryz.prog.funcs[f]? = some fn ∧ fn.name ≠ "runtime.NumGoroutine" ∧ fn.body.isNone = false) : ConOK Tryz.prog E f kDiv := by
  refine ⟨?_, ?_, hb⟩
  · intro args As r h hG β w vs hv hlen
    unfold kDiv at h
    split at h
    · rename_i x l y m z k t j
      split at h
      · rename_i hlo
        injection h with h
        subst h
        simp only [ql, Bool.and_eq_true, decide_eq_true_iff] at hlo
        obtain ⟨c1, c2, b1, b2, b3, b4⟩ := hlo
        obtain ⟨v, u, rfl, h1, h2⟩ := args2 hv hlen
        obtain ⟨p, ep, ex1, ex2, hp, lp1, lp2⟩ := one_ratQ hE c1 h1
        obtain ⟨q, eq, ey1, ey2, hq, lq1, lq2⟩ := one_ratQ hE c2 h2
        obtain ⟨n1, n2⟩ := LimQ.div lp1 lp2 lq1 lq2
        refine (hc w v u p q hp hq ⟨lp1.mono b1, lp2.mono b2⟩ ⟨lq1.mono b3, lq2.mono b4⟩).mono ?_
        rintro e w' ⟨v', rfl, hr, ex⟩
        have d1 : (IT.a4 8 x y z t).den E = (p / q).num := by
          show fn4 8 (x.den E) (y.den E) (z.den E) (t.den E) = _
          rw [ex1, ex2, ey1, ey2]
          exact fn4_num rfl p q
        have d2 : (IT.a4 9 x y z t).den E = divD p q := by
          show fn4 9 (x.den E) (y.den E) (z.den E) (t.den E) = _
          rw [ex1, ex2, ey1, ey2]
          unfold fn4 divD
          rw [if_neg (by decide), divInt_parts, divInt_parts]
          by_cases hq : q = 0
          · rw [if_pos ⟨rfl, hq⟩, if_pos hq]
          · rw [if_neg (fun h => hq h.2), if_neg hq]; rfl
        refine ⟨_, rfl, ⟨[v', .int .i64 (de q.num)], rfl, _, _, rfl, one_pair.2 ⟨by rw [d1, d2]; exact hr, by rw [d1]; exact n1, by rw [d2]; exact n2⟩, _, _, rfl, one_num.2 ?_, rfl⟩, ex⟩
        show Value.int .i64 (de q.num) = .int .i64 (de (z.den E))
        rw [ey1]
      · cases h
    · cases h
  · intro args As r h x off
    unfold kDiv at h
    split at h
    · split at h
      · injection h with h; subst h; intro e; cases e
      · cases h
    · cases h

end Go.Proofs.YtifeacfljfmnpaaGreat
end

section
set_option maxRecDepth 100000
namespace Go.Proofs.YtifeacfljfmnpaaGreat
open Go.RowKit
def kZero : Con
  | [.val true [.int x l, .int y m]], _ => if decide (l ≤ 100000) && decide (m ≤ 100000) then some (.val false [.b (.and (.eq x (.lit 0)) (.eq y (.lit 0)))]) else none
  | _, _ => none
def kFrac : Con
  | [.val false [.n .i64 x], .val false [.n .i64 y]], G => if inR G x && inR G y then some (.val true [.int (.a2 7 x y) 3, .int (.a2 8 x y) 3]) else none
  | _, _ => none
theorem frac_lim {n d : Int} (h : I64 n) (k : I64 d) : Lim 3 (Rat.divInt n d).num ∧ Lim 3 ((Rat.divInt n d).den : Int) := by
  by_cases hd : d = 0
  · subst hd
    rw [divInt_0]
    exact ⟨lim_zero, lim3 (z := 1) (by decide) (by decide)⟩
  · exact divInt_lim (lim3 h.1 h.2) (lim3 k.1 k.2) hd
theorem kFrac_ok {E : Env} {f : Nat} (hc : ∀ (w : World) (n d : Int), I64 n → I64 d → Calls Tryz.prog f #[.int .i64 n, .int .i64 d] w (Ret (fun v w' => IsRat w' v (Rat.divInt n d)) w))
    (hb : ∃ fn, Tryz.prog.funcs[f]? = some fn ∧ fn.name ≠ "runtime.NumGoroutine" ∧ fn.body.isNone = false) : ConOK Tryz.prog E f kFrac := by
  refine ⟨?_, ?_, hb⟩
  · intro args As r h hG β w vs hv hlen
    unfold kFrac at h
    split at h
    · split at h
      · rename_i hr
        injection h with h
        subst h
        rw [Bool.and_eq_true] at hr
        have i1 := inR_spec hG hr.1
        have i2 := inR_spec hG hr.2
        obtain ⟨v, u, rfl, h1, h2⟩ := args2 hv hlen
        have h1' := one_num.1 h1
        have h2' := one_num.1 h2
        subst h1' h2'
        refine (hc w _ _ i1 i2).mono ?_
        rintro e w' ⟨v', rfl, hp, ex⟩
        obtain ⟨m1, m2⟩ := frac_lim i1 i2
        exact ⟨v', rfl, one_pair.2 ⟨hp, m1, m2⟩, ex⟩
      · cases h
    · cases h
  · intro args As r h x off
    unfold kFrac at h
    split at h
    · split at h
      · injection h with h; subst h; intro e; cases e
      · cases h
    · cases h
def tabQ : List (Nat × Con) :=
  
  (29, kDiv)  ::
  (128, kQQ 0)  ::
  (27, kQQ 0)  ::
  (129, kQQ 1)  ::
  (23, kQQ 1)  ::
  (131, kQQ 2)  ::
  (26, kQQ 2)  ::
  (80, kNegQ)  ::
  (97, kNegQ)  ::
  (20, kSame)  ::
  
  (153, kMake)  ::
  (105, kMake)  ::
  (122, kFromQ)  ::
  (91, kFromQ)  ::
  
  (69, kFrac)  ::
  []
theorem tabQ_ok {E : Env} (hE : QEnv E) : TabOK Tryz.prog E tabQ := by
  
  refine .cons (kDiv_ok hE (fun w v1 v2 a b h1 h2 l1 l2 => rdiv_rat_calls w v1 v2 a b h1 h2 l1 l2) ⟨_, Tryz.func29, by decide +kernel, by kernel_rfl⟩) ?_ 
  refine .cons (kQQ_ok hE (by omega) (fun w v1 v2 a b h1 h2 l1 l2 => add_rat_calls w v1 v2 a b h1 h2 l1 l2) (fun h1 h2 h3 h4 => LimQ.add h1 h2 h3 h4) ⟨_, Tryz.func128, by decide +kernel, by kernel_rfl⟩) ?_ 
  refine .cons (kQQ_ok hE (by omega) (fun w v1 v2 a b h1 h2 l1 l2 => radd_rat_calls w v1 v2 a b h1 h2 l1 l2) (fun h1 h2 h3 h4 => LimQ.add h1 h2 h3 h4) ⟨_, Tryz.func27, by decide +kernel, by kernel_rfl⟩) ?_ 
  refine .cons (kQQ_ok hE (by omega) (fun w v1 v2 a b h1 h2 l1 l2 => sub_rat_calls w v1 v2 a b h1 h2 l1 l2) (fun h1 h2 h3 h4 => LimQ.sub h1 h2 h3 h4) ⟨_, Tryz.func129, by decide +kernel, by kernel_rfl⟩) ?_ 
  refine .cons (kQQ_ok hE (by omega) (fun w v1 v2 a b h1 h2 l1 l2 => rsub_rat_calls w v1 v2 a b h1 h2 l1 l2) (fun h1 h2 h3 h4 => LimQ.sub h1 h2 h3 h4) ⟨_, Tryz.func23, by decide +kernel, by kernel_rfl⟩) ?_ 
  refine .cons (kQQ_ok hE (by omega) (fun w v1 v2 a b h1 h2 l1 l2 => mul_rat_calls w v1 v2 a b h1 h2 l1 l2) (fun h1 h2 h3 h4 => LimQ.mul h1 h2 h3 h4) ⟨_, Tryz.func131, by decide +kernel, by kernel_rfl⟩) ?_ 
  refine .cons (kQQ_ok hE (by omega) (fun w v1 v2 a b h1 h2 l1 l2 => rmul_rat_calls w v1 v2 a b h1 h2 l1 l2) (fun h1 h2 h3 h4 => LimQ.mul h1 h2 h3 h4) ⟨_, Tryz.func26, by decide +kernel, by kernel_rfl⟩) ?_ 
  refine .cons (kNegQ_ok hE (fun w v a h l => neg_rat_calls w v a h l) ⟨_, Tryz.func80, by decide +kernel, by kernel_rfl⟩) ?_ 
  refine .cons (kNegQ_ok hE (fun w v a h l => rneg_rat_calls w v a h l) ⟨_, Tryz.func97, by decide +kernel, by kernel_rfl⟩) ?_ 
  refine .cons kSame_ok ?_ 
  
  refine .cons (kMake_ok (fun w v u a b h k l1 l2 => make_calls w v u a b h k l1 l2) ⟨_, Tryz.func153, by decide +kernel, by kernel_rfl⟩) ?_ 
  refine .cons (kMake_ok (fun w v u a b h k l1 l2 => rmake_calls w v u a b h k l1 l2) ⟨_, Tryz.func105, by decide +kernel, by kernel_rfl⟩) ?_ 
  refine .cons (kFromQ_ok (fun w n h => from_rat_calls w n h) ⟨_, Tryz.func122, by decide +kernel, by kernel_rfl⟩) ?_ 
  refine .cons (kFromQ_ok (fun w n h => rfrom_rat_calls w n h) ⟨_, Tryz.func91, by decide +kernel, by kernel_rfl⟩) ?_ 
  
  refine .cons (kFrac_ok (fun w n d h k => rfrac_rat_calls w n d h k) ⟨_, Tryz.func69, by decide +kernel, by kernel_rfl⟩) ?_ 
  exact .nil

end Go.Proofs.YtifeacfljfmnpaaGreat
end

section
set_option maxRecDepth 100000
namespace Go.Proofs.YtifeacfljfmnpaaGreat
open Go.RowKit
def RawQ (w : World) (v : Value) (s1 : Bool) (xs1 : List Nat) (s2 : Bool) (xs2 : List Nat) : Prop :=
  ∃ a b c d, v = .agg #[a, b, c, d] ∧ Raw w (.agg #[a, b]) s1 xs1 ∧ Raw w (.agg #[c, d]) s2 xs2
def rE (l : List (Bool × List Nat)) : Env := ⟨fun _ => 0, fun _ => false, fun i => l.getD i (false, []), fun _ => []⟩
def argRaw (i j : Nat) : AV := .val true [.raw i, .raw j]
theorem argRaw_holds {E : Env} {β : Nat → Nat} {w : World} {v : Value} {s1 s2 : Bool} {xs1 xs2 : List Nat} {i j : Nat} (h : RawQ w v s1 xs1 s2 xs2) (e1 : E.r i = (s1, xs1)) (e2 : E.r j = (s2, xs2)) : (argRaw i j).holds E β w v := by
  obtain ⟨a, b, c, d, rfl, h1, h2⟩ := h
  refine ⟨[a, b, c, d], rfl, [a, b], [c, d], rfl, ⟨a, b, rfl, ?_⟩, [c, d], [], rfl, ⟨c, d, rfl, ?_⟩, rfl⟩
  · rw [e1]; exact h1
  · rw [e2]; exact h2
def kRV : Con
  | [.val true [.raw i]], _ => some (.val false [.b (.ok i)])
  | [.val true [.int _ _]], _ => some (.val false [.b (.lit true)])
  | _, _ => none
theorem kRV_ok {E : Env} {f : Nat} (hc : ∀ (w : World) (v : Value) (s : Bool) (xs : List Nat), Raw w v s xs → Calls Tryz.prog f #[v] w fun e w' => e = .returned (.bool (okB s xs)) ∧ Ext w w')
    (hb : ∃ fn, Tryz.prog.funcs[f]? = some fn ∧ fn.name ≠ "runtime.NumGoroutine" ∧ fn.body.isNone = false) : ConOK Tryz.prog E f kRV := by
  refine ⟨?_, ?_, hb⟩
  · intro args As r h hG β w vs hv hlen
    unfold kRV at h
    split at h
    · rename_i i
      injection h with h
      subst h
      obtain ⟨v, rfl, us, rfl, l1, r1, rfl, ⟨x, y, rfl, hr⟩, hn⟩ := args1 hv hlen
      simp only [chunks] at hn
      subst hn
      refine (hc w _ _ _ hr).mono ?_
      rintro e w' ⟨rfl, ex⟩
      exact ⟨_, rfl, one_bool.2 rfl, ex⟩
    · injection h with h
      subst h
      obtain ⟨v, rfl, h1⟩ := args1 hv hlen
      obtain ⟨ao, cap, s, n, rfl, k1, k2, k3, H4, H5, H6⟩ := (one_int.1 h1).1.open_
      obtain ⟨j1, j2⟩ := isInt_raw k1 k2 k3 H6.out
      refine (hc w _ _ _ j1).mono ?_
      rintro e w' ⟨rfl, ex⟩
      exact ⟨_, rfl, one_bool.2 (by rw [j2]; rfl), ex⟩
    · cases h
  · intro args As r h x off
    unfold kRV at h
    split at h
    · injection h with h; subst h; intro e; cases e
    · injection h with h; subst h; intro e; cases e
    · cases h
def okQ (s1 : Bool) (xs1 : List Nat) (s2 : Bool) (xs2 : List Nat) : Bool :=
  okB s1 xs1 && okB s2 xs2 && decide (0 < sgn s2 (val xs2)) && decide (Nat.gcd (sgn s1 (val xs1)).natAbs (sgn s2 (val xs2)).natAbs = 1)
def tabRV : List (Nat × Con) := (85, kRV) :: (87, kIIb fun x y => .eq x y) :: (89, k0 (.lit 1) 3) :: tabR2
theorem tabRV_ok {E : Env} : TabOK Tryz.prog E tabRV :=
  .cons (kRV_ok (fun w v s xs h => rvalid_calls w v s xs h) ⟨_, Tryz.func85, by decide +kernel, by kernel_rfl⟩)
    (.cons (kIIb_ok (fun x y => x == y) (fun _ _ => rfl) (fun w v1 v2 z1 z2 h1 h2 => (rsame_calls w v1 v2 z1 z2 h1 h2).mono (fun e w' h => ⟨by rw [h.1]; by_cases hz : z1 = z2 <;> simp [hz], h.2⟩)) ⟨_, Tryz.func87, by decide +kernel, by kernel_rfl⟩)
      (.cons (k0_ok 1 rfl (fun w => unit_calls w) (lim3 (by decide) (by decide)) ⟨_, Tryz.func89, by decide +kernel, by kernel_rfl⟩) tabR2_ok))
def tabPV : List (Nat × Con) := (174, kRV) :: tabInt
theorem tabPV_ok {E : Env} : TabOK Tryz.prog E tabPV := .cons (kRV_ok (fun w v s xs h => valid_calls w v s xs h) ⟨_, Tryz.func174, by decide +kernel, by kernel_rfl⟩) tabInt_ok

theorem walkRaw {tab : List (Nat × Con)} {f : Nat} {fn : Func} {G : Asm} {w : World} {v : Value} {s1 s2 : Bool} {xs1 xs2 : List Nat} (ht : TabOK Tryz.prog (rE [(s1, xs1), (s2, xs2)]) tab) (hG : G.holds (rE [(s1, xs1), (s2, xs2)])) (hf : Tryz.prog.funcs[f]? = some fn)
    (hT : funE (cfgOf tab) fn G [argRaw 0 1] = some (.leaf [(false, [.b (.lit false)])])) (h4 : fn.results.toList.length ≤ 4) (hn : 1 ≤ fn.ntmps) (h : RawQ w v s1 xs1 s2 xs2) :
    Calls Tryz.prog f #[v] w fun e w' => e = .returned (.bool false) ∧ Ext w w' := by
  refine (fun_sound mixed (cfg_ok ht) hG hf h4 hT hn rfl w [v] rfl ?_).mono ?_
  · intro i x hx
    match i, hx with
    | 0, hx => injection hx with hx; subst hx; exact ⟨fun _ => 0, v, rfl, argRaw_holds h rfl rfl⟩
  · rintro e w' ⟨β, u, rfl, hh, ex⟩
    have := one_bool.1 hh
    subst this
    exact ⟨rfl, ex⟩
theorem asm1 {E : Env} {t : BT} {b : Bool} (h : t.den E = b) : Asm.holds E [(t, b)] := by
  intro p hp
  simp only [List.mem_cons, List.not_mem_nil, or_false] at hp
  subst hp
  exact h
theorem asm2 {E : Env} {t u : BT} {b c : Bool} (h : t.den E = b) (k : u.den E = c) : Asm.holds E [(t, b), (u, c)] := by
  intro p hp
  simp only [List.mem_cons, List.not_mem_nil, or_false] at hp
  rcases hp with rfl | rfl
  · exact h
  · exact k
theorem okQ_pair {w : World} {v : Value} {s1 s2 : Bool} {xs1 xs2 : List Nat} (h : RawQ w v s1 xs1 s2 xs2) (b1 : okB s1 xs1 = true) (b2 : okB s2 xs2 = true) : IsPair w v (sgn s1 (val xs1)) (sgn s2 (val xs2)) := by
  obtain ⟨a, b, c, d, rfl, h1, h2⟩ := h
  exact ⟨a, b, c, d, rfl, (okB_int h1 b1).1, (okB_int h2 b2).1⟩
theorem ok_lim {w : World} {v : Value} {s : Bool} {xs : List Nat} {k : Nat} (h : Raw w v s xs) (b : okB s xs = true) (l : xs.length ≤ k) : Lim k (sgn s (val xs)) := by
  have := (okB_int h b).2
  unfold Lim
  rw [natAbs_sgn, this]
  exact l
theorem cmp_pos (d : Int) : (cmpZ d 0 = 1) ↔ 0 < d := by
  rcases cmpZ_cases d 0 with ⟨h, e⟩ | ⟨h, e⟩ | ⟨h, e⟩ <;> rw [e] <;> omega
theorem cmp_pos' (d : Int) : (0 < cmpZ d 0) ↔ 0 < d := by
  rcases cmpZ_cases d 0 with ⟨h, e⟩ | ⟨h, e⟩ | ⟨h, e⟩ <;> rw [e] <;> omega
theorem valid_rat_calls (w : World) (v : Value) (s1 s2 : Bool) (xs1 xs2 : List Nat) (h : RawQ w v s1 xs1 s2 xs2) (l1 : xs1.length ≤ 100000) (l2 : xs2.length ≤ 100000) :
    Calls Tryz.prog 124 #[v] w fun e w' => e = .returned (.bool (okQ s1 xs1 s2 xs2)) ∧ Ext w w' := by
  cases b1 : okB s1 xs1 with
  | false =>
    have e0 : okQ s1 xs1 s2 xs2 = false := by unfold okQ; rw [b1]; rfl
    rw [e0]
    exact walkRaw tabPV_ok (asm1 (t := .ok 0) b1) Tryz.func124 (by kernel_rfl) (by decide +kernel) (by decide +kernel) h
  | true =>
    cases b2 : okB s2 xs2 with
    | false =>
      have e0 : okQ s1 xs1 s2 xs2 = false := by unfold okQ; rw [b1, b2]; rfl
      rw [e0]
      exact walkRaw tabPV_ok (asm2 (t := .ok 0) (u := .ok 1) b1 b2) Tryz.func124 (by kernel_rfl) (by decide +kernel) (by decide +kernel) h
    | true =>
      have hp := okQ_pair h b1 b2
      have m1 : Lim 100000 (sgn s1 (val xs1)) := by obtain ⟨a, b, c, d, rfl, h1, h2⟩ := h; exact ok_lim h1 b1 l1
      have m2 : Lim 100000 (sgn s2 (val xs2)) := by obtain ⟨a, b, c, d, rfl, h1, h2⟩ := h; exact ok_lim h2 b2 l2
      have e0 : okQ s1 xs1 s2 xs2 = (decide (0 < sgn s2 (val xs2)) && decide (Nat.gcd (sgn s1 (val xs1)).natAbs (sgn s2 (val xs2)).natAbs = 1)) := by unfold okQ; rw [b1, b2]; rfl
      rw [e0]
      generalize sgn s1 (val xs1) = n at *
      generalize sgn s2 (val xs2) = d at *
      refine (fun_sound (C := cfgOf tabPV) (E := zE [n, d]) (args := [argQ 0]) (T := .ite (.lt (.lit 0) (.a2 3 (.var 1) (.lit 0))) (.leaf [(false, [.b (.eq (.a2 6 (.var 0) (.var 1)) (.lit 1))])]) (.leaf [(false, [.b (.lit false)])]))
        mixed (cfg_ok tabPV_ok) no_asm Tryz.func124 (by decide +kernel) (by kernel_rfl) (by decide +kernel) rfl w [v] rfl ?_).mono ?_
      · intro i x hx
        match i, hx with
        | 0, hx => injection hx with hx; subst hx; exact ⟨fun _ => 0, v, rfl, argP_holds hp m1 m2 rfl rfl⟩
      · rintro e w' ⟨β, u, rfl, hh, ex⟩
        simp only [Tree.pick] at hh
        split at hh
        · rename_i hz
          have hd : 0 < d := (cmp_pos' d).1 (of_decide_eq_true hz)
          have := one_bool.1 hh
          subst this
          rw [decide_eq_true hd, Bool.true_and]
          refine ⟨ret_bool ?_, ex⟩
          show (((Nat.gcd n.natAbs d.natAbs : Nat) : Int) == 1) = _
          by_cases hg : Nat.gcd n.natAbs d.natAbs = 1
          · rw [decide_eq_true hg, beq_iff_eq]; omega
          · rw [decide_eq_false hg, beq_eq_false_iff_ne]; omega
        · rename_i hz
          have hd : ¬ 0 < d := fun e => hz (decide_eq_true ((cmp_pos' d).2 e))
          have := one_bool.1 hh
          subst this
          rw [decide_eq_false hd, Bool.false_and]
          exact ⟨rfl, ex⟩
theorem rvalid_rat_calls (w : World) (v : Value) (s1 s2 : Bool) (xs1 xs2 : List Nat) (h : RawQ w v s1 xs1 s2 xs2) (l1 : xs1.length ≤ 100000) (l2 : xs2.length ≤ 100000) :
    Calls Tryz.prog 18 #[v] w fun e w' => e = .returned (.bool (okQ s1 xs1 s2 xs2)) ∧ Ext w w' := by
  cases b1 : okB s1 xs1 with
  | false =>
    have e0 : okQ s1 xs1 s2 xs2 = false := by unfold okQ; rw [b1]; rfl
    rw [e0]
    exact walkRaw tabRV_ok (asm1 (t := .ok 0) b1) Tryz.func18 (by kernel_rfl) (by decide +kernel) (by decide +kernel) h
  | true =>
    cases b2 : okB s2 xs2 with
    | false =>
      have e0 : okQ s1 xs1 s2 xs2 = false := by unfold okQ; rw [b1, b2]; rfl
      rw [e0]
      exact walkRaw tabRV_ok (asm2 (t := .ok 0) (u := .ok 1) b1 b2) Tryz.func18 (by kernel_rfl) (by decide +kernel) (by decide +kernel) h
    | true =>
      have hp := okQ_pair h b1 b2
      have m1 : Lim 100000 (sgn s1 (val xs1)) := by obtain ⟨a, b, c, d, rfl, h1, h2⟩ := h; exact ok_lim h1 b1 l1
      have m2 : Lim 100000 (sgn s2 (val xs2)) := by obtain ⟨a, b, c, d, rfl, h1, h2⟩ := h; exact ok_lim h2 b2 l2
      have e0 : okQ s1 xs1 s2 xs2 = (decide (0 < sgn s2 (val xs2)) && decide (Nat.gcd (sgn s1 (val xs1)).natAbs (sgn s2 (val xs2)).natAbs = 1)) := by unfold okQ; rw [b1, b2]; rfl
      rw [e0]
      generalize sgn s1 (val xs1) = n at *
      generalize sgn s2 (val xs2) = d at *
      refine (fun_sound (C := cfgOf tabRV) (E := zE [n, d]) (args := [argQ 0]) (T := .ite (.eq (.a2 3 (.var 1) (.lit 0)) (.lit 1)) (.leaf [(false, [.b (.eq (.a2 6 (.var 0) (.var 1)) (.lit 1))])]) (.leaf [(false, [.b (.lit false)])]))
        mixed (cfg_ok tabRV_ok) no_asm Tryz.func18 (by decide +kernel) (by kernel_rfl) (by decide +kernel) rfl w [v] rfl ?_).mono ?_
      · intro i x hx
        match i, hx with
        | 0, hx => injection hx with hx; subst hx; exact ⟨fun _ => 0, v, rfl, argP_holds hp m1 m2 rfl rfl⟩
      · rintro e w' ⟨β, u, rfl, hh, ex⟩
        simp only [Tree.pick] at hh
        split at hh
        · rename_i hz
          have hd : 0 < d := (cmp_pos d).1 (eq_of_beq hz)
          have := one_bool.1 hh
          subst this
          rw [decide_eq_true hd, Bool.true_and]
          refine ⟨ret_bool ?_, ex⟩
          show (((Nat.gcd n.natAbs d.natAbs : Nat) : Int) == 1) = _
          by_cases hg : Nat.gcd n.natAbs d.natAbs = 1
          · rw [decide_eq_true hg, beq_iff_eq]; omega
          · rw [decide_eq_false hg, beq_eq_false_iff_ne]; omega
        · rename_i hz
          have hd : ¬ 0 < d := fun e => hz (beq_iff_eq.2 ((cmp_pos d).2 e))
          have := one_bool.1 hh
          subst this
          rw [decide_eq_false hd, Bool.false_and]
          exact ⟨rfl, ex⟩

end Go.Proofs.YtifeacfljfmnpaaGreat
end

section
set_option maxRecDepth 100000
namespace Go.Proofs.YtifeacfljfmnpaaGreat
open Go.RowKit
def VEnv (E : Env) : Prop := ∀ i, i % 2 = 0 → E.b (i / 2) = okQ (E.r i).1 (E.r i).2 (E.r (i + 1)).1 (E.r (i + 1)).2
theorem one_raw2 {E : Env} {w : World} {i j : Nat} {v : Value} (h : one E w (true, [.raw i, .raw j]) v) : RawQ w v (E.r i).1 (E.r i).2 (E.r j).1 (E.r j).2 := by
  obtain ⟨us, rfl, l1, r1, rfl, ⟨x, y, rfl, h1⟩, l2, r2, rfl, ⟨z, t, rfl, h2⟩, hn⟩ := h
  simp only [chunks] at hn
  subst hn
  exact ⟨x, y, z, t, rfl, h1, h2⟩
def bE (f : Bool → List Nat → Bool → List Nat → Bool) (l : List (Bool × List Nat)) : Env :=
  ⟨fun _ => 0, fun q => f (l.getD (2 * q) (false, [])).1 (l.getD (2 * q) (false, [])).2 (l.getD (2 * q + 1) (false, [])).1 (l.getD (2 * q + 1) (false, [])).2, fun i => l.getD i (false, []), fun _ => []⟩
theorem bE_ok (l : List (Bool × List Nat)) : VEnv (bE okQ l) := by
  intro i hi
  show okQ (l.getD (2 * (i / 2)) (false, [])).1 _ _ _ = _
  rw [show 2 * (i / 2) = i by omega]
  rfl
end Go.Proofs.YtifeacfljfmnpaaGreat
end

section
set_option maxRecDepth 100000
namespace Go.Proofs.YtifeacfljfmnpaaGreat
open Go.RowKit
end Go.Proofs.YtifeacfljfmnpaaGreat
end

section
set_option maxRecDepth 100000
namespace Go.Proofs.YtifeacfljfmnpaaGreat
open Go.RowKit
def isRaw : Nat → List Chunk → Bool
  | _, [] => true
  | i, .raw j :: cs => j == i && isRaw (i + 1) cs
  | _, _ => false
theorem isRaw_spec : ∀ {cs : List Chunk} {i : Nat}, isRaw i cs = true → cs = (List.range cs.length).map fun k => .raw (i + k)
  | [], _, _ => rfl
  | .raw j :: cs, i, h => by
    simp only [isRaw, Bool.and_eq_true, beq_iff_eq] at h
    obtain ⟨rfl, h⟩ := h
    have := isRaw_spec h
    rw [List.length_cons, List.range_succ_eq_map, List.map_cons, List.map_map, Nat.add_zero]
    congr 1
    refine Eq.trans this (List.map_congr_left fun k _ => ?_)
    show Chunk.raw _ = Chunk.raw _
    rw [show j + 1 + k = j + (k + 1) by omega]
  | .b _ :: _, _, h | .n _ _ :: _, _, h | .int _ _ :: _, _, h | .mag _ _ :: _, _, h | .rmag _ :: _, _, h | .fn _ :: _, _, h | .nilSlice :: _, _, h | .str _ _ :: _, _, h => by cases h
end Go.Proofs.YtifeacfljfmnpaaGreat
end

section
set_option maxRecDepth 100000
namespace Go.Proofs.YtifeacfljfmnpaaGreat
open Go.RowKit
theorem int_raw {w : World} {v : Value} {z : Int} (h : IsInt w v z) : Raw w v (decide (z < 0)) (limbs z.natAbs) ∧ okB (decide (z < 0)) (limbs z.natAbs) = true := by
  obtain ⟨ao, cap, s, n, rfl, h1, h2, h3, H4, H5, H6⟩ := h.open_
  obtain ⟨k1, k2⟩ := isInt_raw h1 h2 h3 H6.out
  have e4 : n = z.natAbs := H4.out
  have e5 : z = sgn s n := H5.out
  have e6 := H6.out
  have es : s = decide (z < 0) := by
    cases s with
    | true => rw [eq_comm, decide_eq_true_iff, e5]; have := e6 rfl; simp [sgn]; omega
    | false => rw [eq_comm, decide_eq_false_iff_not, e5]; simp [sgn]
  rw [← e4, ← es]
  exact ⟨k1, k2⟩
theorem int_chunk {E E' : Env} {w : World} {t : IT} {l i : Nat} {vs : List Value} (h : (Chunk.int t l).holds E w vs) (e : E'.r i = (decide (t.den E < 0), limbs (t.den E).natAbs)) : (Chunk.raw i).holds E' w vs := by
  obtain ⟨x, y, rfl, hI, _⟩ := h
  refine ⟨x, y, rfl, ?_⟩
  rw [e]
  exact (int_raw hI).1
end Go.Proofs.YtifeacfljfmnpaaGreat
end

section
set_option maxRecDepth 100000
namespace Go.Proofs.YtifeacfljfmnpaaGreat
open Go.RowKit
end Go.Proofs.YtifeacfljfmnpaaGreat
end

section
set_option maxRecDepth 100000
namespace Go.Proofs.YtifeacfljfmnpaaGreat
open Go.RowKit
theorem rsign_rat_calls (w : World) (v1 : Value) (n d : Int) (h1 : IsPair w v1 n d) (l1 : Lim 100000 n) (l1' : Lim 100000 d) : Calls Tryz.prog 25 #[v1] w fun e w' => e = .returned (.int .i64 (cmpZ n 0)) ∧ Ext w w' := by
  refine (fun_sound (E := zE [n, d]) (args := [argQ 0]) (T := .leaf [(false, [.n .i64 (.a2 3 (.var 0) (.lit 0))])])
    mixed (cfg_ok (.cons (kIn_ok (f := 86) (g := fun x => .a2 3 x (.lit 0)) (fun x => cmpZ x 0) (fun _ => rfl) (fun w v z h => rsign_calls w v z h) ⟨_, Tryz.func86, by decide +kernel, by kernel_rfl⟩) .nil))
    no_asm Tryz.func25 (by decide +kernel) (by kernel_rfl) (by decide +kernel) rfl w [v1] rfl ?_).mono ?_
  · intro i x hx
    match i, hx with
    | 0, hx => injection hx with hx; subst hx; exact ⟨fun _ => 0, v1, rfl, argP_holds h1 l1 l1' rfl rfl⟩
  · rintro e w' ⟨β, v, rfl, hh, ex⟩
    have := one_num.1 hh
    subst this
    exact ⟨rfl, ex⟩
theorem kSgF_ok {E : Env} {f : Nat} (hc : ∀ (w : World) (v1 : Value) (n d : Int), IsPair w v1 n d → Lim 100000 n → Lim 100000 d → Calls Tryz.prog f #[v1] w fun e w' => e = .returned (.int .i64 (cmpZ n 0)) ∧ Ext w w')
    (hb : ∃ fn, Tryz.prog.funcs[f]? = some fn ∧ fn.name ≠ "runtime.NumGoroutine" ∧ fn.body.isNone = false) : ConOK Tryz.prog E f kSg := by
  refine ⟨?_, ?_, hb⟩
  · intro args As r h hG β w vs hv hlen
    unfold kSg at h
    split at h
    · split at h
      · rename_i hlo
        injection h with h
        subst h
        simp only [Bool.and_eq_true, decide_eq_true_iff] at hlo
        obtain ⟨v, rfl, h1⟩ := args1 hv hlen
        obtain ⟨p1, a1, a2⟩ := one_pair.1 h1
        refine (hc w v _ _ p1 (a1.mono hlo.1) (a2.mono hlo.2)).mono ?_
        rintro e w' ⟨rfl, ex⟩
        exact ⟨_, rfl, one_num.2 rfl, ex⟩
      · cases h
    · cases h
  · intro args As r h x off
    unfold kSg at h
    split at h
    · split at h
      · injection h with h; subst h; intro e; cases e
      · cases h
    · cases h
theorem rcmp_rat_calls (w : World) (v1 v2 : Value) (a b : Rat) (h1 : IsRat w v1 a) (h2 : IsRat w v2 b) (l1 : LimQ 100000 a) (l2 : LimQ 100000 b) :
    Calls Tryz.prog 114 #[v1, v2] w fun e w' => e = .returned (.int .i64 (cmpZ (a.num * (b.den : Int)) (b.num * (a.den : Int)))) ∧ Ext w w' := by
  refine (walkQ2 (T := .leaf [(false, [.n .i64 (.a2 3 (.a2 2 (.var 0) (.var 3)) (.a2 2 (.var 2) (.var 1)))])])
    (tab := (95, kIIn (.a2 3)) :: tabR3 true)
    (.cons (kIIn_ok cmpZ (fun _ _ => rfl) (fun w v1 v2 z1 z2 h1 h2 => rcmp_calls w v1 v2 z1 z2 h1 h2) ⟨_, Tryz.func95, by decide +kernel, by kernel_rfl⟩) (tabR3_ok (q := true) (fun _ => qE_ok _)))
    Tryz.func114 (by kernel_rfl) (by decide +kernel) (by decide +kernel) h1 h2 l1 l2).mono ?_
  rintro e w' ⟨β, v, rfl, hh, ex⟩
  have := one_num.1 hh
  subst this
  exact ⟨rfl, ex⟩
def tabT : List (Nat × Con) :=
  (25, kSg)  ::
  (126, kSg)  ::
  (114, kCmpQ)  ::
  (112, kCmpQ)  ::
  tabQ
theorem tabT_ok {E : Env} (hE : QEnv E) : TabOK Tryz.prog E tabT := by
  refine .cons (kSgF_ok (fun w v1 n d h l m => rsign_rat_calls w v1 n d h l m) ⟨_, Tryz.func25, by decide +kernel, by kernel_rfl⟩) ?_ 
  refine .cons kSg_ok ?_ 
  refine .cons (kCmpQ_ok hE (fun w v1 v2 a b h1 h2 l1 l2 => rcmp_rat_calls w v1 v2 a b h1 h2 l1 l2) ⟨_, Tryz.func114, by decide +kernel, by kernel_rfl⟩) ?_
  refine .cons (kCmpQ_ok hE (fun w v1 v2 a b h1 h2 l1 l2 => cmp_rat_calls w v1 v2 a b h1 h2 l1 l2) ⟨_, Tryz.func112, by decide +kernel, by kernel_rfl⟩) ?_
  exact tabQ_ok hE

abbrev IT2 := IT × IT
def qv (i : Nat) : IT2 := (.var (2 * i), .var (2 * i + 1))
def qop (f : Nat) (p q : IT2) : IT2 := (.a4 (2 * f) p.1 p.2 q.1 q.2, .a4 (2 * f + 1) p.1 p.2 q.1 q.2)
def RepQ (E : Env) (p : IT2) (q : Rat) : Prop := p.1.den E = q.num ∧ p.2.den E = (q.den : Int)
theorem rep_op {E : Env} {f : Nat} {p q : IT2} {a b : Rat} (hf : f ≠ 4) (hp : RepQ E p a) (hq : RepQ E q b) : RepQ E (qop f p q) (ratF f a b) := by
  constructor
  · show fn4 (2 * f) (p.1.den E) (p.2.den E) (q.1.den E) (q.2.den E) = _
    rw [hp.1, hp.2, hq.1, hq.2, fn4_num (by omega), show 2 * f / 2 = f by omega]
  · show fn4 (2 * f + 1) (p.1.den E) (p.2.den E) (q.1.den E) (q.2.den E) = _
    rw [hp.1, hp.2, hq.1, hq.2, fn4_den (by omega) (by omega), show (2 * f + 1) / 2 = f by omega]
theorem rep_v {l : List Rat} {i : Nat} : RepQ (qE l) (qv i) (l.getD i 0) := by
  constructor
  · show (if 2 * i % 2 = 0 then _ else _) = _
    rw [if_pos (by omega), show 2 * i / 2 = i by omega]
  · show (if (2 * i + 1) % 2 = 0 then _ else _) = _
    rw [if_neg (by omega), show (2 * i + 1) / 2 = i by omega]
end Go.Proofs.YtifeacfljfmnpaaGreat
end

section
set_option maxRecDepth 100000
namespace Go.Proofs.YtifeacfljfmnpaaGreat
open Go.RowKit
end Go.Proofs.YtifeacfljfmnpaaGreat
end

section
set_option maxRecDepth 100000
namespace Go.Proofs.YtifeacfljfmnpaaGreat
open Go.RowKit
theorem lim1 {z : Int} (h : z.natAbs < 1000000000) : Lim 1 z := limbs_len_le (by simpa using h)
end Go.Proofs.YtifeacfljfmnpaaGreat
end

section
set_option maxRecDepth 100000
namespace Go.Proofs.YtifeacfljfmnpaaGreat
open Go.RowKit
end Go.Proofs.YtifeacfljfmnpaaGreat
end

section
set_option maxRecDepth 100000
namespace Go.Proofs.YtifeacfljfmnpaaGreat
open Go.RowKit
theorem isqN_le (n : Nat) : isqN n ≤ n := Nat.le_trans (Nat.le_mul_self _) (isqN_spec n).1
theorem isq_lim {l : Nat} {z : Int} (h : Lim l z) : Lim l (isq z) := by
  refine h.natAbs_le ?_
  unfold isq
  split
  · simp
  · rw [Int.natAbs_natCast]; exact isqN_le _
def kSqI : Con
  | [.val true [.int x l]], _ => if lo l then some (.tup [(true, [.int (.a1 2 x) l]), (false, [.n .i64 (.a1 3 x)])]) else none
  | _, _ => none
theorem kSqI_ok {E : Env} : ConOK Tryz.prog E 224 kSqI := by
  refine ⟨?_, ?_, ⟨_, Tryz.func224, by decide +kernel, by kernel_rfl⟩⟩
  · intro args As r h hG β w vs hv hlen
    unfold kSqI at h
    split at h
    · split at h
      · rename_i hlo
        injection h with h
        subst h
        simp only [lo, decide_eq_true_iff] at hlo
        obtain ⟨v, rfl, h1⟩ := args1 hv hlen
        obtain ⟨i1, l1⟩ := one_int.1 h1
        refine (sqrt_any w v _ i1 (l1.mono (by omega))).mono ?_
        rintro e w' ⟨u, rfl, k1, ex⟩
        exact ⟨_, rfl, ⟨[u, .int .i64 _], rfl, u, _, rfl, one_int.2 ⟨k1, isq_lim l1⟩, _, _, rfl, one_num.2 rfl, rfl⟩, ex⟩
      · cases h
    · cases h
  · intro args As r h x off
    unfold kSqI at h
    split at h
    · split at h
      · injection h with h; subst h; intro e; cases e
      · cases h
    · cases h
def tabSq : List (Nat × Con) := (224, kSqI) :: tabInt
theorem tabSq_ok {E : Env} : TabOK Tryz.prog E tabSq := .cons kSqI_ok tabInt_ok
def sqB (z : Int) : Bool := isqE z == 0 && cmpZ (isq z * isq z) z == 0
theorem squareRoot_calls (w : World) (v : Value) (z : Int) (h : IsInt w v z) (l : Lim 100000 z) :
    Calls Tryz.prog 177 #[v] w fun e w' => ∃ u, e = .returned (.tuple #[u, .bool (sqB z)]) ∧ IsInt w' u (isq z) ∧ Ext w w' := by
  refine (fun_sound (C := cfgOf tabSq) (E := zE [z]) (args := [.val true [.int (.var 0) 100000]])
    (T := .ite (.eq (.a1 3 (.var 0)) (.lit 0)) (.leaf [(true, [.int (.a1 2 (.var 0)) 100000]), (false, [.b (.eq (.a2 3 (.a2 2 (.a1 2 (.var 0)) (.a1 2 (.var 0))) (.var 0)) (.lit 0))])]) (.leaf [(true, [.int (.a1 2 (.var 0)) 100000]), (false, [.b (.lit false)])]))
    mixed (cfg_ok tabSq_ok) no_asm Tryz.func177 (by decide +kernel) (by kernel_rfl) (by decide +kernel) rfl w [v] rfl ?_).mono ?_
  · intro i x hx
    match i, hx with
    | 0, hx => injection hx with hx; subst hx; exact ⟨fun _ => 0, v, rfl, one_int.2 ⟨h, l⟩⟩
  · rintro e w' ⟨β, u, rfl, hh, ex⟩
    have open_ : ∀ (x : IT) (k : Nat) (t : BT), (AV.tup [(true, [.int x k]), (false, [.b t])]).holds (zE [z]) β w' u → ∃ p, u = .tuple #[p, .bool (t.den (zE [z]))] ∧ IsInt w' p (x.den (zE [z])) := by
      intro x k t hx
      obtain ⟨vs, rfl, u1, r1, rfl, k1, u2, r2, rfl, k2, hn⟩ := hx
      simp only [tupAll] at hn
      subst hn
      have k2' := one_bool.1 k2
      subst k2'
      exact ⟨u1, rfl, (one_int.1 k1).1⟩
    simp only [Tree.pick] at hh
    split at hh
    · rename_i hz
      have hz' : (isqE z == 0) = true := hz
      obtain ⟨p, rfl, hp⟩ := open_ _ _ _ hh
      refine ⟨p, ?_, hp, ex⟩
      unfold sqB
      rw [hz', Bool.true_and]
      rfl
    · rename_i hz
      have hz' : (isqE z == 0) = false := by rw [← Bool.not_eq_true]; exact hz
      obtain ⟨p, rfl, hp⟩ := open_ _ _ _ hh
      refine ⟨p, ?_, hp, ex⟩
      unfold sqB
      rw [hz', Bool.false_and]
      rfl
def kSqr : Con
  | [.val true [.int x l]], _ => if decide (l ≤ 100000) then some (.tup [(true, [.int (.a1 2 x) l]), (false, [.b (.and (.eq (.a1 3 x) (.lit 0)) (.eq (.a2 3 (.a2 2 (.a1 2 x) (.a1 2 x)) x) (.lit 0)))])]) else none
  | _, _ => none
theorem kSqr_ok {E : Env} : ConOK Tryz.prog E 177 kSqr := by
  refine ⟨?_, ?_, ⟨_, Tryz.func177, by decide +kernel, by kernel_rfl⟩⟩
  · intro args As r h hG β w vs hv hlen
    unfold kSqr at h
    split at h
    · split at h
      · rename_i hlo
        injection h with h
        subst h
        simp only [decide_eq_true_iff] at hlo
        obtain ⟨v, rfl, h1⟩ := args1 hv hlen
        obtain ⟨i1, l1⟩ := one_int.1 h1
        refine (squareRoot_calls w v _ i1 (l1.mono hlo)).mono ?_
        rintro e w' ⟨u, rfl, k1, ex⟩
        exact ⟨_, rfl, ⟨[u, .bool _], rfl, u, _, rfl, one_int.2 ⟨k1, isq_lim l1⟩, _, _, rfl, one_bool.2 rfl, rfl⟩, ex⟩
      · cases h
    · cases h
  · intro args As r h x off
    unfold kSqr at h
    split at h
    · split at h
      · injection h with h; subst h; intro e; cases e
      · cases h
    · cases h
def tabSqr : List (Nat × Con) := [(177, kSqr)]
theorem tabSqr_ok {E : Env} : TabOK Tryz.prog E tabSqr := .cons kSqr_ok .nil
end Go.Proofs.YtifeacfljfmnpaaGreat
end

section
set_option maxRecDepth 100000
namespace Go.Proofs.YtifeacfljfmnpaaGreat
open Go.RowKit
def lookN {α : Type} : List (Nat × α) → Nat → Option α
  | [], _ => none
  | p :: l, t => if p.1 == t then some p.2 else lookN l t
theorem lookN_mem {α : Type} : ∀ {l : List (Nat × α)} {t : Nat} {x : α}, lookN l t = some x → (t, x) ∈ l
  | [], _, _, h => by simp [lookN] at h
  | p :: l, t, x, h => by
    unfold lookN at h
    split at h
    · rename_i hp
      have : p.1 = t := by simpa using hp
      injection h with h
      obtain ⟨a, b⟩ := p
      simp only at this h
      subst this h
      exact List.mem_cons_self
    · exact List.mem_cons_of_mem _ (lookN_mem h)
def updI : List Nat → List Int → Nat → Option Int
  | v :: vs, z :: zs, k => if k = v then some z else updI vs zs k
  | _, _, _ => none
def Env.upd (E : Env) (vs : List Nat) (zs : List Int) : Env := { E with i := fun k => (updI vs zs k).getD (E.i k) }
theorem updI_map (f : Nat → Int) : ∀ (vs : List Nat) (k : Nat), updI vs (vs.map f) k = if k ∈ vs then some (f k) else none
  | [], k => rfl
  | v :: vs, k => by
    simp only [List.map_cons, updI, List.mem_cons]
    by_cases h : k = v
    · subst h; simp
    · rw [if_neg h, updI_map f vs k]
      simp [h]
structure LInv where
  lk : List (Nat × AV)
  vr : List (Nat × List Chunk)
  vs : List Nat
  G : Asm
  lm : List (Nat × Nat)
def LInv.st (I : LInv) : St := ⟨lookN I.lk, lookN I.vr⟩
def IT.free (vs : List Nat) : IT → Bool
  | .var i => !(vs.contains i)
  | .lit _ => true
  | .rlen _ => true
  | .slen _ => true
  | .a1 _ x => x.free vs
  | .a2 _ x y => x.free vs && y.free vs
  | .a4 _ x y z t => (x.free vs && y.free vs) && (z.free vs && t.free vs)
def ST.free (vs : List Nat) : ST → Bool
  | .lit _ => true
  | .var _ => true
  | .fmt z => z.free vs
  | .cat x y => x.free vs && y.free vs
def BT.free (vs : List Nat) : BT → Bool
  | .seq x y => x.free vs && y.free vs
  | .lit _ => true
  | .var _ => true
  | .eq x y => x.free vs && y.free vs
  | .lt x y => x.free vs && y.free vs
  | .le x y => x.free vs && y.free vs
  | .ok _ => true
  | .and x y => x.free vs && y.free vs
  | .not x => x.free vs
theorem IT.den_free {E : Env} {vs : List Nat} {zs : List Int} (_hz : zs.length = vs.length) : ∀ {t : IT}, t.free vs = true → t.den (E.upd vs zs) = t.den E := by
  have hup : ∀ (vs : List Nat) (zs : List Int) (k : Nat), k ∉ vs → updI vs zs k = none := by
    intro vs
    induction vs with
    | nil => intro zs k _; simp [updI]
    | cons v vs ih =>
      intro zs k hk
      cases zs with
      | nil => rfl
      | cons z zs =>
        simp only [updI]
        rw [if_neg (fun e => hk (by rw [e]; simp))]
        exact ih zs k (fun h => hk (by simp [h]))
  intro t
  induction t with
  | var i =>
    intro h
    simp only [IT.free, Bool.not_eq_true', List.contains_eq_mem, decide_eq_false_iff_not] at h
    simp only [IT.den, Env.upd, hup vs zs i h, Option.getD_none]
  | lit z => intro _; rfl
  | rlen i => intro _; rfl
  | slen i => intro _; rfl
  | a1 f x ih => intro h; simp only [IT.free] at h; simp only [IT.den, ih h]
  | a2 f x y ihx ihy => intro h; simp only [IT.free, Bool.and_eq_true] at h; simp only [IT.den, ihx h.1, ihy h.2]
  | a4 f x y z t ihx ihy ihz iht =>
    intro h
    simp only [IT.free, Bool.and_eq_true] at h
    simp only [IT.den, ihx h.1.1, ihy h.1.2, ihz h.2.1, iht h.2.2]
theorem ST.den_free {E : Env} {vs : List Nat} {zs : List Int} (hz : zs.length = vs.length) : ∀ {t : ST}, t.free vs = true → t.den (E.upd vs zs) = t.den E := by
  intro t
  induction t with
  | lit l => intro _; rfl
  | var i => intro _; rfl
  | fmt z => intro h; simp only [ST.free] at h; simp only [ST.den, IT.den_free hz h]
  | cat x y ihx ihy => intro h; simp only [ST.free, Bool.and_eq_true] at h; simp only [ST.den, ihx h.1, ihy h.2]
theorem BT.den_free {E : Env} {vs : List Nat} {zs : List Int} (hz : zs.length = vs.length) : ∀ {t : BT}, t.free vs = true → t.den (E.upd vs zs) = t.den E := by
  intro t
  induction t with
  | lit b => intro _; rfl
  | var i => intro _; rfl
  | ok i => intro _; rfl
  | seq x y => intro h; simp only [BT.free, Bool.and_eq_true] at h; simp only [BT.den, ST.den_free hz h.1, ST.den_free hz h.2]
  | eq x y => intro h; simp only [BT.free, Bool.and_eq_true] at h; simp only [BT.den, IT.den_free hz h.1, IT.den_free hz h.2]
  | lt x y => intro h; simp only [BT.free, Bool.and_eq_true] at h; simp only [BT.den, IT.den_free hz h.1, IT.den_free hz h.2]
  | le x y => intro h; simp only [BT.free, Bool.and_eq_true] at h; simp only [BT.den, IT.den_free hz h.1, IT.den_free hz h.2]
  | and x y ihx ihy => intro h; simp only [BT.free, Bool.and_eq_true] at h; simp only [BT.den, ihx h.1, ihy h.2]
  | not x ih => intro h; simp only [BT.free] at h; simp only [BT.den, ih h]

abbrev Sig := List (Nat × IT)
def colT (vs : List Nat) (p t : IT) (σ : Sig) : Sig :=
  match p with
  | .var i => if vs.contains i && (lookN σ i).isNone then (i, t) :: σ else σ
  | _ => σ
def colC (vs : List Nat) : Chunk → Chunk → Sig → Sig
  | .int p _, .int t _, σ => colT vs p t σ
  | .n _ p, .n _ t, σ => colT vs p t σ
  | .mag p _, .mag t _, σ => colT vs p t σ
  | _, _, σ => σ
def colCs (vs : List Nat) : List Chunk → List Chunk → Sig → Sig
  | c :: cs, d :: ds, σ => colCs vs cs ds (colC vs c d σ)
  | _, _, σ => σ
def colV (vs : List Nat) : AV → AV → Sig → Sig
  | .val _ cs, .val _ ds, σ => colCs vs cs ds σ
  | _, _, σ => σ
def colS (I : LInv) (S : St) : Sig :=
  I.vr.foldl (fun σ p => match S.var p.1 with | some ds => colCs I.vs p.2 ds σ | none => σ) (I.lk.foldl (fun σ p => match S.look p.1 with | some x => colV I.vs p.2 x σ | none => σ) [])
def okT (vs : List Nat) (σ : Sig) (p t : IT) : Bool :=
  match p with
  | .var i => if vs.contains i then (match lookN σ i with | some u => u.beq t | none => false) else t.beq (.var i)
  | p => p.free vs && p.beq t
def okL (I : LInv) (p : IT) (l m : Nat) : Bool :=
  match p with
  | .var i => if I.vs.contains i then I.lm.contains (i, l) else decide (m ≤ l)
  | _ => decide (m ≤ l)
def okC (I : LInv) (σ : Sig) : Chunk → Chunk → Bool
  | .b p, .b t => p.free I.vs && p.beq t
  | .n k p, .n j t => decide (k = j) && okT I.vs σ p t
  | .int p l, .int t m => okT I.vs σ p t && okL I p l m
  | .mag p l, .mag t m => okT I.vs σ p t && okL I p l m
  | .raw i, .raw j => i == j
  | .rmag i, .rmag j => i == j
  | .fn f, .fn g => f == g
  | .nilSlice, .nilSlice => true
  | .str s l, .str t m => s.free I.vs && (s.beq t && decide (m ≤ l))
  | _, _ => false
def okCs (I : LInv) (σ : Sig) : List Chunk → List Chunk → Bool
  | [], [] => true
  | c :: cs, d :: ds => okC I σ c d && okCs I σ cs ds
  | _, _ => false
def okV (I : LInv) (σ : Sig) : AV → AV → Bool
  | .val a cs, .val b ds => a == b && okCs I σ cs ds
  | .ptr x o, .ptr y p => (x == y && o == p) && (lookN I.vr x).isSome
  | .bad, .bad => true
  | _, _ => false
def okS (I : LInv) (σ : Sig) (S : St) : Bool :=
  (I.lk.all fun p => match S.look p.1 with | some x => okV I σ p.2 x | none => false) &&
  (I.vr.all fun p => match S.var p.1 with | some ds => okCs I σ p.2 ds && !(sizes p.2 == 0) | none => false)
def sigT (I : LInv) (σ : Sig) : List IT := I.vs.map fun i => (lookN σ i).getD (.lit 0)
def matchS (I : LInv) (S : St) : Option (List IT) := if okS I (colS I S) S then some (sigT I (colS I S)) else none
def enterL (Good : Env → Prop) (I : LInv) (ts : List IT) (E : Env) : Prop :=
  I.G.holds (E.upd I.vs (ts.map (IT.den E))) ∧ Good (E.upd I.vs (ts.map (IT.den E))) ∧ ∀ p ∈ I.lm, Lim p.2 ((E.upd I.vs (ts.map (IT.den E))).i p.1)

section
variable {E : Env} {n B : Nat} {w w0 : World} {a : Act} {I : LInv} {σ : Sig} {S : St} {ts : List IT}
theorem okT_spec (hts : ts = sigT I σ) {p t : IT} (h : okT I.vs σ p t = true) : p.den (E.upd I.vs (ts.map (IT.den E))) = t.den E := by
  have hlen : (ts.map (IT.den E)).length = I.vs.length := by rw [hts]; simp [sigT]
  have key : ∀ (q u : IT), (q.free I.vs && q.beq u) = true → q.den (E.upd I.vs (ts.map (IT.den E))) = u.den E := by
    intro q u hq
    rw [Bool.and_eq_true] at hq
    rw [IT.den_free hlen hq.1, IT.eq_of_beq hq.2]
  unfold okT at h
  split at h
  · rename_i i
    split at h
    · rename_i hi
      split at h
      · rename_i u hu
        have : ts.map (IT.den E) = I.vs.map (fun i => ((lookN σ i).getD (.lit 0)).den E) := by rw [hts]; simp [sigT, Function.comp_def]
        simp only [IT.den, Env.upd]
        rw [this, updI_map]
        rw [List.contains_iff_mem] at hi
        rw [if_pos hi]
        simp only [Option.getD_some, hu]
        rw [IT.eq_of_beq h]
      · cases h
    · rename_i hi
      refine Eq.trans ?_ (congrArg (IT.den E) (IT.eq_of_beq h).symm)
      exact IT.den_free (t := .var i) hlen (by simpa [IT.free] using hi)
  · exact key _ _ h
theorem okL_spec {Good : Env → Prop} (he : enterL Good I ts E) {p t : IT} {l m : Nat} (hp : p.den (E.upd I.vs (ts.map (IT.den E))) = t.den E) (h : okL I p l m = true) (hm : Lim m (t.den E)) : Lim l (p.den (E.upd I.vs (ts.map (IT.den E)))) := by
  unfold okL at h
  split at h
  · rename_i i
    split at h
    · rw [List.contains_iff_mem] at h
      exact he.2.2 _ h
    · rw [hp]; exact hm.mono (of_decide_eq_true h)
  · rw [hp]; exact hm.mono (of_decide_eq_true h)
theorem okC_spec {Good : Env → Prop} (hts : ts = sigT I σ) (he : enterL Good I ts E) : ∀ {c d : Chunk} {vs : List Value}, okC I σ c d = true → d.holds E w vs → c.holds (E.upd I.vs (ts.map (IT.den E))) w vs ∧ c.size = d.size := by
  intro c d vs h hd
  have hlen : (ts.map (IT.den E)).length = I.vs.length := by rw [hts]; simp [sigT]
  cases c <;> cases d <;> simp only [okC, Bool.false_eq_true, Bool.and_eq_true, beq_iff_eq, decide_eq_true_iff] at h
  · rename_i p t
    refine ⟨?_, rfl⟩
    simp only [Chunk.holds] at hd ⊢
    rw [hd, BT.den_free hlen h.1, BT.den_of_beq E h.2]
  · rename_i k p j t
    obtain ⟨rfl, h⟩ := h
    refine ⟨?_, rfl⟩
    simp only [Chunk.holds] at hd ⊢
    rw [hd, okT_spec hts h]
  · rename_i p l t m
    obtain ⟨x, y, hv, hI, hm⟩ := hd
    have hp := okT_spec (E := E) hts h.1
    exact ⟨⟨x, y, hv, by rw [hp]; exact hI, okL_spec he hp h.2 hm⟩, rfl⟩
  · subst h
    obtain ⟨x, y, hv, hR⟩ := hd
    exact ⟨⟨x, y, hv, hR⟩, rfl⟩
  · rename_i p l t m
    obtain ⟨x, hv, hI, hm⟩ := hd
    have hp := okT_spec (E := E) hts h.1
    exact ⟨⟨x, hv, by rw [hp]; exact hI, okL_spec he hp h.2 hm⟩, rfl⟩
  · subst h
    obtain ⟨x, hv, ao, c, h1, h2, h3, h4⟩ := hd
    exact ⟨⟨x, hv, ao, c, h1, h2, h3, h4⟩, rfl⟩
  · subst h; exact ⟨hd, rfl⟩
  · exact ⟨hd, rfl⟩
  · obtain ⟨h1, h2, h3⟩ := h
    refine ⟨?_, rfl⟩
    obtain ⟨hv, hl⟩ := hd
    rw [← ST.eq_of_beq h2] at hv hl
    exact ⟨by rw [ST.den_free hlen h1]; exact hv, by rw [ST.den_free hlen h1]; exact Nat.le_trans hl h3⟩
theorem okCs_spec {Good : Env → Prop} (hts : ts = sigT I σ) (he : enterL Good I ts E) : ∀ {cs ds : List Chunk} {vs : List Value}, okCs I σ cs ds = true → chunks E w ds vs → chunks (E.upd I.vs (ts.map (IT.den E))) w cs vs
  | [], [], _, _, hd => hd
  | c :: cs, d :: ds, _, h, ⟨l, r, hv, h1, h2⟩ => by
    simp only [okCs, Bool.and_eq_true] at h
    exact ⟨l, r, hv, (okC_spec hts he h.1 h1).1, okCs_spec hts he h.2 h2⟩
  | [], _ :: _, _, h, _ => by simp [okCs] at h
  | _ :: _, [], _, h, _ => by simp [okCs] at h
theorem matchS_spec {Good : Env → Prop} (h : matchS I S = some ts) (he : enterL Good I ts E) (hS : S.holds E n B w0 a w) : I.st.holds (E.upd I.vs (ts.map (IT.den E))) n B w0 a w := by
  unfold matchS at h
  split at h
  · rename_i hok
    injection h with h
    have hts := h.symm
    unfold okS at hok
    rw [Bool.and_eq_true, List.all_eq_true, List.all_eq_true] at hok
    obtain ⟨h1, h2⟩ := hok
    obtain ⟨β, hS⟩ := hS
    have hvar : ∀ x cs, I.st.var x = some cs → ∃ ds, S.var x = some ds ∧ okCs I (colS I S) cs ds = true ∧ sizes cs ≠ 0 := by
      intro x cs hx
      have := h2 _ (lookN_mem hx)
      simp only at this
      split at this
      · rename_i ds hds
        rw [Bool.and_eq_true, Bool.not_eq_true', beq_eq_false_iff_ne] at this
        exact ⟨ds, hds, this⟩
      · cases this
    refine ⟨β, fun t x hx => ?_, fun x cs hx => ?_, fun x y hx hy he => ?_, fun t x off hx => ?_, hS.sz, hS.nd, hS.hp, hS.bl, fun x cs hx => ?_⟩
    · have := h1 _ (lookN_mem hx)
      simp only at this
      split at this
      · rename_i y hy
        have hv := hS.sl t y hy
        cases x with
        | val ag cs =>
          cases y with
          | val bg ds =>
            simp only [okV, Bool.and_eq_true, beq_iff_eq] at this
            obtain ⟨rfl, hc⟩ := this
            cases ag
            · exact ⟨okCs_spec hts he hc hv.1, hv.2⟩
            · obtain ⟨us, hu, hcs⟩ := hv
              exact ⟨us, hu, okCs_spec hts he hc hcs⟩
          | _ => simp [okV] at this
        | ptr z o =>
          cases y with
          | ptr z' o' =>
            simp only [okV, Bool.and_eq_true, beq_iff_eq] at this
            obtain ⟨⟨rfl, rfl⟩, _⟩ := this
            exact hv
          | _ => simp [okV] at this
        | tup l => cases y <;> simp [okV] at this
        | bad =>
          cases y with
          | bad => exact hv
          | _ => simp [okV] at this
      · cases this
    · obtain ⟨ds, hds, hc, _⟩ := hvar x cs hx
      obtain ⟨k1, us, k2, k3⟩ := hS.vr x ds hds
      exact ⟨k1, us, okCs_spec hts he hc k2, k3⟩
    · obtain ⟨cs, hcs⟩ := Option.isSome_iff_exists.1 hx
      obtain ⟨ds, hds⟩ := Option.isSome_iff_exists.1 hy
      obtain ⟨c1, e1, _⟩ := hvar x cs hcs
      obtain ⟨c2, e2, _⟩ := hvar y ds hds
      exact hS.inj x y (by rw [e1]; rfl) (by rw [e2]; rfl) he
    · have := h1 _ (lookN_mem hx)
      simp only at this
      split at this
      · rename_i y hy
        cases y with
        | ptr z' o' =>
          simp only [okV, Bool.and_eq_true] at this
          exact this.2
        | _ => simp [okV] at this
      · cases this
    · exact (hvar x cs hx).choose_spec.2.2
  · cases h
end
inductive LTree where
  | leaf (l : List (Bool × List Chunk))
  | ite (b : BT) (t e : LTree)
  | loop (d : Nat) (I : LInv) (ts : List IT) (T : LTree)
  | again (d : Nat) (ts : List IT)
abbrev Stk := Nat → Option (LInv × LTree)
def Stk.set (K : Stk) (d : Nat) (p : LInv × LTree) : Stk := fun j => if j = d then some p else K j
inductive Run (Good : Env → Prop) : Stk → LTree → Env → Nat → Env → List (Bool × List Chunk) → Prop where
  | leaf {K l E} : Run Good K (.leaf l) E 0 E l
  | iteT {K b t e E m E' l} : b.den E = true → Run Good K t E m E' l → Run Good K (.ite b t e) E m E' l
  | iteF {K b t e E m E' l} : b.den E = false → Run Good K e E m E' l → Run Good K (.ite b t e) E m E' l
  | loop {K d I ts T E m E' l} : enterL Good I ts E → Run Good (K.set d (I, T)) T (E.upd I.vs (ts.map (IT.den E))) m E' l → Run Good K (.loop d I ts T) E m E' l
  | again {K : Stk} {d I ts T E m E' l} : K d = some (I, T) → enterL Good I ts E → Run Good K T (E.upd I.vs (ts.map (IT.den E))) m E' l → Run Good K (.again d ts) E (m + 1) E' l

def regTL (C : Cfg) (n : Nat) (l : List Oper) (drawn : Bool) (k : Asm → St → Option LTree) : Nat → Asm → St → Option LTree
  | 0, _, _ => none
  | f + 1, G, S => match regE C G n l drawn S with
    | some S' => k G S'
    | none => match needE C G n l.toArray l S with
      | some b => match regTL C n l drawn k f ((b, true) :: G) S, regTL C n l drawn k f ((b, false) :: G) S with
        | some t, some e => some (.ite b t e)
        | _, _ => none
      | none => none
def firstId : Code → Option Nat
  | .region id _ _ => some id
  | .seq a b => match firstId a with | some i => some i | none => firstId b
  | .block _ c => firstId c
  | .cond _ a b => match firstId a with | some i => some i | none => firstId b
  | .loop c => firstId c
  | _ => none
def execL (C : Cfg) (L : Nat → Option LInv) (n : Nat) : Code → Nat → (Asm → St → Ex → Option LTree) → Asm → St → Option LTree
  | .skip, _, k, G, S => k G S .norm
  | .ret, _, k, G, S => k G S .ret
  | .exit id, _, k, G, S => k G S (.exit id)
  | .region _ ops drawn, _, k, G, S => regTL C n ops.toList drawn (fun G S => k G S .norm) 64 G S
  | .seq a b, d, k, G, S => execL C L n a d (fun G S e => match e with | .norm => execL C L n b d k G S | e => k G S e) G S
  | .loop c, d, k, _, S => match (firstId c).bind L with
    | some I => match matchS I S with
      | some ts => match execL C L n c (d + 1) (fun G S e => match e with | .norm => (matchS I S).map (.again d) | e => k G S e) I.G I.st with
        | some T => some (.loop d I ts T)
        | none => none
      | none => none
    | none => none
  | .block id c, d, k, G, S => execL C L n c d (fun G S e => match e with | .exit j => if j = id then k G S .norm else k G S (.exit j) | e => k G S e) G S
  | .cond c x y, d, k, G, S => match opnd S.look c with
    | some (.val false [.b tt]) => match tt.ev G with
      | some true => execL C L n x d k G S
      | some false => execL C L n y d k G S
      | none => match tt.ev ((tt.base, true) :: G), tt.ev ((tt.base, false) :: G) with
        | some b1, some b2 =>
          match (if b1 then execL C L n x d k ((tt.base, true) :: G) S else execL C L n y d k ((tt.base, true) :: G) S), (if b2 then execL C L n x d k ((tt.base, false) :: G) S else execL C L n y d k ((tt.base, false) :: G) S) with
          | some t, some e => some (.ite tt.base t e)
          | _, _ => none
        | _, _ => none
    | _ => none
  | _, _, _, _, _ => none

section
variable {P : Program} {n B : Nat} {w0 : World} {C : Cfg} {L : Nat → Option LInv} {Good : Env → Prop} {E' : Env} {l : List (Bool × List Chunk)}
def KOK (Good : Env → Prop) (n B : Nat) (w0 : World) (E' : Env) (l : List (Bool × List Chunk)) (k : Asm → St → Ex → Option LTree) (Q : Exit → Act → World → Prop) (K : Stk) (d m : Nat) : Prop :=
  ∀ (K' : Stk) G S e T E m', m' ≤ m → (∀ j, j < d → K' j = K j) → k G S e = some T → Run Good K' T E m' E' l → G.holds E → Good E → ∀ a w, S.holds E n B w0 a w → Q e.to a w
theorem regTL_sound (hm : P.follows .mixedOrders = true) {E : Env} (hC : CfgAt P E C B w0) {id : Nat} {lo : List Oper} {drawn : Bool} {k : Asm → St → Option LTree} {Q : Exit → Act → World → Prop} {K : Stk} {m : Nat} {w : World} {a : Act} : ∀ (f : Nat) (G : Asm) (S : St) (T : LTree), G.holds E → S.holds E n B w0 a w →
    regTL C n lo drawn k f G S = some T → Run Good K T E m E' l →
    (∀ G' S' T', k G' S' = some T' → G'.holds E → Run Good K T' E m E' l → ∀ a' w', S'.holds E n B w0 a' w' → Q .normal a' w') → (Code.region id lo.toArray drawn).wp P Q a w
  | 0, _, _, _, _, _, h, _, _ => by simp [regTL] at h
  | f + 1, G, S, T, hG, hS, h, hR, hk => by
    unfold regTL at h
    split at h
    · rename_i S' hS'
      exact regE_sound hm hC hG hS hS' (fun a' w' h' => hk G S' T h hG hR a' w' h')
    · split at h
      · rename_i b hb
        split at h
        · rename_i t e ht he
          injection h with h
          subst h
          cases hR with
          | iteT hbv hR => exact regTL_sound hm hC f _ S t (asm_cons hG hbv) hS ht hR hk
          | iteF hbv hR => exact regTL_sound hm hC f _ S e (asm_cons hG hbv) hS he hR hk
        · cases h
      · cases h
theorem execL_sound (hm : P.follows .mixedOrders = true) (hC : ∀ E, Good E → CfgAt P E C B w0) : ∀ (c : Code) (d : Nat) (k : Asm → St → Ex → Option LTree) (Q : Exit → Act → World → Prop) (K : Stk) (G : Asm) (S : St) (T : LTree) (E : Env) (m : Nat) (a : Act) (w : World), G.holds E → Good E → S.holds E n B w0 a w →
    execL C L n c d k G S = some T → Run Good K T E m E' l → KOK Good n B w0 E' l k Q K d m → c.wp P Q a w := by
  intro c
  induction c with
  | skip => intro d k Q K G S T E m a w hG hE hS h hR hk; exact wp_skip (hk K G S .norm T E m (Nat.le_refl _) (fun _ _ => rfl) h hR hG hE a w hS)
  | ret => intro d k Q K G S T E m a w hG hE hS h hR hk; exact wp_ret (hk K G S .ret T E m (Nat.le_refl _) (fun _ _ => rfl) h hR hG hE a w hS)
  | exit id => intro d k Q K G S T E m a w hG hE hS h hR hk; exact wp_exit (hk K G S (.exit id) T E m (Nat.le_refl _) (fun _ _ => rfl) h hR hG hE a w hS)
  | region id ops drawn =>
    intro d k Q K G S T E m a w hG hE hS h hR hk
    have := regTL_sound (id := id) (Q := Q) hm (hC E hE) 64 G S T hG hS h hR (fun G' S' T' h1 h2 h3 a' w' h4 => hk K G' S' .norm T' E m (Nat.le_refl _) (fun _ _ => rfl) h1 h3 h2 hE a' w' h4)
    simpa using this
  | seq x y ihx ihy =>
    intro d k Q K G S T E m a w hG hE hS h hR hk
    refine wp_seq (ihx d _ _ K G S T E m a w hG hE hS h hR (fun K' G' S' e T' E1 m' hm' hK' h1 hR' hG' hE' a' w' h4 => ?_))
    cases e with
    | norm => exact ihy d k Q K' G' S' T' E1 m' a' w' hG' hE' h4 h1 hR' (fun K2 G2 S2 e2 T2 E2 m2 j1 j2 j3 j4 j5 j6 => hk K2 G2 S2 e2 T2 E2 m2 (Nat.le_trans j1 hm') (fun j hj => (j2 j hj).trans (hK' j hj)) j3 j4 j5 j6)
    | ret => exact hk K' G' S' .ret T' E1 m' hm' hK' h1 hR' hG' hE' a' w' h4
    | exit id => exact hk K' G' S' (.exit id) T' E1 m' hm' hK' h1 hR' hG' hE' a' w' h4
  | block id c ih =>
    intro d k Q K G S T E m a w hG hE hS h hR hk
    refine wp_block (ih d _ _ K G S T E m a w hG hE hS h hR (fun K' G' S' e T' E1 m' hm' hK' h1 hR' hG' hE' a' w' h4 => ?_))
    cases e with
    | norm => exact hk K' G' S' .norm T' E1 m' hm' hK' h1 hR' hG' hE' a' w' h4
    | ret => exact hk K' G' S' .ret T' E1 m' hm' hK' h1 hR' hG' hE' a' w' h4
    | exit j =>
      simp only at h1
      show (if j = id then Q .normal a' w' else Q (.exit j) a' w')
      by_cases hj : j = id
      · rw [if_pos hj] at h1 ⊢
        exact hk K' G' S' .norm T' E1 m' hm' hK' h1 hR' hG' hE' a' w' h4
      · rw [if_neg hj] at h1 ⊢
        exact hk K' G' S' (.exit j) T' E1 m' hm' hK' h1 hR' hG' hE' a' w' h4
  | loop c ih =>
    intro d k Q K G S T E m a w hG hE hS h hR hk
    simp only [execL] at h
    split at h
    · rename_i I hI
      split at h
      · rename_i ts hts
        split at h
        · rename_i T0 hT0
          injection h with h
          subst h
          cases hR with
          | loop hen hR =>
            have key : ∀ (m0 : Nat), ∀ (K1 : Stk) (E1 : Env) (a : Act) (w : World) (f : Nat), m0 ≤ m → m0 < f → K1 d = some (I, T0) → (∀ j, j < d → K1 j = K j) → I.G.holds E1 → Good E1 → I.st.holds E1 n B w0 a w → Run Good K1 T0 E1 m0 E' l → Code.rounds P c Q f a w := by
              intro m0
              induction m0 using Nat.strongRecOn with
              | ind m0 ihm =>
                intro K1 E1 a w f hm0 hf hKd hKj hG1 hE1 hS1 hR1
                match f, hf with
                | f + 1, hf =>
                  rw [rounds_succ]
                  refine ih (d + 1) _ _ K1 I.G I.st T0 E1 m0 a w hG1 hE1 hS1 hT0 hR1 (fun K' G' S' e T' E2 m' hm' hK' h1 hR' hG' hE' a' w' h4 => ?_)
                  cases e with
                  | norm =>
                    obtain ⟨ts', hts', rfl⟩ := Option.map_eq_some_iff.1 h1
                    cases hR' with
                    | again hd hen' hR2 =>
                      rename_i I2 T2 m2
                      have : K' d = some (I, T0) := (hK' d (by omega)).trans hKd
                      rw [this] at hd
                      injection hd with hd
                      injection hd with e1 e2
                      subst e1 e2
                      exact ihm m2 (by omega) K' _ a' w' f (by omega) (by omega) this (fun j hj => (hK' j (by omega)).trans (hKj j hj)) hen'.1 hen'.2.1 (matchS_spec hts' hen' h4) hR2
                  | ret => exact hk K' G' S' .ret T' E2 m' (by omega) (fun j hj => (hK' j (by omega)).trans (hKj j hj)) h1 hR' hG' hE' a' w' h4
                  | exit id => exact hk K' G' S' (.exit id) T' E2 m' (by omega) (fun j hj => (hK' j (by omega)).trans (hKj j hj)) h1 hR' hG' hE' a' w' h4
            exact wp_loop_rounds (m + 1) (key m _ _ a w (m + 1) (Nat.le_refl _) (by omega) (by simp [Stk.set]) (fun j hj => by simp [Stk.set]; omega) hen.1 hen.2.1 (matchS_spec hts hen hS) hR)
        · cases h
      · cases h
    · cases h
  | cond c x y ihx ihy =>
    intro d k Q K G S T E m a w hG hE hS h hR hk
    simp only [execL] at h
    split at h
    · rename_i tt hc
      obtain ⟨β, hS'⟩ := hS
      have hv := opnd_spec (E := E) (β := β) (w := w) hS'.sl hc
      have hSS : S.holds E n B w0 a w := ⟨β, hS'⟩
      obtain ⟨⟨l1, r1, h1, h2, h3⟩, _⟩ := hv
      simp only [Chunk.holds] at h2
      simp only [chunks] at h3
      subst h2 h3
      injection h1 with h1
      split at h
      · rename_i hev
        rw [BT.ev_spec hG hev] at h1
        exact wp_cond_true h1 (ihx d k Q K G S T E m a w hG hE hSS h hR hk)
      · rename_i hev
        rw [BT.ev_spec hG hev] at h1
        exact wp_cond_false h1 (ihy d k Q K G S T E m a w hG hE hSS h hR hk)
      · split at h
        · rename_i b1 b2 e1 e2
          split at h
          · rename_i t e ht he
            injection h with h
            subst h
            cases hR with
            | iteT hbv hR =>
              have hG2 := asm_cons hG hbv
              rw [BT.ev_spec hG2 e1] at h1
              cases b1 with
              | true => exact wp_cond_true h1 (ihx d k Q K _ S t E m a w hG2 hE hSS ht hR hk)
              | false => exact wp_cond_false h1 (ihy d k Q K _ S t E m a w hG2 hE hSS ht hR hk)
            | iteF hbv hR =>
              have hG2 := asm_cons hG hbv
              rw [BT.ev_spec hG2 e2] at h1
              cases b2 with
              | true => exact wp_cond_true h1 (ihx d k Q K _ S e E m a w hG2 hE hSS he hR hk)
              | false => exact wp_cond_false h1 (ihy d k Q K _ S e E m a w hG2 hE hSS he hR hk)
          · cases h
        · cases h
    · cases h
  | _ => intro d k Q K G S T E m a w hG hE hS h hR hk; simp [execL] at h

def noStk : Stk := fun _ => none
end
end Go.Proofs.YtifeacfljfmnpaaGreat
end

section
set_option maxRecDepth 100000
namespace Go.Proofs.YtifeacfljfmnpaaGreat
open Go.RowKit Go.Shelf
end Go.Proofs.YtifeacfljfmnpaaGreat
end

section
set_option maxRecDepth 100000
namespace Go.Proofs.YtifeacfljfmnpaaGreat
open Go.RowKit
def dv (l : List UInt8) : Nat := l.foldl (fun v c => v * 10 + (c.toNat - 48)) 0
end Go.Proofs.YtifeacfljfmnpaaGreat
end

section
set_option maxRecDepth 100000
namespace Go.Proofs.YtifeacfljfmnpaaGreat
open Go.RowKit Go.Shelf
end Go.Proofs.YtifeacfljfmnpaaGreat
end

section
set_option maxRecDepth 100000
namespace Go.Proofs.YtifeacfljfmnpaaGreat
open Go.RowKit Go.Shelf
end Go.Proofs.YtifeacfljfmnpaaGreat
end

section
set_option maxRecDepth 100000
namespace Go.Proofs.YtifeacfljfmnpaaGreat
open Go.RowKit Go.Shelf
end Go.Proofs.YtifeacfljfmnpaaGreat
end

section
set_option maxRecDepth 100000
namespace Go.Proofs.YtifeacfljfmnpaaGreat
open Go.RowKit Go.Shelf
def kFmt : Con
  | [.val true [.int x l]], _ => if decide (l ≤ 100000) then some (.val false [.str (.fmt x) (9 * l + 2)]) else none
  | _, _ => none
def dgC (z : Int) : List UInt8 := (if z < 0 then [45] else []) ++ [UInt8.ofNat (48 + z.natAbs)]
def fmtC (n d : Int) : List UInt8 := if d == 1 then dgC n else dgC n ++ [47] ++ dgC d
def kFmtL : Con
  | [.val true [.int x l, .int y m]], _ => match x.cl, y.cl with
    | some n, some d => if decide (n.natAbs < 10) && (decide (d.natAbs < 10) && (decide (l ≤ 100000) && decide (m ≤ 100000))) then some (.val false [.str (.lit (fmtC n d)) (fmtC n d).length]) else none
    | _, _ => none
  | _, _ => none
def llen (z : Int) : Nat := (limbs z.natAbs).length
def sqN (n d : Int) (z : Int) : Int := if sqB n && sqB d then isq z else 0
def tSq : Tree := .ite (.and (.eq (.a1 3 (.var 0)) (.lit 0)) (.eq (.a2 3 (.a2 2 (.a1 2 (.var 0)) (.a1 2 (.var 0))) (.var 0)) (.lit 0)))
  (.ite (.and (.eq (.a1 3 (.var 1)) (.lit 0)) (.eq (.a2 3 (.a2 2 (.a1 2 (.var 1)) (.a1 2 (.var 1))) (.var 1)) (.lit 0))) (.leaf [(true, [.int (.a1 2 (.var 0)) 100000, .int (.a1 2 (.var 1)) 100000]), (false, [.b (.lit true)])])
    (.leaf [(true, [.int (.lit 0) 0, .int (.lit 0) 0]), (false, [.b (.lit false)])]))
  (.leaf [(true, [.int (.lit 0) 0, .int (.lit 0) 0]), (false, [.b (.lit false)])])
def RetSqQ (n d : Int) (w : World) (e : Ending) (w' : World) : Prop := ∃ v, e = .returned (.tuple #[v, .bool (sqB n && sqB d)]) ∧ IsPair w' v (sqN n d n) (sqN n d d) ∧ Ext w w'
theorem open_qb {E : Env} {β : Nat → Nat} {w : World} {v : Value} {x y : IT} {k m : Nat} {t : BT} (hx : (AV.tup [(true, [.int x k, .int y m]), (false, [.b t])]).holds E β w v) : ∃ p, v = .tuple #[p, .bool (t.den E)] ∧ IsPair w p (x.den E) (y.den E) := by
  obtain ⟨vs, rfl, u1, r1, rfl, k1, u2, r2, rfl, k2, hn⟩ := hx
  simp only [tupAll] at hn
  subst hn
  have k2' := one_bool.1 k2
  subst k2'
  exact ⟨u1, rfl, (one_pair.1 k1).1⟩
theorem sqrtQ_calls (w : World) (v : Value) (n d : Int) (h : IsPair w v n d) (l1 : Lim 100000 n) (l2 : Lim 100000 d) : Calls Tryz.prog 125 #[v] w (RetSqQ n d w) := by
  refine (fun_sound (C := cfgOf tabSqr) (E := zE [n, d]) (args := [argQ 0]) (T := tSq)
    mixed (cfg_ok tabSqr_ok) no_asm Tryz.func125 (by decide +kernel) (by kernel_rfl) (by decide +kernel) rfl w [v] rfl ?_).mono ?_
  · intro i x hx
    match i, hx with
    | 0, hx => injection hx with hx; subst hx; exact ⟨fun _ => 0, v, rfl, argP_holds h l1 l2 rfl rfl⟩
  · rintro e w' ⟨β, u, rfl, hh, ex⟩
    have d0 : (BT.and (.eq (.a1 3 (.var 0)) (.lit 0)) (.eq (.a2 3 (.a2 2 (.a1 2 (.var 0)) (.a1 2 (.var 0))) (.var 0)) (.lit 0))).den (zE [n, d]) = sqB n := rfl
    have d1 : (BT.and (.eq (.a1 3 (.var 1)) (.lit 0)) (.eq (.a2 3 (.a2 2 (.a1 2 (.var 1)) (.a1 2 (.var 1))) (.var 1)) (.lit 0))).den (zE [n, d]) = sqB d := rfl
    unfold tSq at hh
    simp only [Tree.pick, d0, d1] at hh
    unfold RetSqQ sqN
    cases h0 : sqB n <;> cases h1 : sqB d <;> rw [h0, h1] at hh
    · obtain ⟨p, rfl, hp⟩ := open_qb hh
      exact ⟨p, rfl, hp, ex⟩
    · obtain ⟨p, rfl, hp⟩ := open_qb hh
      exact ⟨p, rfl, hp, ex⟩
    · obtain ⟨p, rfl, hp⟩ := open_qb hh
      exact ⟨p, rfl, hp, ex⟩
    · obtain ⟨p, rfl, hp⟩ := open_qb hh
      exact ⟨p, rfl, hp, ex⟩
def kSqrtL : Con
  | [.val true [.int (.lit n) l, .int (.lit d) m]], _ => if decide (l ≤ 100000) && decide (m ≤ 100000) then
      some (.tup [(true, [.int (.lit (sqN n d n)) (llen (sqN n d n)), .int (.lit (sqN n d d)) (llen (sqN n d d))]), (false, [.b (.lit (sqB n && sqB d))])]) else none
  | _, _ => none
theorem kSqrtL_ok {E : Env} : ConOK Tryz.prog E 125 kSqrtL := by
  refine ⟨?_, ?_, ⟨_, Tryz.func125, by decide +kernel, by kernel_rfl⟩⟩
  · intro args As r h hG β w vs hv hlen
    unfold kSqrtL at h
    split at h
    · split at h
      · rename_i hm
        simp only [Bool.and_eq_true, decide_eq_true_iff] at hm
        injection h with h
        subst h
        obtain ⟨v, rfl, h1⟩ := args1 hv hlen
        obtain ⟨p1, a1, a2⟩ := one_pair.1 h1
        refine (sqrtQ_calls w v _ _ p1 (a1.mono hm.1) (a2.mono hm.2)).mono ?_
        rintro e w' ⟨u, rfl, hp, ex⟩
        exact ⟨_, rfl, ⟨[u, .bool _], rfl, u, _, rfl, one_pair.2 ⟨hp, Nat.le_refl _, Nat.le_refl _⟩, _, _, rfl, one_bool.2 rfl, rfl⟩, ex⟩
      · cases h
    · cases h
  · intro args As r h x off
    unfold kSqrtL at h
    split at h
    · split at h
      · injection h with h; subst h; intro e; cases e
      · cases h
    · cases h
def kFlQ : Con
  | [.val true [.int x l, .int y m]], _ => if canon x y && (ql l && ql m) then some (.val true [.int (.a2 4 x y) l]) else none
  | _, _ => none
theorem kFlQ_ok {E : Env} (hE : QEnv E) : ConOK Tryz.prog E 209 kFlQ := by
  refine ⟨?_, ?_, ⟨_, Tryz.func209, by decide +kernel, by kernel_rfl⟩⟩
  · intro args As r h hG β w vs hv hlen
    unfold kFlQ at h
    split at h
    · split at h
      · rename_i hm
        simp only [ql, Bool.and_eq_true, decide_eq_true_iff] at hm
        obtain ⟨c1, b1, b2⟩ := hm
        injection h with h
        subst h
        obtain ⟨v, rfl, h1⟩ := args1 hv hlen
        obtain ⟨q, _, e1, e2, hq, m1, m2⟩ := one_ratQ hE c1 h1
        refine (floor_rat_calls w v q hq ⟨m1.mono b1, m2.mono b2⟩).mono ?_
        rintro e w' ⟨u, rfl, hI, ex⟩
        refine ⟨_, rfl, one_int.2 ⟨?_, ?_⟩, ex⟩
        · show IsInt w' u (dq _ _)
          rw [e1, e2]; exact hI
        · show Lim _ (dq _ _)
          rw [e1, e2]; exact m1.natAbs_le (dq_abs _ _)
      · cases h
    · cases h
  · intro args As r h x off
    unfold kFlQ at h
    split at h
    · split at h
      · injection h with h; subst h; intro e; cases e
      · cases h
    · cases h
end Go.Proofs.YtifeacfljfmnpaaGreat
end

section
set_option maxRecDepth 100000
namespace Go.Proofs.YtifeacfljfmnpaaGreat
open Go.RowKit
def sgQ (q : Rat) : Int := cmpZ q.num 0
theorem num_pos_iff (q : Rat) : 0 < q.num ↔ 0 < q := by
  have h1 : 0 ≤ q.num ↔ 0 ≤ q := Rat.num_nonneg
  have h2 : q.num = 0 ↔ q = 0 := Rat.num_eq_zero
  constructor
  · intro h
    have a := h1.1 (by omega)
    have b : q ≠ 0 := fun e => by have := h2.2 e; omega
    grind
  · intro h
    have a := h1.2 (by grind)
    have b : q.num ≠ 0 := fun e => by have := h2.1 e; grind
    omega
theorem sgQ_cases (q : Rat) : (q < 0 ∧ sgQ q = -1) ∨ (q = 0 ∧ sgQ q = 0) ∨ (0 < q ∧ sgQ q = 1) := by
  have h1 := num_pos_iff q
  have h2 : q.num = 0 ↔ q = 0 := Rat.num_eq_zero
  unfold sgQ
  rcases cmpZ_cases q.num 0 with ⟨h, e⟩ | ⟨h, e⟩ | ⟨h, e⟩
  · refine .inl ⟨?_, e⟩
    have a : ¬ 0 < q := fun k => by have := h1.2 k; omega
    have b : q ≠ 0 := fun k => by have := h2.2 k; omega
    grind
  · exact .inr (.inl ⟨h2.1 h, e⟩)
  · exact .inr (.inr ⟨h1.1 h, e⟩)
theorem sgQ_pos {q : Rat} (h : 0 < q) : sgQ q = 1 := by rcases sgQ_cases q with ⟨k, e⟩ | ⟨k, e⟩ | ⟨k, e⟩ <;> grind
theorem sgQ_neg' {q : Rat} (h : q < 0) : sgQ q = -1 := by rcases sgQ_cases q with ⟨k, e⟩ | ⟨k, e⟩ | ⟨k, e⟩ <;> grind
theorem sgQ_opp (q : Rat) : sgQ (-q) = - sgQ q := by
  rcases sgQ_cases q with ⟨k, e⟩ | ⟨k, e⟩ | ⟨k, e⟩
  · rw [e, sgQ_pos (by grind)]; rfl
  · rw [e, k]; rfl
  · rw [e, sgQ_neg' (by grind)]
theorem sgQ_mul (a b : Rat) : sgQ (a * b) = sgQ a * sgQ b := by
  rcases sgQ_cases a with ⟨k, e⟩ | ⟨k, e⟩ | ⟨k, e⟩ <;> rcases sgQ_cases b with ⟨j, f⟩ | ⟨j, f⟩ | ⟨j, f⟩ <;> rw [e, f]
  · have := Rat.mul_pos (a := -a) (b := -b) (by grind) (by grind)
    rw [sgQ_pos (by grind)]; rfl
  · rw [j, Rat.mul_zero]; rfl
  · have := Rat.mul_pos (a := -a) (b := b) (by grind) (by grind)
    rw [sgQ_neg' (by grind)]; rfl
  · rw [k, Rat.zero_mul]; rfl
  · rw [k, Rat.zero_mul]; rfl
  · rw [k, Rat.zero_mul]; rfl
  · have := Rat.mul_pos (a := a) (b := -b) (by grind) (by grind)
    rw [sgQ_neg' (by grind)]; rfl
  · rw [j, Rat.mul_zero]; rfl
  · rw [sgQ_pos (Rat.mul_pos k j)]; rfl
theorem cmpQ_sub (a b : Rat) : cmpZ (a.num * (b.den : Int)) (b.num * (a.den : Int)) = sgQ (a - b) := by
  have h1 := Rat.lt_iff a b
  have h2 := Rat.lt_iff b a
  rcases cmpZ_cases (a.num * (b.den : Int)) (b.num * (a.den : Int)) with ⟨h, e⟩ | ⟨h, e⟩ | ⟨h, e⟩
  · have := h1.2 h
    rw [e, sgQ_neg' (by grind)]
  · have k1 : ¬ a < b := fun k => by have := h1.1 k; omega
    have k2 : ¬ b < a := fun k => by have := h2.1 k; omega
    have : a - b = 0 := by grind
    rw [e, this]; rfl
  · have := h2.2 h
    rw [e, sgQ_pos (by grind)]
def qcmp (p q : IT2) : IT := .a2 3 (.a2 2 p.1 q.2) (.a2 2 q.1 p.2)
theorem rep_cmp {E : Env} {p q : IT2} {a b : Rat} (hp : RepQ E p a) (hq : RepQ E q b) : (qcmp p q).den E = sgQ (a - b) := by
  show cmpZ (p.1.den E * q.2.den E) (q.1.den E * p.2.den E) = _
  rw [hp.1, hp.2, hq.1, hq.2, cmpQ_sub]
end Go.Proofs.YtifeacfljfmnpaaGreat
end

section
set_option maxRecDepth 100000
namespace Go.Proofs.YtifeacfljfmnpaaGreat
open Go.RowKit
theorem run_append_own_limbs (w : World) (B : Nat) (hB : B ≤ w.heap.size) (ty : TypeId) (v : Value) (zs : List Nat) (lz : zs.length ≤ 1099511627776) (hz : 0 < zs.length) (hown : w.ownsRow B 149 1 v zs.length (zs.map fun x => Value.int .u32 ((x : Nat) : Int))) (b : Nat) (xs : List Nat) (c : Nat) (lx : xs.length ≤ 1099511627776)
    (h : ∀ i, i < xs.length → w.cell? ⟨b, i, none⟩ = some (.int .u32 ((xs.getD i 0 : Nat) : Int))) :
    ∃ ao' cap w1, (Builtin.append_ #[22, 22] ty #[v, .slice (some ⟨b, 0, none⟩) xs.length c]).run Tryz.prog w = .ok (.slice ao' (zs.length + xs.length) cap) w1 ∧
      zs.length + xs.length ≤ cap ∧ cap ≤ 9223372036854775807 ∧ Below B w w1 ∧ Cells w1 ao' (zs ++ xs) := by
  obtain ⟨i0, hi, hz0, hz1, hz2⟩ := info_parts info_u32
  have hnews : ∀ j u, (xs.map fun x => Value.int .u32 ((x : Nat) : Int))[j]? = some u → w.cell? ((⟨b, 0, none⟩ : Addr).add j) = some u := by
    intro j u hu
    rw [List.getElem?_map] at hu
    obtain ⟨x, hx1, rfl⟩ := Option.map_eq_some_iff.1 hu
    have hj : j < xs.length := (List.getElem?_eq_some_iff.1 hx1).1
    have := h j hj
    rw [List.getD_eq_getElem?_getD, hx1] at this
    by_cases h0 : j = 0
    · subst h0; simpa [Addr.add] using this
    · simpa [Addr.add, h0] using this
  obtain ⟨v', w1, hrun, hown1, hgrow, hnil⟩ := run_append_own (P := Tryz.prog) w B 22 ty 149 i0 (.int .u32 0) 1 4 Tryz.underlying22 hi hz0 hz1 hz2 rfl (by decide) _ _ _ hown ⟨b, 0, none⟩ xs.length c (xs.map fun x => Value.int .u32 ((x : Nat) : Int)) (by simp) hnews
    (by intro u hu; obtain ⟨x, _, rfl⟩ := List.mem_map.1 hu; rfl) (by unfold maxLen; omega) (by omega) hB
  rw [← List.map_append, ← List.length_append] at hown1
  have hE : Below B w w1 := Below.grown (Below.refl _ _) hgrow hB (fun k hk => (hown.lt k hk).1)
  rcases hown1.2 with ⟨rfl, h0⟩ | ⟨g, cap, cur, rfl, hg, _, hnc, hcm, _, _⟩
  · exfalso
    rw [List.length_append] at h0
    omega
  · rw [List.length_append] at hnc
    exact ⟨_, cap, w1, by rw [hrun, List.length_append], hnc, by unfold maxLen at hcm; omega, hE, (Blk.of_owns hown1).cells⟩

def sqI : LInv where
  lk := [(1, .ptr 1 0), (2, .ptr 2 0), (4, .ptr 4 0), (5, .ptr 5 0)]
  vr := [(1, [.int (.var 0) 100000]), (2, [.int (.lit 0) 0]), (4, [.int (.var 1) 100001]), (5, [.int (.lit 2) 3])]
  vs := [1]
  G := []
  lm := [(1, 100001)]
def sqNext : IT := .a2 4 (.a2 0 (.var 1) (.a2 4 (.var 0) (.var 1))) (.lit 2)
def sqLeaf : List (Bool × List Chunk) := [(true, [.int (.var 1) 100001]), (false, [.n .i64 (.lit 0)])]
def sqTree : LTree := .ite (.le (.lit 0) (.a2 3 sqNext (.var 1))) (.leaf sqLeaf) (.again 0 [sqNext])
def tabRsq : List (Nat × Con) := [(164, kDM), (100, kII (.a2 0) (fun l m => max l m + 1)), (95, kIIn (.a2 3))]
theorem tabRsq_ok {E : Env} : TabOK Tryz.prog E tabRsq :=
  .cons (kDMg_ok (fun w v u a b h k l1 l2 => rdivMod_fn w v u a b h k l1 l2) ⟨_, Tryz.func164, by decide +kernel, by kernel_rfl⟩)
    (.cons (tabR1_ok.all (100, kII (.a2 0) (fun l m => max l m + 1)) (by simp [tabR1]))
      (.cons (kIIn_ok cmpZ (fun _ _ => rfl) (fun w v1 v2 z1 z2 h1 h2 => rcmp_calls w v1 v2 z1 z2 h1 h2) ⟨_, Tryz.func95, by decide +kernel, by kernel_rfl⟩) .nil))

theorem VarAt.new {E : Env} {w : World} {cs : List Chunk} {vs : List Value} {t : TypeId} (h : chunks E w cs vs) : VarAt E (w.alloc (.cells vs.toArray t)) w.heap.size cs := by
  have hk := Kp.of (B := w.heap.size) ((Ext.refl w).alloc (.cells vs.toArray t)) (Nat.le_refl _)
  have hh : (w.alloc (.cells vs.toArray t)).heap[w.heap.size]? = some (.cells vs.toArray t (0, 0)) := heap_alloc_new w _
  refine ⟨vs, chunks_keep hk h, fun i v hi => ⟨?_, ?_⟩⟩
  · simp only [World.cell?, hh]
    simpa using hi
  · simp only [World.frozen?, hh]
    simp
theorem chunks_int {E : Env} {w : World} {x y : Value} {t : IT} {l : Nat} {z : Int} (h : IsInt w (.agg #[x, y]) z) (hz : t.den E = z) (hl : Lim l z) : chunks E w [.int t l] [x, y] :=
  ⟨[x, y], [], rfl, ⟨x, y, rfl, by rw [hz]; exact h, by rw [hz]; exact hl⟩, rfl⟩
theorem sq_run (n : Nat) (hn : 0 < n) : ∀ (x : Nat), 0 < x → n < (x + 1) * (x + 1) → Lim 100001 (x : Int) → ∃ m E', Run (fun _ => True) (noStk.set 0 (sqI, sqTree)) sqTree ((zE [(n : Int), 0]).upd [1] [(x : Int)]) m E' sqLeaf ∧ E'.i 1 = (isqN n : Int) := by
  intro x
  induction x using Nat.strongRecOn with
  | ind x ih =>
    intro hx hu hl
    have hq : dq (n : Int) (x : Int) = ((n / x : Nat) : Int) := by rw [dq_pos (by omega)]; exact (Int.natCast_ediv n x).symm
    have hy : sqNext.den ((zE [(n : Int), 0]).upd [1] [(x : Int)]) = (((x + n / x) / 2 : Nat) : Int) := by
      show dq ((x : Int) + dq (n : Int) (x : Int)) 2 = _
      rw [hq, dq_pos (by omega)]
      omega
    have hc : (IT.a2 3 sqNext (.var 1)).den ((zE [(n : Int), 0]).upd [1] [(x : Int)]) = cmpZ (((x + n / x) / 2 : Nat) : Int) (x : Int) := by
      show cmpZ (sqNext.den _) (x : Int) = _
      rw [hy]
    by_cases hge : x ≤ (x + n / x) / 2
    · refine ⟨0, _, .iteT ?_ .leaf, ?_⟩
      · show decide ((0 : Int) ≤ (IT.a2 3 sqNext (.var 1)).den _) = true
        rw [hc, decide_eq_true_iff]
        rcases cmpZ_cases (((x + n / x) / 2 : Nat) : Int) (x : Int) with ⟨h, e⟩ | ⟨h, e⟩ | ⟨h, e⟩ <;> omega
      · show (x : Int) = _
        rw [isqN_spec_eq (newton_stop hx hu hge)]
    · have hp := newton_pos hx hn
      have hnx := newton_next (n := n) hx
      obtain ⟨m, E', hR, hE⟩ := ih _ (by omega) hp hnx (hl.natAbs_le (by omega))
      refine ⟨m + 1, E', .iteF ?_ (.again (I := sqI) (T := sqTree) (by simp [Stk.set]) ⟨no_asm, trivial, ?_⟩ ?_), hE⟩
      · show decide ((0 : Int) ≤ (IT.a2 3 sqNext (.var 1)).den _) = false
        rw [hc, decide_eq_false_iff_not]
        rcases cmpZ_cases (((x + n / x) / 2 : Nat) : Int) (x : Int) with ⟨h, e⟩ | ⟨h, e⟩ | ⟨h, e⟩ <;> omega
      · intro p hp
        simp only [sqI, List.mem_cons, List.not_mem_nil, or_false] at hp
        subst hp
        show Lim 100001 (sqNext.den _)
        rw [hy]
        exact hl.natAbs_le (by omega)
      · have : Env.upd ((zE [(n : Int), 0]).upd [1] [(x : Int)]) sqI.vs ([sqNext].map (IT.den ((zE [(n : Int), 0]).upd [1] [(x : Int)]))) = (zE [(n : Int), 0]).upd [1] [(((x + n / x) / 2 : Nat) : Int)] := by
          simp only [List.map_cons, List.map_nil, hy]
          unfold Env.upd
          congr 1
          funext k
          simp only [sqI, updI]
          by_cases hk : k = 1
          · simp [hk]
          · simp [hk]
        rw [this]
        exact hR

set_option maxRecDepth 100000 in
set_option maxHeartbeats 1600000 in
theorem rsqrt_pos (w : World) (v : Value) (z : Int) (h : IsInt w v z) (l : Lim 100000 z) (hz : 0 < z) : Calls Tryz.prog 101 #[v] w (RetSqA z w) := by
  obtain ⟨ao, cap, s, n, rfl, h1, h2, h3, H4, H5, H6⟩ := h.open_
  obtain ⟨W, hW, eW, c0, c1, r0, r1, f0, f1⟩ := boxes1r w (.bool s) (.slice ao (limbs n).length cap) 24
  have hs : s = false := by
    cases s
    · rfl
    · have h5 := H5.out; have h6 := H6.out rfl; simp only [sgn, if_true] at h5; omega
  subst hs
  have hz2 : z = (n : Int) := H5.out
  have hl0 : 0 < (limbs n).length := limbs_pos (by omega)
  have l' := l
  unfold Lim at l'
  rw [← H4.out] at l'
  subst hz2
  obtain ⟨K, hK⟩ : ∃ K, K = ((limbs n).length + 1) / 2 := ⟨_, rfl⟩
  have hKI : (((limbs n).length : Int) + 1).tdiv 2 = (K : Int) := by rw [Int.tdiv_eq_ediv_of_nonneg (by omega)]; omega
  have hmk := run_mk K (by omega) ↑K rfl
  have hKb : K ≤ 100000 := by omega
  have hWs : W.heap.size = w.heap.size + 2 := by rw [← hW]; simp
  have HI := Lib.hid (show IsInt W (.agg #[.bool false, .slice ao (limbs n).length cap]) (n : Int) from h.ext eW)
  -- the zeros, the one, and what the append leaves
  have hown : ((W.alloc (.cells (u32s (List.replicate K 0)) 149)).alloc (.cells #[.int .u32 1] 149)).ownsRow W.heap.size 149 1 (.slice (some ⟨W.heap.size, 0, none⟩) K K) (List.replicate K 0).length ((List.replicate K 0).map fun x => Value.int .u32 ((x : Nat) : Int)) := by
    have h0 : (W.alloc (.cells (u32s (List.replicate K 0)) 149)).ownsRow W.heap.size 149 1 (.slice (some ⟨W.heap.size, 0, none⟩) K K) K ((List.replicate K 0).map fun x => Value.int .u32 ((x : Nat) : Int)) :=
      ⟨by simp, .inr ⟨W.heap.size, K, u32s (List.replicate K 0), rfl, by omega, heap_alloc_new W _, Nat.le_refl _, by unfold maxLen; omega, by simp [u32s], by rw [Nat.mul_one]; simp only [u32s]; exact List.take_of_length_le (by simp)⟩⟩
    have := h0.alloc (.cells #[.int .u32 1] 149)
    rwa [List.length_replicate]
  obtain ⟨a3, c3, w3, hrun, k1, k2, hB3, k3⟩ := run_append_own_limbs _ W.heap.size (by simp; omega) 22 _ (List.replicate K 0) (by simp; omega) (by simp; omega) hown (W.heap.size + 1) [1] 1 (by simp) (fun i hi => by
    have : i = 0 := by simpa using hi
    subst this
    simp)
  rw [List.length_replicate, show [1].length = 1 from rfl] at hrun k1
  obtain ⟨x0, hx0⟩ : ∃ x0, x0 = 1000000000 ^ K := ⟨_, rfl⟩
  have hsh := limbs_shift K 1 (by omega)
  rw [Nat.mul_one, ← hx0, limbs_of_one] at hsh
  rw [← hsh] at k3
  have hxl : K + 1 = (limbs x0).length := by rw [hsh]; simp
  have HX : Hid (IsInt w3 (.agg #[.bool false, .slice a3 (K + 1) c3]) (x0 : Int)) := by
    rw [hxl]
    exact ⟨a3, c3, by simp, by rw [Int.natAbs_natCast, ← hxl]; exact k1, k2, by rw [Int.natAbs_natCast]; exact k3⟩
  have e3 : Ext W w3 := by
    refine Below.trans ?_ hB3
    exact ((Ext.refl W).alloc _).alloc _
  have V1 : Hid (VarAt (zE [(n : Int), (x0 : Int)]) W w.heap.size [.int (.var 0) 100000]) := by
    unfold Hid
    rw [← hW]
    refine VarAt.ext (w := w.alloc (.cells #[.bool false, .slice ao (limbs n).length cap] 24)) ?_ ((Ext.refl _).alloc _)
    exact VarAt.new (vs := [_, _]) (chunks_int h rfl l)
  have V2 : Hid (VarAt (zE [(n : Int), (x0 : Int)]) W (w.heap.size + 1) [.int (.lit 0) 0]) := by
    unfold Hid
    rw [← hW]
    have := VarAt.new (E := zE [(n : Int), (x0 : Int)]) (w := w.alloc (.cells #[.bool false, .slice ao (limbs n).length cap] 24)) (vs := [_, _]) (t := 24) (chunks_int (t := .lit 0) (l := 0) (isInt_zero _) rfl lim_zero)
    rwa [World.size_alloc] at this
  have HL3 : Hid (Lim 100001 (x0 : Int)) := by unfold Hid Lim; rw [Int.natAbs_natCast, ← hxl]; omega
  have HRUN := Lib.hid hrun
  have HK := Lib.hid hK
  have Hx0 := Lib.hid hx0
  clear hK H4 H5 H6 h hrun hown hx0 hsh k1 k2 k3 hxl hB3
  go_enter Tryz.func101, Tryz.ntmps101
  have hWs2 := Lib.hid hWs
  clear hWs
  go_wp2_with (at_builtin; refine wpList_append_run' rfl _ _ 22 rfl rfl rfl HRUN.out ?_)
  obtain ⟨w4, hw4⟩ : ∃ w4, w4 = w3.alloc (.cells #[.bool false, .slice a3 (K + 1) c3] 24) := ⟨_, rfl⟩
  rw [← hw4]
  refine (rfromInt64_calls w4 2 (by decide) (by decide)).mono ?_
  rintro e w5 ⟨v5, rfl, hI5, e5⟩
  obtain ⟨ao5, cap5, s5, n5, rfl, _⟩ := IsInt.open_ hI5
  have HI5 := Lib.hid hI5
  clear hI5
  go_wp2_with fail
  have hx0p : 0 < x0 := by rw [Hx0.out]; exact Nat.pow_pos (by omega)
  have hnx : n < (x0 + 1) * (x0 + 1) := by
    refine lt_next_sq ?_
    rw [Hx0.out, ← Nat.pow_add]
    exact Nat.lt_of_lt_of_le (lt_of_limbs_len (Nat.le_refl _)) (Nat.pow_le_pow_right (by omega) (by have := HK.out; omega))
  obtain ⟨m, E', hR, hE⟩ := sq_run n (by omega) x0 hx0p hnx HL3.out
  have hup : (zE [(n : Int), (x0 : Int)]).upd sqI.vs ([IT.var 1].map (IT.den (zE [(n : Int), (x0 : Int)]))) = (zE [(n : Int), 0]).upd [1] [(x0 : Int)] := by
    unfold Env.upd
    congr 1
    funext k
    show (if k = 1 then some (x0 : Int) else none).getD (([(n : Int), (x0 : Int)]).getD k 0) = (if k = 1 then some (x0 : Int) else none).getD (([(n : Int), 0]).getD k 0)
    by_cases hk : k = 1
    · rw [if_pos hk]; rfl
    · rw [if_neg hk]
      match k, hk with
      | 0, _ => rfl
      | k + 2, _ => rfl
  have e35 : Ext w3 w5 := by
    have := (Ext.refl w3).alloc (.cells #[.bool false, .slice a3 (K + 1) c3] 24)
    rw [← hw4] at this
    exact this.trans e5
  have e6 := (Ext.refl w5).alloc (.cells #[.bool s5, .slice ao5 (limbs n5).length cap5] 24)
  have V4 : VarAt (zE [(n : Int), (x0 : Int)]) w4 w3.heap.size [.int (.var 1) 100001] := by
    rw [hw4]
    exact VarAt.new (vs := [_, _]) (chunks_int HX.out rfl HL3.out)
  have V5 := VarAt.new (E := zE [(n : Int), (x0 : Int)]) (vs := [_, _]) (t := 24) (chunks_int (t := .lit 2) (l := 3) HI5.out rfl (lim3 (by decide) (by decide)))
  have sz3 := e3.size
  have sz35 := e35.size
  have sz4 : w4.heap.size = w3.heap.size + 1 := by rw [hw4]; simp
  have sz5 := e5.size
  have hs2 := hWs2.out
  refine execL_sound (Good := fun _ => True) (C := cfgOf tabRsq) (L := fun _ => some sqI) (w0 := w) (B := w.heap.size) (n := Tryz.f101.ntmps) (l := sqLeaf) (E' := E') mixed (fun _ _ => ⟨cfg_ok tabRsq_ok, fun _ _ => True.intro⟩) _ 0 (fun _ S e => match e with | .ret => (resE (cfgOf tabRsq) S Tryz.f101.results.toList).map .leaf | _ => none) _ noStk [] ⟨lookN sqI.lk, lookN sqI.vr⟩ (.loop 0 sqI [.var 1] sqTree) (zE [(n : Int), (x0 : Int)]) m _ _ no_asm trivial ?_ (by kernel_rfl) (.loop ⟨no_asm, trivial, ?_⟩ (by rw [hup]; exact hR)) ?_
  · have hz2 : ∀ t x, lookN sqI.lk t = some x → t = 1 ∧ x = .ptr 1 0 ∨ t = 2 ∧ x = .ptr 2 0 ∨ t = 4 ∧ x = .ptr 4 0 ∨ t = 5 ∧ x = .ptr 5 0 := by
      intro t x hx
      have := lookN_mem hx
      simpa [sqI] using this
    have hz3 : ∀ t x, lookN sqI.vr t = some x → t = 1 ∧ x = [.int (.var 0) 100000] ∨ t = 2 ∧ x = [.int (.lit 0) 0] ∨ t = 4 ∧ x = [.int (.var 1) 100001] ∨ t = 5 ∧ x = [.int (.lit 2) 3] := by
      intro t x hx
      have := lookN_mem hx
      simpa [sqI] using this
    refine ⟨fun t => if t = 1 then w.heap.size else if t = 2 then w.heap.size + 1 else if t = 4 then w3.heap.size else w5.heap.size, ⟨?_, ?_, ?_, ?_, by kernel_rfl, rfl, ?_, ?_, ?_⟩⟩
    · intro t x hx
      rcases hz2 t x hx with ⟨rfl, rfl⟩ | ⟨rfl, rfl⟩ | ⟨rfl, rfl⟩ | ⟨rfl, rfl⟩ <;> rfl
    · intro t x hx
      rcases hz3 t x hx with ⟨rfl, rfl⟩ | ⟨rfl, rfl⟩ | ⟨rfl, rfl⟩ | ⟨rfl, rfl⟩
      · exact ⟨fun _ => Nat.le_refl _, (V1.out.ext (e3.trans e35)).ext e6⟩
      · exact ⟨fun _ => by show w.heap.size ≤ w.heap.size + 1; omega, (V2.out.ext (e3.trans e35)).ext e6⟩
      · exact ⟨fun _ => by show w.heap.size ≤ w3.heap.size; omega, (V4.ext e5).ext e6⟩
      · exact ⟨fun _ => by show w.heap.size ≤ w5.heap.size; omega, V5⟩
    · intro x y hx hy he
      obtain ⟨cs, hcs⟩ := Option.isSome_iff_exists.1 hx
      obtain ⟨ds, hds⟩ := Option.isSome_iff_exists.1 hy
      rcases hz3 x cs hcs with ⟨rfl, _⟩ | ⟨rfl, _⟩ | ⟨rfl, _⟩ | ⟨rfl, _⟩ <;> rcases hz3 y ds hds with ⟨rfl, _⟩ | ⟨rfl, _⟩ | ⟨rfl, _⟩ | ⟨rfl, _⟩ <;> first | rfl | (exfalso; revert he; simp; done) | (exfalso; revert he; simp; omega)
    · intro t x off hx
      rcases hz2 t _ hx with ⟨rfl, hh⟩ | ⟨rfl, hh⟩ | ⟨rfl, hh⟩ | ⟨rfl, hh⟩ <;> (injection hh with h1 h2; subst h1; rfl)
    · simp; omega
    · exact (eW.trans (e3.trans e35)).trans (Below.mono e6 (by omega))
    · intro x cs hx
      rcases hz3 x cs hx with ⟨rfl, rfl⟩ | ⟨rfl, rfl⟩ | ⟨rfl, rfl⟩ | ⟨rfl, rfl⟩ <;> decide
  · intro p hp
    simp only [sqI, List.mem_cons, List.not_mem_nil, or_false] at hp
    subst hp
    rw [hup]
    exact HL3.out
  · intro K' G' S' e T' E1 m' hm' hK' h1 hR' hG' hE' a' w' h4'
    cases e with
    | norm => cases h1
    | exit id => cases h1
    | ret =>
      obtain ⟨l', hl, rfl⟩ := Option.map_eq_some_iff.1 h1
      cases hR' with
      | leaf =>
        obtain ⟨β, v, r1, r2⟩ := resE_sound (cfg_ok tabRsq_ok) h4' (fn := Tryz.f101) (rs := Tryz.f101.results.toList) (by simp) (by decide +kernel) hl
        obtain ⟨β', hS⟩ := h4'
        refine ⟨hS.nd, v, r1, ?_⟩
        obtain ⟨vs, rfl, u1, r1, rfl, k1, u2, r2, rfl, k2, hn⟩ := r2
        simp only [tupAll] at hn
        subst hn
        have k2' := one_num.1 k2
        subst k2'
        have k1' := (one_int.1 k1).1
        refine ⟨u1, ?_, ?_, hS.bl⟩
        · show _ = Ending.returned (.tuple #[u1, .int .i64 (isqE (n : Int))])
          rw [show isqE (n : Int) = 0 from if_neg (by omega)]
          rfl
        · rw [show isq (n : Int) = (isqN n : Int) by unfold isq; rw [if_neg (by omega), Int.natAbs_natCast], ← hE]
          exact k1'

theorem open_iq {E : Env} {β : Nat → Nat} {w : World} {v : Value} {x u : IT} {l : Nat} (hx : (AV.tup [(true, [.int x l]), (false, [.n .i64 u])]).holds E β w v) : ∃ p, v = .tuple #[p, .int .i64 (u.den E)] ∧ IsInt w p (x.den E) := by
  obtain ⟨vs, rfl, u1, r1, rfl, k1, u2, r2, rfl, k2, hn⟩ := hx
  simp only [tupAll] at hn
  subst hn
  have k2' := one_num.1 k2
  subst k2'
  exact ⟨u1, rfl, (one_int.1 k1).1⟩
theorem rsqrt_any (w : World) (v : Value) (z : Int) (h : IsInt w v z) (l : Lim 100000 z) : Calls Tryz.prog 101 #[v] w (RetSqA z w) := by
  by_cases hz : 0 < z
  · exact rsqrt_pos w v z h l hz
  · by_cases h0 : z = 0
    · subst h0
      refine (fun_sound (C := cfgOf []) (E := zE []) (args := [.val true [.int (.lit 0) 0]]) (T := .leaf [(true, [.int (.lit 0) 0]), (false, [.n .i64 (.lit 0)])])
        mixed (cfg_ok .nil) no_asm Tryz.func101 (by decide +kernel) (by kernel_rfl) (by decide +kernel) rfl w [v] rfl ?_).mono ?_
      · intro i x hx
        match i, hx with
        | 0, hx => injection hx with hx; subst hx; exact ⟨fun _ => 0, v, rfl, one_int.2 ⟨h, lim_zero⟩⟩
      · rintro e w' ⟨β, u, rfl, hh, ex⟩
        obtain ⟨p, rfl, hp⟩ := open_iq hh
        exact ⟨p, rfl, hp, ex⟩
    · have hneg : z < 0 := by omega
      refine (fun_sound (C := cfgOf []) (E := zE [z]) (G := [(.lt (.var 0) (.lit 0), true)]) (args := [.val true [.int (.var 0) 100000]]) (T := .leaf [(true, [.int (.lit 0) 0]), (false, [.n .i64 (.lit 7)])])
        mixed (cfg_ok .nil) (asm_cons no_asm (by show decide (z < 0) = true; exact decide_eq_true hneg)) Tryz.func101 (by decide +kernel) (by kernel_rfl) (by decide +kernel) rfl w [v] rfl ?_).mono ?_
      · intro i x hx
        match i, hx with
        | 0, hx => injection hx with hx; subst hx; exact ⟨fun _ => 0, v, rfl, one_int.2 ⟨h, l⟩⟩
      · rintro e w' ⟨β, u, rfl, hh, ex⟩
        obtain ⟨p, rfl, hp⟩ := open_iq hh
        refine ⟨p, ?_, ?_, ex⟩
        · rw [show isqE z = 7 from if_pos hneg]; rfl
        · rw [show isq z = 0 from if_pos hneg]; exact hp

end Go.Proofs.YtifeacfljfmnpaaGreat
end

section
set_option maxRecDepth 100000
namespace Go.Proofs.YtifeacfljfmnpaaGreat
open Go.RowKit
def kSqRef : Con
  | [.val true [.int x l]], _ => if decide (l ≤ 100000) then some (.tup [(true, [.int (.a1 2 x) l]), (false, [.n .i64 (.a1 3 x)])]) else none
  | _, _ => none
theorem kSqRef_ok {E : Env} : ConOK Tryz.prog E 101 kSqRef := by
  refine ⟨?_, ?_, ⟨_, Tryz.func101, by decide +kernel, by kernel_rfl⟩⟩
  · intro args As r h hG β w vs hv hlen
    unfold kSqRef at h
    split at h
    · split at h
      · rename_i hlo
        injection h with h
        subst h
        simp only [decide_eq_true_iff] at hlo
        obtain ⟨v, rfl, h1⟩ := args1 hv hlen
        obtain ⟨i1, l1⟩ := one_int.1 h1
        refine (rsqrt_any w v _ i1 (l1.mono hlo)).mono ?_
        rintro e w' ⟨u, rfl, k1, ex⟩
        exact ⟨_, rfl, ⟨[u, .int .i64 _], rfl, u, _, rfl, one_int.2 ⟨k1, isq_lim l1⟩, _, _, rfl, one_num.2 rfl, rfl⟩, ex⟩
      · cases h
    · cases h
  · intro args As r h x off
    unfold kSqRef at h
    split at h
    · split at h
      · injection h with h; subst h; intro e; cases e
      · cases h
    · cases h
theorem open_ib' {E : Env} {β : Nat → Nat} {w : World} {v : Value} {x : IT} {k : Nat} {t : BT} (hx : (AV.tup [(true, [.int x k]), (false, [.b t])]).holds E β w v) : ∃ p, v = .tuple #[p, .bool (t.den E)] ∧ IsInt w p (x.den E) := by
  obtain ⟨vs, rfl, u1, r1, rfl, k1, u2, r2, rfl, k2, hn⟩ := hx
  simp only [tupAll] at hn
  subst hn
  have k2' := one_bool.1 k2
  subst k2'
  exact ⟨u1, rfl, (one_int.1 k1).1⟩
theorem perfect_calls (w : World) (v : Value) (z : Int) (h : IsInt w v z) (l : Lim 100000 z) :
    Calls Tryz.prog 141 #[v] w fun e w' => ∃ u, e = .returned (.tuple #[u, .bool (sqB z)]) ∧ IsInt w' u (isq z) ∧ Ext w w' := by
  refine (fun_sound (C := cfgOf ((101, kSqRef) :: (87, kIIb fun x y => .eq x y) :: tabR1)) (E := zE [z]) (args := [.val true [.int (.var 0) 100000]])
    (T := .ite (.eq (.a1 3 (.var 0)) (.lit 0)) (.leaf [(true, [.int (.a1 2 (.var 0)) 100000]), (false, [.b (.eq (.a2 2 (.a1 2 (.var 0)) (.a1 2 (.var 0))) (.var 0))])]) (.leaf [(true, [.int (.a1 2 (.var 0)) 100000]), (false, [.b (.lit false)])]))
    mixed (cfg_ok (.cons kSqRef_ok (.cons (kIIb_ok (fun x y => x == y) (fun _ _ => rfl) (fun w v1 v2 z1 z2 h1 h2 => (rsame_calls w v1 v2 z1 z2 h1 h2).mono (fun e w' h => ⟨by rw [h.1]; by_cases hz : z1 = z2 <;> simp [hz], h.2⟩)) ⟨_, Tryz.func87, by decide +kernel, by kernel_rfl⟩) tabR1_ok)))
    no_asm Tryz.func141 (by decide +kernel) (by kernel_rfl) (by decide +kernel) rfl w [v] rfl ?_).mono ?_
  · intro i x hx
    match i, hx with
    | 0, hx => injection hx with hx; subst hx; exact ⟨fun _ => 0, v, rfl, one_int.2 ⟨h, l⟩⟩
  · rintro e w' ⟨β, u, rfl, hh, ex⟩
    simp only [Tree.pick] at hh
    split at hh
    · rename_i hz
      obtain ⟨p, rfl, hp⟩ := open_ib' hh
      refine ⟨p, ?_, hp, ex⟩
      have hz' : (isqE z == 0) = true := hz
      have e1 : (BT.eq (.a2 2 (.a1 2 (.var 0)) (.a1 2 (.var 0))) (.var 0)).den (zE [z]) = (cmpZ (isq z * isq z) z == 0) := by
        show (isq z * isq z == z) = _
        rw [Bool.eq_iff_iff, beq_iff_eq, beq_iff_eq]
        rcases cmpZ_cases (isq z * isq z) z with ⟨h, e⟩ | ⟨h, e⟩ | ⟨h, e⟩ <;> rw [e] <;> omega
      rw [e1]
      unfold sqB
      rw [hz', Bool.true_and]
    · rename_i hz
      obtain ⟨p, rfl, hp⟩ := open_ib' hh
      have hz' : (isqE z == 0) = false := by
        cases hb : (isqE z == 0) with
        | false => rfl
        | true => exact absurd hb hz
      refine ⟨p, ?_, hp, ex⟩
      unfold sqB
      rw [hz', Bool.false_and]
      rfl
theorem kPf_ok {E : Env} : ConOK Tryz.prog E 141 kSqr := by
  refine ⟨?_, ?_, ⟨_, Tryz.func141, by decide +kernel, by kernel_rfl⟩⟩
  · intro args As r h hG β w vs hv hlen
    unfold kSqr at h
    split at h
    · split at h
      · rename_i hlo
        injection h with h
        subst h
        simp only [decide_eq_true_iff] at hlo
        obtain ⟨v, rfl, h1⟩ := args1 hv hlen
        obtain ⟨i1, l1⟩ := one_int.1 h1
        refine (perfect_calls w v _ i1 (l1.mono hlo)).mono ?_
        rintro e w' ⟨u, rfl, k1, ex⟩
        exact ⟨_, rfl, ⟨[u, .bool _], rfl, u, _, rfl, one_int.2 ⟨k1, isq_lim l1⟩, _, _, rfl, one_bool.2 rfl, rfl⟩, ex⟩
      · cases h
    · cases h
  · intro args As r h x off
    unfold kSqr at h
    split at h
    · split at h
      · injection h with h; subst h; intro e; cases e
      · cases h
    · cases h
theorem rsqrtQ_calls (w : World) (v : Value) (n d : Int) (h : IsPair w v n d) (l1 : Lim 100000 n) (l2 : Lim 100000 d) : Calls Tryz.prog 73 #[v] w (RetSqQ n d w) := by
  refine (fun_sound (C := cfgOf [(141, kSqr)]) (E := zE [n, d]) (args := [argQ 0]) (T := tSq)
    mixed (cfg_ok (.cons kPf_ok .nil)) no_asm Tryz.func73 (by decide +kernel) (by kernel_rfl) (by decide +kernel) rfl w [v] rfl ?_).mono ?_
  · intro i x hx
    match i, hx with
    | 0, hx => injection hx with hx; subst hx; exact ⟨fun _ => 0, v, rfl, argP_holds h l1 l2 rfl rfl⟩
  · rintro e w' ⟨β, u, rfl, hh, ex⟩
    have d0 : (BT.and (.eq (.a1 3 (.var 0)) (.lit 0)) (.eq (.a2 3 (.a2 2 (.a1 2 (.var 0)) (.a1 2 (.var 0))) (.var 0)) (.lit 0))).den (zE [n, d]) = sqB n := rfl
    have d1 : (BT.and (.eq (.a1 3 (.var 1)) (.lit 0)) (.eq (.a2 3 (.a2 2 (.a1 2 (.var 1)) (.a1 2 (.var 1))) (.var 1)) (.lit 0))).den (zE [n, d]) = sqB d := rfl
    unfold tSq at hh
    simp only [Tree.pick, d0, d1] at hh
    unfold RetSqQ sqN
    cases h0 : sqB n <;> cases h1 : sqB d <;> rw [h0, h1] at hh
    · obtain ⟨p, rfl, hp⟩ := open_qb hh
      exact ⟨p, rfl, hp, ex⟩
    · obtain ⟨p, rfl, hp⟩ := open_qb hh
      exact ⟨p, rfl, hp, ex⟩
    · obtain ⟨p, rfl, hp⟩ := open_qb hh
      exact ⟨p, rfl, hp, ex⟩
    · obtain ⟨p, rfl, hp⟩ := open_qb hh
      exact ⟨p, rfl, hp, ex⟩

theorem mul_self_parts (a : Rat) : (a * a).num = a.num * a.num ∧ (a * a).den = a.den * a.den := by
  have hc : (a.num * a.num).natAbs.Coprime (a.den * a.den) := by
    rw [Int.natAbs_mul]
    exact (Nat.Coprime.mul_left a.reduced a.reduced).symm.mul_left (Nat.Coprime.mul_left a.reduced a.reduced).symm |>.symm
  have hn : a.den * a.den ≠ 0 := Nat.mul_ne_zero a.den_nz a.den_nz
  have e : a * a = ⟨a.num * a.num, a.den * a.den, hn, hc⟩ := by
    rw [Rat.mk_eq_divInt]
    have h : Rat.divInt a.num a.den * Rat.divInt a.num a.den = a * a := by rw [Rat.num_divInt_den]
    rw [← h, Rat.divInt_mul_divInt, Int.natCast_mul]
  rw [e]
  exact ⟨rfl, rfl⟩
theorem isq_self (n : Int) : isq (n * n) = (n.natAbs : Int) ∧ sqB (n * n) = true := by
  have h0 : ¬ n * n < 0 := by
    have e : ((n.natAbs : Int)) * (n.natAbs : Int) = n * n := Int.natAbs_mul_self
    have h := Int.natCast_nonneg (n.natAbs * n.natAbs)
    rw [Int.natCast_mul, e] at h
    omega
  have e1 : isq (n * n) = (n.natAbs : Int) := by
    unfold isq
    rw [if_neg h0, Int.natAbs_mul]
    congr 1
    refine isqN_spec_eq ⟨Nat.le_refl _, ?_⟩
    exact Nat.mul_lt_mul'' (by omega) (by omega)
  refine ⟨e1, ?_⟩
  unfold sqB
  rw [e1]
  have e2 : ((n.natAbs : Int)) * (n.natAbs : Int) = n * n := Int.natAbs_mul_self
  rw [e2, cmpZ_eq rfl]
  unfold isqE
  rw [if_neg h0]
  rfl
theorem sqB_spec {z : Int} (h : sqB z = true) : isq z * isq z = z := by
  unfold sqB at h
  rw [Bool.and_eq_true, beq_iff_eq, beq_iff_eq] at h
  rcases cmpZ_cases (isq z * isq z) z with ⟨_, e⟩ | ⟨k, _⟩ | ⟨_, e⟩
  · have := h.2; omega
  · exact k
  · have := h.2; omega
theorem root_rat {a : Rat} (h : sqB a.num = true) (k : sqB (a.den : Int) = true) : ∃ s : Rat, s.num = isq a.num ∧ (s.den : Int) = isq (a.den : Int) := by
  have e1 := sqB_spec h
  have e2 := sqB_spec k
  have hd : (a.den : Int) ≠ 0 := den_ne a
  have hp : 0 ≤ isq (a.den : Int) := by unfold isq; split <;> omega
  have hne : (isq (a.den : Int)).natAbs ≠ 0 := by
    intro e
    have : isq (a.den : Int) = 0 := by omega
    rw [this] at e2
    omega
  have hc : (isq a.num).natAbs.Coprime (isq (a.den : Int)).natAbs := by
    have h1 : (isq a.num).natAbs * (isq a.num).natAbs = a.num.natAbs := by rw [← Int.natAbs_mul, e1]
    have h2 : (isq (a.den : Int)).natAbs * (isq (a.den : Int)).natAbs = a.den := by rw [← Int.natAbs_mul, e2, Int.natAbs_natCast]
    have hr := a.reduced
    rw [← h1, ← h2] at hr
    exact (Nat.Coprime.coprime_mul_left (Nat.Coprime.coprime_mul_left hr).symm).symm
  refine ⟨⟨isq a.num, (isq (a.den : Int)).natAbs, hne, hc⟩, rfl, ?_⟩
  show (((isq (a.den : Int)).natAbs : Nat) : Int) = _
  omega
end Go.Proofs.YtifeacfljfmnpaaGreat
end

section
set_option maxRecDepth 100000
namespace Go.Proofs.YtifeacfljfmnpaaGreat
open Go.RowKit
def Rd (b c : Rat) : Prop := (b = 0 ∧ c = 0) ∨ (b ≠ 0 ∧ 0 < c ∧ ∀ q : Rat, q * q ≠ c)
theorem sqz_sqB {z : Int} (h : 0 ≤ z) : sqz z = sqB z := by
  unfold sqz sqB isqE
  rw [if_neg (by omega)]
  show _ = (true && _)
  rw [Bool.true_and, Bool.eq_iff_iff, beq_iff_eq, beq_iff_eq]
  rcases cmpZ_cases (isq z * isq z) z with ⟨h, e⟩ | ⟨h, e⟩ | ⟨h, e⟩ <;> rw [e] <;> omega
theorem sq_of_root {c : Rat} (hc : 0 < c) (h : sqz c.num = true) (k : sqz (c.den : Int) = true) : ∃ q : Rat, q * q = c := by
  have hn := (num_pos_iff c).2 hc
  rw [sqz_sqB (by omega)] at h
  rw [sqz_sqB (by omega)] at k
  obtain ⟨s, s1, s2⟩ := root_rat h k
  refine ⟨s, ?_⟩
  obtain ⟨m1, m2⟩ := mul_self_parts s
  refine Rat.ext ?_ ?_
  · rw [m1, s1, sqB_spec h]
  · have : ((s.den * s.den : Nat) : Int) = (c.den : Int) := by rw [Int.natCast_mul, s2, sqB_spec k]
    rw [m2]; omega
theorem root_of_sq {c q : Rat} (h : q * q = c) : sqz c.num = true ∧ sqz (c.den : Int) = true := by
  obtain ⟨m1, m2⟩ := mul_self_parts q
  rw [h] at m1 m2
  obtain ⟨i1, j1⟩ := isq_self q.num
  obtain ⟨i2, j2⟩ := isq_self (q.den : Int)
  refine ⟨?_, ?_⟩
  · unfold sqz
    rw [m1, i1, beq_iff_eq]
    exact Int.natAbs_mul_self
  · unfold sqz
    rw [m2, Int.natCast_mul, i2, beq_iff_eq]
    exact Int.natAbs_mul_self
theorem Rdb_iff {b c : Rat} : Rdb b c = true ↔ Rd b c := by
  have n1 : b.num = 0 ↔ b = 0 := Rat.num_eq_zero
  have n2 : c.num = 0 ↔ c = 0 := Rat.num_eq_zero
  have n3 := num_pos_iff c
  unfold Rdb Rd
  simp only [Bool.or_eq_true, Bool.and_eq_true, beq_iff_eq, bne_iff_ne, decide_eq_true_iff, Bool.not_eq_true', Bool.and_eq_false_iff]
  constructor
  · rintro (⟨h1, h2⟩ | ⟨h1, h2, h3⟩)
    · exact .inl ⟨n1.1 h1, n2.1 h2⟩
    · refine .inr ⟨fun e => h1 (n1.2 e), n3.1 h2, fun q hq => ?_⟩
      obtain ⟨k1, k2⟩ := root_of_sq hq
      rcases h3 with h3 | h3
      · rw [k1] at h3; cases h3
      · rw [k2] at h3; cases h3
  · rintro (⟨h1, h2⟩ | ⟨h1, h2, h3⟩)
    · exact .inl ⟨n1.2 h1, n2.2 h2⟩
    · refine .inr ⟨fun e => h1 (n1.1 e), n3.2 h2, ?_⟩
      cases k1 : sqz c.num with
      | false => exact .inl rfl
      | true =>
        cases k2 : sqz (c.den : Int) with
        | false => exact .inr rfl
        | true =>
          obtain ⟨q, hq⟩ := sq_of_root h2 k1 k2
          exact absurd hq (h3 q)
def rC (b c : Rat) : Rat := if b.num = 0 then 0 else c
def rN (b c : Rat) : Rat := if b.num = 0 then c else 0
def sq2 (b c : Rat) : Rat := if b.num < 0 then - (b * b * c) else b * b * c
theorem rC_zero (c : Rat) : rC 0 c = 0 := rfl
theorem rC_ne {b : Rat} (h : b ≠ 0) (c : Rat) : rC b c = c := if_neg (fun e => h (Rat.num_eq_zero.1 e))
theorem rN_zero (c : Rat) : rN 0 c = c := rfl
theorem rN_ne {b : Rat} (h : b ≠ 0) (c : Rat) : rN b c = 0 := if_neg (fun e => h (Rat.num_eq_zero.1 e))
theorem sq_pos {b : Rat} (h : b ≠ 0) : 0 < b * b := by
  rcases (by grind : b < 0 ∨ 0 < b) with k | k
  · have := Rat.mul_pos (a := -b) (b := -b) (by grind) (by grind)
    grind
  · exact Rat.mul_pos k k
def nrm (a b c : Rat) : Rat := a * a - b * b * c
def sgN (a b c : Rat) : Int := if 0 < nrm a b c then sgQ a else if nrm a b c < 0 then sgQ b else 0
theorem sgN_pos {a b c : Rat} (h : 0 < nrm a b c) : sgN a b c = sgQ a := if_pos h
theorem sgN_neg {a b c : Rat} (h : nrm a b c < 0) : sgN a b c = sgQ b := by unfold sgN; rw [if_neg (by grind), if_pos h]
theorem sgN_zero {a b c : Rat} (h : nrm a b c = 0) : sgN a b c = 0 := by unfold sgN; rw [if_neg (by grind), if_neg (by grind)]
theorem nrm_ne {a b c : Rat} (R : Rd b c) (h : nrm a b c = 0) : a = 0 ∧ b = 0 := by
  unfold nrm at h
  rcases R with ⟨rfl, rfl⟩ | ⟨hb, hc, hs⟩
  · refine ⟨?_, rfl⟩
    refine Decidable.byContradiction fun ha => ?_
    have := sq_pos ha
    grind
  · exfalso
    refine hs (a / b) ?_
    have e : a / b * b = a := Rat.div_mul_cancel hb
    have e2 : (a / b * (a / b) - c) * (b * b) = 0 := by grind
    have hbb := sq_pos hb
    refine Decidable.byContradiction fun hn => ?_
    have hne : a / b * (a / b) - c ≠ 0 := by grind
    rcases Rat.mul_eq_zero.1 e2 with h1 | h1
    · exact hne h1
    · grind
theorem sgS_sgN {a b c : Rat} (R : Rd b c) : sgS a (sq2 b c) = sgN a b c := by
  have hcmp : ∀ (x s : Rat) (m : Int), 0 ≤ s → m = s.num → cmpZ (x.num * x.num * (s.den : Int)) (m * ((x.den : Int) * (x.den : Int))) = sgQ (x * x - s) := by
    intro x s m h0 hm
    obtain ⟨m1, m2⟩ := mul_self_parts x
    rw [← cmpQ_sub, m1, m2, hm, Int.natCast_mul]
  unfold sgS
  rcases R with ⟨rfl, rfl⟩ | ⟨hb, hc, hs⟩
  · have : sq2 0 0 = 0 := by unfold sq2; rw [if_neg (by decide)]; grind
    rw [this, if_pos (show (0 : Rat).num = 0 from rfl)]
    show sgQ a = _
    by_cases ha : a = 0
    · subst ha; rw [sgN_zero (by unfold nrm; grind)]; rfl
    · rw [sgN_pos (by have := sq_pos ha; unfold nrm; grind)]
  · have hbb := sq_pos hb
    have hbc := Rat.mul_pos hbb hc
    have hnz : (sq2 b c).num ≠ 0 := by
      rw [ne_eq, Rat.num_eq_zero]
      unfold sq2
      split <;> grind
    have hsg : cmpZ (sq2 b c).num 0 = sgQ b := by
      show sgQ (sq2 b c) = _
      unfold sq2
      have hn := num_pos_iff b
      have hn2 : b.num = 0 ↔ b = 0 := Rat.num_eq_zero
      split
      · rw [sgQ_neg' (by grind), sgQ_neg' (by grind)]
      · rw [sgQ_pos hbc, sgQ_pos (by grind)]
    have habs : ∃ s : Rat, s = b * b * c ∧ ((sq2 b c).num.natAbs : Int) = s.num ∧ ((sq2 b c).den : Int) = (s.den : Int) := by
      refine ⟨_, rfl, ?_, ?_⟩
      · have := (num_pos_iff (b * b * c)).2 hbc
        unfold sq2
        split
        · rw [Rat.neg_num]; omega
        · omega
      · unfold sq2
        split
        · rw [Rat.neg_den]
        · rfl
    obtain ⟨s, hs1, hs2, hs3⟩ := habs
    have hab := hcmp a s _ (by rw [hs1]; grind) hs2
    rw [if_neg hnz, hsg, hs3, hab]
    show (if sgQ a = -sgQ b then sgQ a * _ else sgQ b) = _
    have hN : nrm a b c = a * a - s := by rw [hs1]; rfl
    have hne : nrm a b c ≠ 0 := fun e => hb (nrm_ne (.inr ⟨hb, hc, hs⟩) e).2
    rw [← hN]
    have c1 := sgQ_cases a
    have c2 := sgQ_cases b
    rcases (by grind : nrm a b c < 0 ∨ 0 < nrm a b c) with n | n
    · rw [sgN_neg n, sgQ_neg' n]
      split
      · omega
      · rfl
    · rw [sgN_pos n, sgQ_pos n]
      split
      · omega
      · rename_i hd
        by_cases ha : a = 0
        · subst ha; unfold nrm at n; grind
        · have ha' : sgQ a ≠ 0 := by rcases c1 with ⟨k, e⟩ | ⟨k, e⟩ | ⟨k, e⟩ <;> first | (rw [e]; decide) | grind
          have hb' : sgQ b ≠ 0 := by rcases c2 with ⟨k, e⟩ | ⟨k, e⟩ | ⟨k, e⟩ <;> first | (rw [e]; decide) | grind
          omega
end Go.Proofs.YtifeacfljfmnpaaGreat
end

section
set_option maxRecDepth 100000
namespace Go.Proofs.YtifeacfljfmnpaaGreat
open Go.RowKit
theorem castQ_mul (x y : Int) : ((x * y : Int) : Rat) = (x : Rat) * (y : Rat) := Rat.intCast_mul x y
end Go.Proofs.YtifeacfljfmnpaaGreat
end

section
set_option maxRecDepth 100000
namespace Go.Proofs.YtifeacfljfmnpaaGreat
open Go.RowKit
def kInl (C : Cfg) (fn : Func) : Con := fun args G =>
  if args.all noPtr && (decide (args.length ≤ fn.ntmps) && decide (fn.results.toList.length ≤ 4)) then
    match funE C fn G args with
    | some (.leaf l) => some (toAV l)
    | _ => none
  else none
def kInlN (C : Cfg) (fn : Func) (args : List AV) (G : Asm) : Option BT :=
  match funE C fn G args with
  | some (.ite b _ _) => some b
  | _ => none
theorem toAV_nptr {l : List (Bool × List Chunk)} {x off : Nat} : toAV l ≠ .ptr x off := by
  unfold toAV
  split <;> (intro h; cases h)
theorem toAV_beta {E : Env} {β β' : Nat → Nat} {w : World} {l : List (Bool × List Chunk)} {v : Value} (h : (toAV l).holds E β w v) : (toAV l).holds E β' w v := by
  unfold toAV at *
  split at h <;> exact h
structure InlOK (P : Program) (l : List (Nat × Func)) : Prop where
  all : ∀ p ∈ l, P.funcs[p.1]? = some p.2 ∧ p.2.name ≠ "runtime.NumGoroutine" ∧ p.2.body.isNone = false
theorem InlOK.nil {P : Program} : InlOK P [] := ⟨fun _ h => by cases h⟩
theorem InlOK.cons {P : Program} {f : Nat} {fn : Func} {l : List (Nat × Func)} (h : P.funcs[f]? = some fn) (h1 : fn.name ≠ "runtime.NumGoroutine") (h2 : fn.body.isNone = false) (k : InlOK P l) : InlOK P ((f, fn) :: l) := ⟨fun d hd => by
  rcases List.mem_cons.1 hd with rfl | hd
  · exact ⟨h, h1, h2⟩
  · exact k.all d hd⟩
theorem kInl_ok {P : Program} (hm : P.follows .mixedOrders = true) {E : Env} {C : Cfg} (hC : CfgOK P E C) (hw : ∀ w, C.wok w) {f : Nat} {fn : Func} (hf : P.funcs[f]? = some fn) (h1 : fn.name ≠ "runtime.NumGoroutine") (h2 : fn.body.isNone = false) : ConOK P E f (kInl C fn) := by
  refine ⟨?_, ?_, fn, hf, h1, h2⟩
  · intro args G r h hG β w vs hv hlen
    unfold kInl at h
    split at h
    · rename_i hc
      simp only [Bool.and_eq_true, decide_eq_true_iff] at hc
      split at h
      · rename_i l hl
        injection h with h
        subst h
        refine (fun_sound hm hC hG hf hc.2.2 hl hc.2.1 hc.1 w vs hlen (fun i x hx => ⟨β, hv i x hx⟩) (fun w' _ => hw w')).mono ?_
        rintro e w' ⟨β', v, rfl, hh, ex⟩
        exact ⟨v, rfl, toAV_beta hh, ex⟩
      · cases h
    · cases h
  · intro args G r h x off
    unfold kInl at h
    split at h
    · split at h
      · injection h with h; subst h; exact toAV_nptr
      · cases h
    · cases h
def cfgI (C C0 : Cfg) (l : List (Nat × Func)) : Cfg :=
  { C with
    calls := fun f args M G => match findR l f with
      | some fn => kInl C0 fn args G
      | none => C.calls f args M G
    need := fun f args M G => match findR l f with
      | some fn => kInlN C0 fn args G
      | none => C.need f args M G }
theorem cfgI_ok {P : Program} (hm : P.follows .mixedOrders = true) {E : Env} {C C0 : Cfg} {l : List (Nat × Func)} (h : CfgOK P E C) (h0 : CfgOK P E C0) (hw : ∀ w, C0.wok w) (hl : InlOK P l) : CfgOK P E (cfgI C C0 l) := by
  refine ⟨h.zero, h.ag, h.fld, h.flds, h.bool, h.row, h.arr, ?_, ?_, ?_, h.slc, h.strT, h.cnv, h.apd, h.eq2⟩
  · intro f args M G r hr hG β w vs hwk hv hlen hmem
    simp only [cfgI] at hr
    split at hr
    · rename_i fn hfn
      obtain ⟨k1, k2, k3⟩ := hl.all _ (findR_spec hfn)
      exact (kInl_ok hm h0 hw k1 k2 k3).calls args G r hr hG β w vs hv hlen
    · exact h.calls f args M G r hr hG β w vs hwk hv hlen hmem
  · intro f args M G r hr x off
    simp only [cfgI] at hr
    split at hr
    · rename_i fn hfn
      obtain ⟨k1, k2, k3⟩ := hl.all _ (findR_spec hfn)
      exact (kInl_ok hm h0 hw k1 k2 k3).nptr args G r hr x off
    · exact h.nptr f args M G r hr x off
  · intro f args M G r hr
    simp only [cfgI] at hr
    split at hr
    · rename_i fn hfn
      obtain ⟨k1, k2, k3⟩ := hl.all _ (findR_spec hfn)
      exact ⟨fn, k1, k2, k3⟩
    · exact h.body f args M G r hr
theorem TabOK.app {P : Program} {E : Env} {l m : List (Nat × Con)} (h : TabOK P E l) (k : TabOK P E m) : TabOK P E (l ++ m) := ⟨fun p hp => by
  rcases List.mem_append.1 hp with hp | hp
  · exact h.all p hp
  · exact k.all p hp⟩
def cfgT (tab : List (Nat × Con)) (l : List (Nat × Func)) : Cfg := cfgI (cfgOf tab) (cfgOf tab) l
def cfgT2 (tab : List (Nat × Con)) (l l2 : List (Nat × Func)) : Cfg := cfgI (cfgT tab l) (cfgT tab l) l2
def cfgT3 (tab : List (Nat × Con)) (l l2 l3 : List (Nat × Func)) : Cfg := cfgI (cfgT2 tab l l2) (cfgT2 tab l l2) l3
theorem cfgT_ok {E : Env} {tab : List (Nat × Con)} {l : List (Nat × Func)} (hm : Tryz.prog.follows .mixedOrders = true) (h : TabOK Tryz.prog E tab) (hl : InlOK Tryz.prog l) : CfgOK Tryz.prog E (cfgT tab l) := cfgI_ok hm (cfg_ok h) (cfg_ok h) (fun _ => trivial) hl
theorem cfgT2_ok {E : Env} {tab : List (Nat × Con)} {l l2 : List (Nat × Func)} (hm : Tryz.prog.follows .mixedOrders = true) (h : TabOK Tryz.prog E tab) (hl : InlOK Tryz.prog l) (hl2 : InlOK Tryz.prog l2) : CfgOK Tryz.prog E (cfgT2 tab l l2) := cfgI_ok hm (cfgT_ok hm h hl) (cfgT_ok hm h hl) (fun _ => trivial) hl2
theorem cfgT3_ok {E : Env} {tab : List (Nat × Con)} {l l2 l3 : List (Nat × Func)} (hm : Tryz.prog.follows .mixedOrders = true) (h : TabOK Tryz.prog E tab) (hl : InlOK Tryz.prog l) (hl2 : InlOK Tryz.prog l2) (hl3 : InlOK Tryz.prog l3) : CfgOK Tryz.prog E (cfgT3 tab l l2 l3) := cfgI_ok hm (cfgT2_ok hm h hl hl2) (cfgT2_ok hm h hl hl2) (fun _ => trivial) hl3
end Go.Proofs.YtifeacfljfmnpaaGreat
end

section
set_option maxRecDepth 100000
namespace Go.Proofs.YtifeacfljfmnpaaGreat
open Go.RowKit
def IsRoot (w : World) (v : Value) (a b c : Rat) : Prop := ∃ x y z : List Value, v = .agg (x ++ (y ++ z)).toArray ∧ IsRat w (.agg x.toArray) a ∧ IsRat w (.agg y.toArray) b ∧ IsRat w (.agg z.toArray) c
def LimR (m : Nat) (a b c : Rat) : Prop := LimQ m a ∧ LimQ m b ∧ LimQ m c
theorem LimQ.mono {l m : Nat} {q : Rat} (h : LimQ l q) (k : l ≤ m) : LimQ m q := ⟨h.1.mono k, h.2.mono k⟩
theorem LimR.mono {l m : Nat} {a b c : Rat} (h : LimR l a b c) (k : l ≤ m) : LimR m a b c := ⟨h.1.mono k, h.2.1.mono k, h.2.2.mono k⟩
def rt (A B C : IT2) (l : Nat) : List Chunk := [.int A.1 l, .int A.2 l, .int B.1 l, .int B.2 l, .int C.1 l, .int C.2 l]
theorem two_chunks {E : Env} {w : World} {A : IT2} {a : Rat} (hA : RepQ E A a) {l m : Nat} {cs : List Chunk} {vs : List Value} :
    chunks E w (.int A.1 l :: .int A.2 m :: cs) vs ↔ ∃ x r, vs = x ++ r ∧ (IsRat w (.agg x.toArray) a ∧ Lim l a.num ∧ Lim m (a.den : Int)) ∧ chunks E w cs r := by
  constructor
  · rintro ⟨u0, r0, rfl, ⟨x0, y0, rfl, i0, m0⟩, u1, r1, rfl, ⟨x1, y1, rfl, i1, m1⟩, h⟩
    rw [hA.1] at i0 m0
    rw [hA.2] at i1 m1
    exact ⟨[x0, y0, x1, y1], r1, rfl, ⟨⟨x0, y0, x1, y1, rfl, i0, i1⟩, m0, m1⟩, h⟩
  · rintro ⟨x, r, rfl, ⟨⟨x0, y0, x1, y1, hx, i0, i1⟩, m0, m1⟩, h⟩
    injection hx with hx
    have hx' : x = [x0, y0, x1, y1] := congrArg Array.toList hx
    subst hx'
    refine ⟨[x0, y0], [x1, y1] ++ r, rfl, ⟨x0, y0, rfl, ?_, ?_⟩, [x1, y1], r, rfl, ⟨x1, y1, rfl, ?_, ?_⟩, h⟩
    · rw [hA.1]; exact i0
    · rw [hA.1]; exact m0
    · rw [hA.2]; exact i1
    · rw [hA.2]; exact m1
theorem one_root {E : Env} {w : World} {A B C : IT2} {a b c : Rat} (hA : RepQ E A a) (hB : RepQ E B b) (hC : RepQ E C c) {l1 l2 l3 l4 l5 l6 : Nat} {v : Value} :
    one E w (true, [.int A.1 l1, .int A.2 l2, .int B.1 l3, .int B.2 l4, .int C.1 l5, .int C.2 l6]) v ↔ IsRoot w v a b c ∧ ((Lim l1 a.num ∧ Lim l2 (a.den : Int)) ∧ (Lim l3 b.num ∧ Lim l4 (b.den : Int)) ∧ (Lim l5 c.num ∧ Lim l6 (c.den : Int))) := by
  constructor
  · rintro ⟨vs, rfl, h⟩
    obtain ⟨x, r, rfl, ⟨h1, m1⟩, h⟩ := (two_chunks hA).1 h
    obtain ⟨y, r, rfl, ⟨h2, m2⟩, h⟩ := (two_chunks hB).1 h
    obtain ⟨z, r, rfl, ⟨h3, m3⟩, h⟩ := (two_chunks hC).1 h
    simp only [chunks] at h
    subst h
    rw [List.append_nil]
    exact ⟨⟨x, y, z, rfl, h1, h2, h3⟩, m1, m2, m3⟩
  · rintro ⟨⟨x, y, z, rfl, h1, h2, h3⟩, m1, m2, m3⟩
    exact ⟨x ++ (y ++ z), rfl, (two_chunks hA).2 ⟨x, y ++ z, rfl, ⟨h1, m1⟩, (two_chunks hB).2 ⟨y, z, rfl, ⟨h2, m2⟩, (two_chunks hC).2 ⟨z, [], by simp, ⟨h3, m3⟩, rfl⟩⟩⟩⟩
theorem one_rt {E : Env} {w : World} {A B C : IT2} {a b c : Rat} (hA : RepQ E A a) (hB : RepQ E B b) (hC : RepQ E C c) {l : Nat} {v : Value} : one E w (true, rt A B C l) v ↔ IsRoot w v a b c ∧ LimR l a b c := one_root hA hB hC
theorem one_q {E : Env} {w : World} {A : IT2} {a : Rat} (hA : RepQ E A a) {l m : Nat} {v : Value} : one E w (true, [.int A.1 l, .int A.2 m]) v ↔ IsRat w v a ∧ Lim l a.num ∧ Lim m (a.den : Int) := by
  constructor
  · rintro ⟨vs, rfl, h⟩
    obtain ⟨x, r, rfl, ⟨h1, m1⟩, h⟩ := (two_chunks hA).1 h
    simp only [chunks] at h
    subst h
    rw [List.append_nil]
    exact ⟨h1, m1⟩
  · rintro ⟨⟨x0, y0, x1, y1, rfl, i0, i1⟩, m1⟩
    exact ⟨[x0, y0, x1, y1], rfl, (two_chunks hA).2 ⟨[x0, y0, x1, y1], [], rfl, ⟨⟨x0, y0, x1, y1, rfl, i0, i1⟩, m1⟩, rfl⟩⟩
def rtOf : AV → Option ((IT2 × IT2 × IT2) × Nat)
  | .val true [.int x1 l1, .int x2 l2, .int x3 l3, .int x4 l4, .int x5 l5, .int x6 l6] =>
    if canon x1 x2 && (canon x3 x4 && canon x5 x6) then some (((x1, x2), (x3, x4), (x5, x6)), max l1 (max l2 (max l3 (max l4 (max l5 l6))))) else none
  | _ => none
theorem rtOf_spec {E : Env} (hE : QEnv E) {β : Nat → Nat} {w : World} {x : AV} {v : Value} {A B C : IT2} {m : Nat} (h : rtOf x = some ((A, B, C), m)) (hx : x.holds E β w v) :
    ∃ a b c, RepQ E A a ∧ RepQ E B b ∧ RepQ E C c ∧ IsRoot w v a b c ∧ LimR m a b c := by
  unfold rtOf at h
  split at h
  · rename_i x1 l1 x2 l2 x3 l3 x4 l4 x5 l5 x6 l6
    split at h
    · rename_i hc
      simp only [Bool.and_eq_true] at hc
      injection h with h
      injection h with h hm
      injection h with h1 h
      injection h with h2 h3
      subst h1 h2 h3 hm
      obtain ⟨a, a1, a2⟩ := canon_spec hE hc.1
      obtain ⟨b, b1, b2⟩ := canon_spec hE hc.2.1
      obtain ⟨c, c1, c2⟩ := canon_spec hE hc.2.2
      obtain ⟨hr, ⟨m1, m2⟩, ⟨m3, m4⟩, m5, m6⟩ := (one_root (A := (x1, x2)) (B := (x3, x4)) (C := (x5, x6)) ⟨a1, a2⟩ ⟨b1, b2⟩ ⟨c1, c2⟩).1 hx
      exact ⟨a, b, c, ⟨a1, a2⟩, ⟨b1, b2⟩, ⟨c1, c2⟩, hr, ⟨m1.mono (by omega), m2.mono (by omega)⟩, ⟨m3.mono (by omega), m4.mono (by omega)⟩, m5.mono (by omega), m6.mono (by omega)⟩
    · cases h
  · cases h
def qOf : AV → Option (IT2 × Nat)
  | .val true [.int x1 l1, .int x2 l2] => if canon x1 x2 then some ((x1, x2), max l1 l2) else none
  | _ => none
theorem qOf_spec {E : Env} (hE : QEnv E) {β : Nat → Nat} {w : World} {x : AV} {v : Value} {A : IT2} {m : Nat} (h : qOf x = some (A, m)) (hx : x.holds E β w v) : ∃ a, RepQ E A a ∧ IsRat w v a ∧ LimQ m a := by
  unfold qOf at h
  split at h
  · rename_i x1 l1 x2 l2
    split at h
    · rename_i hc
      injection h with h
      injection h with h1 hm
      subst h1 hm
      obtain ⟨a, a1, a2⟩ := canon_spec hE hc
      obtain ⟨hr, m1, m2⟩ := (one_q (A := (x1, x2)) ⟨a1, a2⟩).1 hx
      exact ⟨a, ⟨a1, a2⟩, hr, m1.mono (by omega), m2.mono (by omega)⟩
    · cases h
  · cases h
def rdT (B C : IT2) : BT := .eq (.a4 20 B.1 B.2 C.1 C.2) (.lit 1)
theorem rdT_den {E : Env} {B C : IT2} {b c : Rat} (hB : RepQ E B b) (hC : RepQ E C c) : (rdT B C).den E = Rdb b c := by
  have r : RepQ E (qop 10 B C) (ratF 10 b c) := rep_op (f := 10) (by omega) hB hC
  show ((qop 10 B C).1.den E == 1) = _
  rw [r.1]
  show ((if Rdb b c = true then (1 : Rat) else 0).num == 1) = _
  cases Rdb b c <;> rfl
theorem rdT_spec {E : Env} {G : Asm} (hG : G.holds E) {B C : IT2} {b c : Rat} (hB : RepQ E B b) (hC : RepQ E C c) (h : ((rdT B C).ev G == some true) = true) : Rd b c := by
  rw [beq_iff_eq] at h
  have := BT.ev_spec hG h
  rw [rdT_den hB hC] at this
  exact Rdb_iff.1 this
def nokT (B C B' C' : IT2) : BT := .and (.not (.eq B.1 (.lit 0))) (.and (.not (.eq B'.1 (.lit 0))) (.not (.and (.eq C.1 C'.1) (.eq C.2 C'.2))))
def Ok (b c b' c' : Rat) : Prop := b = 0 ∨ b' = 0 ∨ c = c'
def cmT (B C C' : IT2) : IT2 := qop 0 (qop 5 B C) (qop 6 B C')
def cm (b c c' : Rat) : Rat := rC b c + rN b c'
theorem cm_zero (c c' : Rat) : cm 0 c c' = c' := by unfold cm; rw [rC_zero, rN_zero]; grind
theorem cm_ne {b : Rat} (h : b ≠ 0) (c c' : Rat) : cm b c c' = c := by unfold cm; rw [rC_ne h, rN_ne h]; grind
theorem rep_rC {E : Env} {B C : IT2} {b c : Rat} (hB : RepQ E B b) (hC : RepQ E C c) : RepQ E (qop 5 B C) (rC b c) := rep_op (f := 5) (by omega) hB hC
theorem rep_rN {E : Env} {B C : IT2} {b c : Rat} (hB : RepQ E B b) (hC : RepQ E C c) : RepQ E (qop 6 B C) (rN b c) := rep_op (f := 6) (by omega) hB hC
theorem rep_cm {E : Env} {B C C' : IT2} {b c c' : Rat} (hB : RepQ E B b) (hC : RepQ E C c) (hC' : RepQ E C' c') : RepQ E (cmT B C C') (cm b c c') := rep_op (f := 0) (by omega) (rep_rC hB hC) (rep_rN hB hC')
theorem rep_add {E : Env} {p q : IT2} {a b : Rat} (hp : RepQ E p a) (hq : RepQ E q b) : RepQ E (qop 0 p q) (a + b) := rep_op (f := 0) (by omega) hp hq
theorem rep_sub {E : Env} {p q : IT2} {a b : Rat} (hp : RepQ E p a) (hq : RepQ E q b) : RepQ E (qop 1 p q) (a - b) := rep_op (f := 1) (by omega) hp hq
theorem rep_mul {E : Env} {p q : IT2} {a b : Rat} (hp : RepQ E p a) (hq : RepQ E q b) : RepQ E (qop 2 p q) (a * b) := rep_op (f := 2) (by omega) hp hq
def qng (p : IT2) : IT2 := (.a1 0 p.1, p.2)
theorem rep_ng {E : Env} {p : IT2} {a : Rat} (h : RepQ E p a) : RepQ E (qng p) (-a) := by
  constructor
  · show - p.1.den E = _
    rw [h.1, Rat.neg_num]
  · show p.2.den E = _
    rw [h.2, Rat.neg_den]
theorem rep_0 {E : Env} : RepQ E (.lit 0, .lit 1) (0 : Rat) := ⟨rfl, rfl⟩
theorem LimQ.zero {m : Nat} (h : 1 ≤ m) : LimQ m 0 := ⟨lim_zero, (lim1 (z := 1) (by decide)).mono h⟩
theorem LimQ.mulQ {m : Nat} {a b : Rat} (h : LimQ m a) (k : LimQ m b) : LimQ (4 * m + 1) (a * b) := by
  obtain ⟨h1, h2⟩ := LimQ.mul h.1 h.2 k.1 k.2
  exact ⟨h1.mono (by omega), h2.mono (by omega)⟩
theorem LimQ.addQ {m : Nat} {a b : Rat} (h : LimQ m a) (k : LimQ m b) : LimQ (4 * m + 1) (a + b) := by
  obtain ⟨h1, h2⟩ := LimQ.add h.1 h.2 k.1 k.2
  exact ⟨h1.mono (by omega), h2.mono (by omega)⟩
theorem LimQ.negQ {m : Nat} {a : Rat} (h : LimQ m a) : LimQ m (-a) := by
  refine ⟨?_, ?_⟩
  · rw [Rat.neg_num]; exact h.1.natAbs_le (by omega)
  · rw [Rat.neg_den]; exact h.2
theorem LimQ.rC {m : Nat} {b c : Rat} (h : LimQ m c) (k : 1 ≤ m) : LimQ m (rC b c) := by
  unfold Proofs.YtifeacfljfmnpaaGreat.rC
  split
  · exact LimQ.zero k
  · exact h
theorem LimQ.cm {m : Nat} {b c c' : Rat} (h : LimQ m c) (h' : LimQ m c') : LimQ m (cm b c c') := by
  by_cases hb : b = 0
  · subst hb; rw [cm_zero]; exact h'
  · rw [cm_ne hb]; exact h
end Go.Proofs.YtifeacfljfmnpaaGreat
end

section
set_option maxRecDepth 100000
namespace Go.Proofs.YtifeacfljfmnpaaGreat
end Go.Proofs.YtifeacfljfmnpaaGreat
end

section
set_option maxRecDepth 100000
namespace Go.Proofs.YtifeacfljfmnpaaGreat
open Go.RowKit
theorem rfloor_rat_calls (w : World) (v : Value) (a : Rat) (h : IsRat w v a) (l : LimQ 100000 a) : Calls Tryz.prog 102 #[v] w (Ret (fun v w' => IsInt w' v a.floor) w) := by
  refine (walkQ1 (T := .leaf [(true, [.int (.a2 4 (.var 0) (.var 1)) 100000])]) (tab := [(164, kDM)])
    (.cons (kDMg_ok (fun w v u a b h k l1 l2 => rdivMod_fn w v u a b h k l1 l2) ⟨_, Tryz.func164, by decide +kernel, by kernel_rfl⟩) .nil)
    Tryz.func102 (by kernel_rfl) (by decide +kernel) (by decide +kernel) h l).mono ?_
  rintro e w' ⟨β, u, rfl, hh, ex⟩
  refine ⟨u, rfl, ?_, ex⟩
  have k := (one_int.1 hh).1
  have e1 : (IT.a2 4 (.var 0) (.var 1)).den (qE [a]) = a.floor := by
    show dq a.num (a.den : Int) = _
    rw [dq_pos (by have := a.den_pos; omega), ← Rat.floor_def]
  rw [e1] at k
  exact k
end Go.Proofs.YtifeacfljfmnpaaGreat
end

section
set_option maxRecDepth 100000
namespace Go.Proofs.YtifeacfljfmnpaaGreat
open Go.RowKit
def kFlR : Con
  | [.val true [.int x l, .int y m]], _ => if canon x y && (ql l && ql m) then some (.val true [.int (.a2 4 x y) l]) else none
  | _, _ => none
theorem kFlR_ok {E : Env} (hE : QEnv E) : ConOK Tryz.prog E 102 kFlR := by
  refine ⟨?_, ?_, ⟨_, Tryz.func102, by decide +kernel, by kernel_rfl⟩⟩
  · intro args As r h hG β w vs hv hlen
    unfold kFlR at h
    split at h
    · split at h
      · rename_i hm
        simp only [ql, Bool.and_eq_true, decide_eq_true_iff] at hm
        obtain ⟨c1, b1, b2⟩ := hm
        injection h with h
        subst h
        obtain ⟨v, rfl, h1⟩ := args1 hv hlen
        obtain ⟨q, _, e1, e2, hq, m1, m2⟩ := one_ratQ hE c1 h1
        have hd : dq q.num (q.den : Int) = q.floor := by rw [dq_pos (by have := q.den_pos; omega), ← Rat.floor_def]
        refine (rfloor_rat_calls w v q hq ⟨m1.mono b1, m2.mono b2⟩).mono ?_
        rintro e w' ⟨u, rfl, hI, ex⟩
        refine ⟨_, rfl, one_int.2 ⟨?_, ?_⟩, ex⟩
        · show IsInt w' u (dq _ _)
          rw [e1, e2, hd]; exact hI
        · show Lim _ (dq _ _)
          rw [e1, e2]; exact m1.natAbs_le (dq_abs _ _)
      · cases h
    · cases h
  · intro args As r h x off
    unfold kFlR at h
    split at h
    · split at h
      · injection h with h; subst h; intro e; cases e
      · cases h
    · cases h
end Go.Proofs.YtifeacfljfmnpaaGreat
end

section
set_option maxRecDepth 100000
namespace Go.Proofs.YtifeacfljfmnpaaGreat
open Go.RowKit
noncomputable def tabB : List (Nat × Con) := (224, kSqI) :: (101, kSqRef) :: (102, kFlR) :: (209, kFlQ) :: (87, kIIb fun x y => .eq x y) :: (tabInt ++ (tabR2 ++ tabT))
theorem tabB_ok {E : Env} (hE : QEnv E) : TabOK Tryz.prog E tabB := by
  refine .cons kSqI_ok (.cons kSqRef_ok ?_)
  refine .cons (kFlR_ok hE) ?_ 
  exact .cons (kFlQ_ok hE) (.cons (kIIb_ok (fun x y => x == y) (fun _ _ => rfl) (fun w v1 v2 z1 z2 h1 h2 => (rsame_calls w v1 v2 z1 z2 h1 h2).mono (fun e w' h => ⟨by rw [h.1]; by_cases hz : z1 = z2 <;> simp [hz], h.2⟩)) ⟨_, Tryz.func87, by decide +kernel, by kernel_rfl⟩) (TabOK.app tabInt_ok (TabOK.app tabR2_ok (tabT_ok hE))))
noncomputable def pL1 : List (Nat × Func) := (244, Tryz.f244) :: (142, Tryz.f142) :: (212, Tryz.f212) :: (240, Tryz.f240) :: (203, Tryz.f203) :: (225, Tryz.f225) ::  (185, Tryz.f185) :: (186, Tryz.f186) :: []
noncomputable def pL2 : List (Nat × Func) := (213, Tryz.f213) :: (202, Tryz.f202) :: (210, Tryz.f210) :: (178, Tryz.f178) :: (133, Tryz.f133) :: []
noncomputable def pL3 : List (Nat × Func) := (158, Tryz.f158) ::  (179, Tryz.f179) :: []
theorem pL1_ok : InlOK Tryz.prog pL1 :=
  .cons Tryz.func244 (by decide +kernel) (by kernel_rfl) <|
  .cons Tryz.func142 (by decide +kernel) (by kernel_rfl) <|
  .cons Tryz.func212 (by decide +kernel) (by kernel_rfl) <|
  .cons Tryz.func240 (by decide +kernel) (by kernel_rfl) <|
  .cons Tryz.func203 (by decide +kernel) (by kernel_rfl) <|
  .cons Tryz.func225 (by decide +kernel) (by kernel_rfl) <|
  
  .cons Tryz.func185 (by decide +kernel) (by kernel_rfl) <|
  .cons Tryz.func186 (by decide +kernel) (by kernel_rfl) <| .nil
theorem pL2_ok : InlOK Tryz.prog pL2 :=
  .cons Tryz.func213 (by decide +kernel) (by kernel_rfl) <|
  .cons Tryz.func202 (by decide +kernel) (by kernel_rfl) <|
  .cons Tryz.func210 (by decide +kernel) (by kernel_rfl) <|
  .cons Tryz.func178 (by decide +kernel) (by kernel_rfl) <|
  .cons Tryz.func133 (by decide +kernel) (by kernel_rfl) <| .nil
theorem pL3_ok : InlOK Tryz.prog pL3 :=
  .cons Tryz.func158 (by decide +kernel) (by kernel_rfl) <|
  
  .cons Tryz.func179 (by decide +kernel) (by kernel_rfl) <| .nil
noncomputable def cR (tab : List (Nat × Con)) : Cfg := cfgT3 (tab ++ tabB) pL1 pL2 pL3
theorem cR_ok {E : Env} (hE : QEnv E) {tab : List (Nat × Con)} (h : TabOK Tryz.prog E tab) : CfgOK Tryz.prog E (cR tab) := cfgT3_ok mixed (TabOK.app h (tabB_ok hE)) pL1_ok pL2_ok pL3_ok
def aRl (i l : Nat) : AV := .val true (rt (qv i) (qv (i + 1)) (qv (i + 2)) l)
def aQl (i l : Nat) : AV := .val true [.int (qv i).1 l, .int (qv i).2 l]
def aR (i : Nat) : AV := aRl i 3000
theorem aRl_holds {l : List Rat} {β : Nat → Nat} {w : World} {v : Value} {i m : Nat} (h : IsRoot w v (l.getD i 0) (l.getD (i + 1) 0) (l.getD (i + 2) 0)) (k : LimR m (l.getD i 0) (l.getD (i + 1) 0) (l.getD (i + 2) 0)) : (aRl i m).holds (qE l) β w v := (one_rt rep_v rep_v rep_v).2 ⟨h, k⟩
theorem aQl_holds {l : List Rat} {β : Nat → Nat} {w : World} {v : Value} {i m : Nat} (h : IsRat w v (l.getD i 0)) (k : LimQ m (l.getD i 0)) : (aQl i m).holds (qE l) β w v := (one_q rep_v).2 ⟨h, k⟩
theorem aR_holds {l : List Rat} {β : Nat → Nat} {w : World} {v : Value} {i : Nat} (h : IsRoot w v (l.getD i 0) (l.getD (i + 1) 0) (l.getD (i + 2) 0)) (k : LimR 3000 (l.getD i 0) (l.getD (i + 1) 0) (l.getD (i + 2) 0)) : (aR i).holds (qE l) β w v := (one_rt rep_v rep_v rep_v).2 ⟨h, k⟩
theorem walk1 {f : Nat} {fn : Func} {tab : List (Nat × Con)} {T : Tree} {G : Asm} {x : AV} {l : List Rat} (hf : Tryz.prog.funcs[f]? = some fn) (h4 : fn.results.toList.length ≤ 4) (htab : TabOK Tryz.prog (qE l) tab) (hG : G.holds (qE l)) (hT : funE (cR tab) fn G [x] = some T) (hn : 1 ≤ fn.ntmps) (hnp : [x].all noPtr = true)
    (w : World) (v : Value) (hv : ∀ β, x.holds (qE l) β w v) : Calls Tryz.prog f #[v] w fun e w' => ∃ β y, e = .returned y ∧ (toAV (T.pick (qE l))).holds (qE l) β w' y ∧ Ext w w' := by
  refine fun_sound mixed (cR_ok (qE_ok _) htab) hG hf h4 hT hn hnp w [v] rfl ?_
  intro i y hy
  match i, hy with
  | 0, hy => injection hy with hy; subst hy; exact ⟨fun _ => 0, v, rfl, hv _⟩
theorem walk2 {f : Nat} {fn : Func} {tab : List (Nat × Con)} {T : Tree} {G : Asm} {x z : AV} {l : List Rat} (hf : Tryz.prog.funcs[f]? = some fn) (h4 : fn.results.toList.length ≤ 4) (htab : TabOK Tryz.prog (qE l) tab) (hG : G.holds (qE l)) (hT : funE (cR tab) fn G [x, z] = some T) (hn : 2 ≤ fn.ntmps) (hnp : [x, z].all noPtr = true)
    (w : World) (v u : Value) (hv : ∀ β, x.holds (qE l) β w v) (hu : ∀ β, z.holds (qE l) β w u) : Calls Tryz.prog f #[v, u] w fun e w' => ∃ β y, e = .returned y ∧ (toAV (T.pick (qE l))).holds (qE l) β w' y ∧ Ext w w' := by
  refine fun_sound mixed (cR_ok (qE_ok _) htab) hG hf h4 hT hn hnp w [v, u] rfl ?_
  intro i y hy
  match i, hy with
  | 0, hy => injection hy with hy; subst hy; exact ⟨fun _ => 0, v, rfl, hv _⟩
  | 1, hy => injection hy with hy; subst hy; exact ⟨fun _ => 0, u, rfl, hu _⟩
def q0 : IT2 := (.lit 0, .lit 1)
def zt (p : IT2) : BT := .eq (.a2 3 p.1 (.lit 0)) (.lit 0)
theorem zt_den {E : Env} {p : IT2} {q : Rat} (h : RepQ E p q) : (zt p).den E = decide (q = 0) := by
  show (cmpZ (p.1.den E) 0 == 0) = _
  rw [h.1, Bool.eq_iff_iff, beq_iff_eq, decide_eq_true_iff, ← Rat.num_eq_zero]
  rcases cmpZ_cases q.num 0 with ⟨h, e⟩ | ⟨h, e⟩ | ⟨h, e⟩ <;> rw [e] <;> omega
def rt6 (A B C : IT2) (l m k : Nat) : List Chunk := [.int A.1 l, .int A.2 l, .int B.1 m, .int B.2 m, .int C.1 k, .int C.2 k]
def lf (A B C : IT2) (l m k : Nat) : Tree := .leaf [(true, rt6 A B C l m k)]
def lf2 (A B C : IT2) (l m k : Nat) : Tree := .leaf [(true, rt6 A B C l m k), (false, [.n .i64 (.lit 0)])]
def bad6 (z : Int) : List (Bool × List Chunk) := [(true, [.int (.lit 0) 0, .int (.lit 0) 0, .int (.lit 0) 0, .int (.lit 0) 0, .int (.lit 0) 0, .int (.lit 0) 0]), (false, [.n .i64 (.lit z)])]
theorem lf_out {E : Env} {β : Nat → Nat} {w : World} {v : Value} {A B C : IT2} {a b c : Rat} {l m k : Nat} (hA : RepQ E A a) (hB : RepQ E B b) (hC : RepQ E C c) (h : (toAV ((lf A B C l m k).pick E)).holds E β w v) : IsRoot w v a b c := ((one_root hA hB hC).1 h).1
theorem lf2_out {E : Env} {β : Nat → Nat} {w : World} {v : Value} {A B C : IT2} {a b c : Rat} {l m k : Nat} (hA : RepQ E A a) (hB : RepQ E B b) (hC : RepQ E C c) (h : (toAV ((lf2 A B C l m k).pick E)).holds E β w v) : ∃ x, v = .tuple #[x, .int .i64 0] ∧ IsRoot w x a b c := by
  obtain ⟨vs, rfl, u1, r1, rfl, k1, u2, r2, rfl, k2, hn⟩ := h
  simp only [tupAll] at hn
  subst hn
  have k2' := one_num.1 k2
  subst k2'
  exact ⟨u1, rfl, ((one_root hA hB hC).1 k1).1⟩
def Zero6 (w : World) (v : Value) : Prop := ∀ E, one E w (true, [.int (.lit 0) 0, .int (.lit 0) 0, .int (.lit 0) 0, .int (.lit 0) 0, .int (.lit 0) 0, .int (.lit 0) 0]) v
theorem zero6_of {E : Env} {w : World} {v : Value} (h : one E w (true, [.int (.lit 0) 0, .int (.lit 0) 0, .int (.lit 0) 0, .int (.lit 0) 0, .int (.lit 0) 0, .int (.lit 0) 0]) v) : Zero6 w v := fun _ => h
theorem bad6_out {E : Env} {β : Nat → Nat} {w : World} {v : Value} {z : Int} (h : (toAV ((Tree.leaf (bad6 z)).pick E)).holds E β w v) : ∃ x, v = .tuple #[x, .int .i64 z] ∧ Zero6 w x := by
  obtain ⟨vs, rfl, u1, r1, rfl, k1, u2, r2, rfl, k2, hn⟩ := h
  simp only [tupAll] at hn
  subst hn
  have k2' := one_num.1 k2
  subst k2'
  exact ⟨u1, rfl, zero6_of k1⟩
section
variable {w : World} {v u : Value} {a b c a' b' c' k : Rat}
end
end Go.Proofs.YtifeacfljfmnpaaGreat
end

section
set_option maxRecDepth 100000
namespace Go.Proofs.YtifeacfljfmnpaaGreat
open Go.RowKit
def RetR (w : World) (ok : Prop) (err : Int) (p q r : Rat) (e : Ending) (w' : World) : Prop :=
  (ok → ∃ x, e = .returned (.tuple #[x, .int .i64 0]) ∧ IsRoot w' x p q r ∧ Ext w w') ∧ (¬ ok → ∃ x, e = .returned (.tuple #[x, .int .i64 err]) ∧ Zero6 w' x ∧ Ext w w')
theorem ite_pick {E : Env} {b : BT} {t e : Tree} {p : Bool} (h : b.den E = p) : (Tree.ite b t e).pick E = if p then t.pick E else e.pick E := by
  simp only [Tree.pick, h]
def endP (A B C : IT2) : Tree := .ite (zt B) (lf2 A q0 q0 12001 3 3) (lf2 A B C 12001 12001 3000)
def endR (A B C : IT2) : Tree := .ite (zt B) (lf2 A q0 q0 12001 3 3) (.ite (zt C) (lf2 A q0 q0 12001 3 3) (lf2 A B C 12001 12001 3000))
theorem endP_out {E : Env} {β : Nat → Nat} {w : World} {v : Value} {A B C : IT2} {a b c : Rat} (hA : RepQ E A a) (hB : RepQ E B b) (hC : RepQ E C c) (h : (toAV ((endP A B C).pick E)).holds E β w v) : ∃ x, v = .tuple #[x, .int .i64 0] ∧ IsRoot w x a b (rC b c) := by
  unfold endP at h
  rw [ite_pick (zt_den hB)] at h
  by_cases hz : b = 0
  · rw [decide_eq_true hz, if_pos rfl] at h
    rw [hz, rC_zero]
    exact lf2_out hA rep_0 rep_0 h
  · rw [decide_eq_false hz, if_neg (by decide)] at h
    rw [rC_ne hz]
    exact lf2_out hA hB hC h
theorem endR_out {E : Env} {β : Nat → Nat} {w : World} {v : Value} {A B C : IT2} {a b c : Rat} (hA : RepQ E A a) (hB : RepQ E B b) (hC : RepQ E C c) (hz : b ≠ 0 → c ≠ 0) (h : (toAV ((endR A B C).pick E)).holds E β w v) : ∃ x, v = .tuple #[x, .int .i64 0] ∧ IsRoot w x a b (rC b c) := by
  unfold endR at h
  rw [ite_pick (zt_den hB), ite_pick (zt_den hC)] at h
  by_cases hb : b = 0
  · rw [decide_eq_true hb, if_pos rfl] at h
    rw [hb, rC_zero]
    exact lf2_out hA rep_0 rep_0 h
  · rw [decide_eq_false hb, if_neg (by decide), decide_eq_false (hz hb), if_neg (by decide)] at h
    rw [rC_ne hb]
    exact lf2_out hA hB hC h
def eqPT : BT := .eq (.a2 3 (.var 4) (.var 10)) (.lit 0)
def eqPT2 : BT := .eq (.a2 3 (.var 5) (.var 11)) (.lit 0)
theorem cmp0 (x y : Int) : (cmpZ x y == 0) = decide (x = y) := by
  rw [Bool.eq_iff_iff, beq_iff_eq, decide_eq_true_iff]
  rcases cmpZ_cases x y with ⟨h, e⟩ | ⟨h, e⟩ | ⟨h, e⟩ <;> rw [e] <;> omega
theorem rat_eq_parts {c c' : Rat} : c = c' ↔ c.num = c'.num ∧ (c.den : Int) = (c'.den : Int) := ⟨fun h => by subst h; exact ⟨rfl, rfl⟩, fun h => Rat.ext h.1 (by have := h.2; omega)⟩
def comP (x y : Tree) : Tree := .ite (zt (qv 1)) y (.ite (zt (qv 4)) x (.ite eqPT (.ite eqPT2 x (.leaf (bad6 1))) (.leaf (bad6 1))))
def comR (x y : Tree) : Tree := .ite (zt (qv 1)) y (.ite (zt (qv 4)) x (.ite (.eq (qcmp (qv 2) (qv 5)) (.lit 0)) x (.leaf (bad6 1))))
section
variable {a b c a' b' c' : Rat} {x y : Tree} {E : Env} {β : Nat → Nat} {w w' : World} {v : Value}
theorem rep6 : RepQ (qE [a, b, c, a', b', c']) (qv 0) a ∧ RepQ (qE [a, b, c, a', b', c']) (qv 1) b ∧ RepQ (qE [a, b, c, a', b', c']) (qv 2) c ∧ RepQ (qE [a, b, c, a', b', c']) (qv 3) a' ∧ RepQ (qE [a, b, c, a', b', c']) (qv 4) b' ∧ RepQ (qE [a, b, c, a', b', c']) (qv 5) c' :=
  ⟨rep_v (i := 0), rep_v (i := 1), rep_v (i := 2), rep_v (i := 3), rep_v (i := 4), rep_v (i := 5)⟩
theorem comP_out (h : (toAV ((comP x y).pick (qE [a, b, c, a', b', c']))).holds (qE [a, b, c, a', b', c']) β w' v) :
    (Ok b c b' c' ∧ ((b = 0 ∧ (toAV (y.pick (qE [a, b, c, a', b', c']))).holds (qE [a, b, c, a', b', c']) β w' v) ∨ (b ≠ 0 ∧ (toAV (x.pick (qE [a, b, c, a', b', c']))).holds (qE [a, b, c, a', b', c']) β w' v))) ∨ (¬ Ok b c b' c' ∧ ∃ z, v = .tuple #[z, .int .i64 1] ∧ Zero6 w' z) := by
  obtain ⟨ra, rb, rc, ra', rb', rc'⟩ := rep6 (a := a) (b := b) (c := c) (a' := a') (b' := b') (c' := c')
  have e1 : eqPT.den (qE [a, b, c, a', b', c']) = decide (c.num = c'.num) := cmp0 _ _
  have e2 : eqPT2.den (qE [a, b, c, a', b', c']) = decide ((c.den : Int) = (c'.den : Int)) := cmp0 _ _
  unfold comP at h
  rw [ite_pick (zt_den rb), ite_pick (zt_den rb'), ite_pick e1, ite_pick e2] at h
  unfold Ok
  by_cases hb : b = 0
  · rw [decide_eq_true hb, if_pos rfl] at h
    exact .inl ⟨.inl hb, .inl ⟨hb, h⟩⟩
  · rw [decide_eq_false hb, if_neg (by decide)] at h
    by_cases hb' : b' = 0
    · rw [decide_eq_true hb', if_pos rfl] at h
      exact .inl ⟨.inr (.inl hb'), .inr ⟨hb, h⟩⟩
    · rw [decide_eq_false hb', if_neg (by decide)] at h
      by_cases h1 : c.num = c'.num
      · rw [decide_eq_true h1, if_pos rfl] at h
        by_cases h2 : (c.den : Int) = (c'.den : Int)
        · rw [decide_eq_true h2, if_pos rfl] at h
          exact .inl ⟨.inr (.inr (rat_eq_parts.2 ⟨h1, h2⟩)), .inr ⟨hb, h⟩⟩
        · rw [decide_eq_false h2, if_neg (by decide)] at h
          refine .inr ⟨?_, bad6_out h⟩
          rintro (k | k | k)
          · exact hb k
          · exact hb' k
          · exact h2 (rat_eq_parts.1 k).2
      · rw [decide_eq_false h1, if_neg (by decide)] at h
        refine .inr ⟨?_, bad6_out h⟩
        rintro (k | k | k)
        · exact hb k
        · exact hb' k
        · exact h1 (rat_eq_parts.1 k).1
theorem comR_out (h : (toAV ((comR x y).pick (qE [a, b, c, a', b', c']))).holds (qE [a, b, c, a', b', c']) β w' v) :
    (Ok b c b' c' ∧ ((b = 0 ∧ (toAV (y.pick (qE [a, b, c, a', b', c']))).holds (qE [a, b, c, a', b', c']) β w' v) ∨ (b ≠ 0 ∧ (toAV (x.pick (qE [a, b, c, a', b', c']))).holds (qE [a, b, c, a', b', c']) β w' v))) ∨ (¬ Ok b c b' c' ∧ ∃ z, v = .tuple #[z, .int .i64 1] ∧ Zero6 w' z) := by
  obtain ⟨ra, rb, rc, ra', rb', rc'⟩ := rep6 (a := a) (b := b) (c := c) (a' := a') (b' := b') (c' := c')
  have e1 : (BT.eq (qcmp (qv 2) (qv 5)) (.lit 0)).den (qE [a, b, c, a', b', c']) = decide (c = c') := by
    show ((qcmp (qv 2) (qv 5)).den (qE [a, b, c, a', b', c']) == 0) = _
    rw [rep_cmp rc rc', Bool.eq_iff_iff, beq_iff_eq, decide_eq_true_iff]
    rcases sgQ_cases (c - c') with ⟨k, e⟩ | ⟨k, e⟩ | ⟨k, e⟩ <;> rw [e] <;> constructor <;> intro j <;> first | omega | grind
  unfold comR at h
  rw [ite_pick (zt_den rb), ite_pick (zt_den rb'), ite_pick e1] at h
  unfold Ok
  by_cases hb : b = 0
  · rw [decide_eq_true hb, if_pos rfl] at h
    exact .inl ⟨.inl hb, .inl ⟨hb, h⟩⟩
  · rw [decide_eq_false hb, if_neg (by decide)] at h
    by_cases hb' : b' = 0
    · rw [decide_eq_true hb', if_pos rfl] at h
      exact .inl ⟨.inr (.inl hb'), .inr ⟨hb, h⟩⟩
    · rw [decide_eq_false hb', if_neg (by decide)] at h
      by_cases h1 : c = c'
      · rw [decide_eq_true h1, if_pos rfl] at h
        exact .inl ⟨.inr (.inr h1), .inr ⟨hb, h⟩⟩
      · rw [decide_eq_false h1, if_neg (by decide)] at h
        refine .inr ⟨?_, bad6_out h⟩
        rintro (k | k | k)
        · exact hb k
        · exact hb' k
        · exact h1 k
end
theorem RetR.of {w : World} {ok : Prop} {err : Int} {p q r : Rat} {v : Value} {w' : World} (ex : Ext w w') (h : (ok ∧ ∃ x, v = .tuple #[x, .int .i64 0] ∧ IsRoot w' x p q r) ∨ (¬ ok ∧ ∃ z, v = .tuple #[z, .int .i64 err] ∧ Zero6 w' z)) : RetR w ok err p q r (.returned v) w' := by
  rcases h with ⟨h, x, rfl, hx⟩ | ⟨h, x, rfl, hx⟩
  · exact ⟨fun _ => ⟨x, rfl, hx, ex⟩, fun k => absurd h k⟩
  · exact ⟨fun k => absurd k h, fun _ => ⟨x, rfl, hx, ex⟩⟩
section
variable {w : World} {v u : Value} {a b c a' b' c' k : Rat}
theorem Rd.c0 (R : Rd b c) (h : b ≠ 0) : c ≠ 0 := by
  rcases R with ⟨rfl, _⟩ | ⟨_, h1, _⟩
  · exact absurd rfl h
  · grind
theorem p_add (h : IsRoot w v a b c) (hu : IsRoot w u a' b' c') (l : LimR 3000 a b c) (l' : LimR 3000 a' b' c') : Calls Tryz.prog 146 #[v, u] w (RetR w (Ok b c b' c') 1 (a + a') (b + b') (rC (b + b') (cm b c c'))) := by
  refine (walk2 (l := [a, b, c, a', b', c']) (tab := []) (x := aR 0) (z := aR 3) (T := comP (endP (qop 0 (qv 0) (qv 3)) (qop 0 (qv 1) (qv 4)) (qv 2)) (endP (qop 0 (qv 0) (qv 3)) (qop 0 (qv 1) (qv 4)) (qv 5)))
    Tryz.func146 (by decide +kernel) .nil no_asm (by kernel_rfl) (by decide +kernel) rfl w v u (fun _ => aR_holds h l) (fun _ => aR_holds hu l')).mono ?_
  rintro e w' ⟨β, y, rfl, hh, ex⟩
  obtain ⟨ra, rb, rc, ra', rb', rc'⟩ := rep6 (a := a) (b := b) (c := c) (a' := a') (b' := b') (c' := c')
  refine RetR.of ex ?_
  rcases comP_out hh with ⟨ho, ⟨hb, hh⟩ | ⟨hb, hh⟩⟩ | hno
  · refine .inl ⟨ho, ?_⟩
    rw [show cm b c c' = c' by rw [hb, cm_zero]]
    exact endP_out (rep_add ra ra') (rep_add rb rb') rc' hh
  · refine .inl ⟨ho, ?_⟩
    rw [cm_ne hb]
    exact endP_out (rep_add ra ra') (rep_add rb rb') rc hh
  · exact .inr hno
theorem r_add (R : Rd b c) (R' : Rd b' c') (h : IsRoot w v a b c) (hu : IsRoot w u a' b' c') (l : LimR 3000 a b c) (l' : LimR 3000 a' b' c') : Calls Tryz.prog 134 #[v, u] w (RetR w (Ok b c b' c') 1 (a + a') (b + b') (rC (b + b') (cm b c c'))) := by
  refine (walk2 (l := [a, b, c, a', b', c']) (tab := []) (x := aR 0) (z := aR 3) (T := comR (endR (qop 0 (qv 0) (qv 3)) (qop 0 (qv 1) (qv 4)) (qv 2)) (endR (qop 0 (qv 0) (qv 3)) (qop 0 (qv 1) (qv 4)) (qv 5)))
    Tryz.func134 (by decide +kernel) .nil no_asm (by kernel_rfl) (by decide +kernel) rfl w v u (fun _ => aR_holds h l) (fun _ => aR_holds hu l')).mono ?_
  rintro e w' ⟨β, y, rfl, hh, ex⟩
  obtain ⟨ra, rb, rc, ra', rb', rc'⟩ := rep6 (a := a) (b := b) (c := c) (a' := a') (b' := b') (c' := c')
  refine RetR.of ex ?_
  rcases comR_out hh with ⟨ho, ⟨hb, hh⟩ | ⟨hb, hh⟩⟩ | hno
  · refine .inl ⟨ho, ?_⟩
    rw [show cm b c c' = c' by rw [hb, cm_zero]]
    exact endR_out (rep_add ra ra') (rep_add rb rb') rc' (fun hne => R'.c0 (fun e => hne (by rw [hb, e]; grind))) hh
  · refine .inl ⟨ho, ?_⟩
    rw [cm_ne hb]
    exact endR_out (rep_add ra ra') (rep_add rb rb') rc (fun _ => R.c0 hb) hh
  · exact .inr hno
theorem p_neg (R : Rd b c) (h : IsRoot w v a b c) (l : LimR 3000 a b c) : Calls Tryz.prog 81 #[v] w (Ret (fun x w' => IsRoot w' x (-a) (-b) c) w) := by
  refine (walk1 (l := [a, b, c]) (tab := []) (x := aR 0) (T := .ite (zt (qng (qv 1))) (lf (qng (qv 0)) q0 q0 3000 3 3) (lf (qng (qv 0)) (qng (qv 1)) (qv 2) 3000 3000 3000))
    Tryz.func81 (by decide +kernel) .nil no_asm (by kernel_rfl) (by decide +kernel) rfl w v (fun _ => aR_holds h l)).mono ?_
  rintro e w' ⟨β, y, rfl, hh, ex⟩
  have ra : RepQ (qE [a, b, c]) (qv 0) a := rep_v (i := 0)
  have rb : RepQ (qE [a, b, c]) (qv 1) b := rep_v (i := 1)
  have rc : RepQ (qE [a, b, c]) (qv 2) c := rep_v (i := 2)
  refine ⟨y, rfl, ?_, ex⟩
  rw [ite_pick (zt_den (rep_ng rb))] at hh
  by_cases hz : -b = 0
  · rw [decide_eq_true hz, if_pos rfl] at hh
    have hb : b = 0 := by grind
    have hc : c = 0 := by
      rcases R with ⟨_, h⟩ | ⟨h, _⟩
      · exact h
      · exact absurd hb h
    rw [hz, hc]
    exact lf_out (rep_ng ra) rep_0 rep_0 hh
  · rw [decide_eq_false hz, if_neg (by decide)] at hh
    exact lf_out (rep_ng ra) (rep_ng rb) rc hh
def lfN (t : IT) : Tree := .leaf [(false, [.n .i64 t])]
theorem lfN_out {E : Env} {β : Nat → Nat} {w : World} {v : Value} {t : IT} (h : (toAV ((lfN t).pick E)).holds E β w v) : v = .int .i64 (t.den E) := one_num.1 h
def sgt (p : IT2) : IT := .a2 3 p.1 (.lit 0)
theorem sgt_den {E : Env} {p : IT2} {q : Rat} (h : RepQ E p q) : (sgt p).den E = sgQ q := by
  show cmpZ (p.1.den E) 0 = _
  rw [h.1]; rfl
def sgL : IT := .a2 2 (.a2 2 (.a2 2 (.var 0) (.var 3)) (.a2 2 (.var 0) (.var 3))) (.var 5)
def sgR : IT := .a2 2 (.a2 2 (.a2 2 (.var 2) (.var 1)) (.a2 2 (.var 2) (.var 1))) (.var 4)
theorem sgLR (a b c : Rat) : cmpZ (sgL.den (qE [a, b, c])) (sgR.den (qE [a, b, c])) = sgQ (nrm a b c) := by
  show cmpZ (a.num * (b.den : Int) * (a.num * (b.den : Int)) * (c.den : Int)) (b.num * (a.den : Int) * (b.num * (a.den : Int)) * c.num) = _
  have num_eq : ∀ q : Rat, q * ((q.den : Int) : Rat) = (q.num : Rat) := by
    intro q
    have h := Rat.num_divInt_den q
    have hd : ((q.den : Int) : Rat) ≠ 0 := fun e => by
      have := Rat.intCast_eq_zero_iff.1 e
      have := q.den_pos
      omega
    have h2 : q = (q.num : Rat) / ((q.den : Int) : Rat) := by rw [← Rat.divInt_eq_div, h]
    have := Rat.div_mul_cancel (a := (q.num : Rat)) hd
    rw [← h2] at this
    exact this
  have pos : ∀ q : Rat, (0 : Rat) < ((q.den : Int) : Rat) := fun q => Rat.intCast_pos.2 (by have := q.den_pos; omega)
  have ea := num_eq a
  have eb := num_eq b
  have ec := num_eq c
  have pa := pos a
  have pb := pos b
  have pc := pos c
  have cast : ∀ x y : Int, cmpZ x y = sgQ ((x : Rat) - (y : Rat)) := by
    intro x y
    rw [← cmpQ_sub, Rat.num_intCast, Rat.den_intCast, Rat.num_intCast, Rat.den_intCast]
    have e1 : ((1 : Nat) : Int) = 1 := rfl
    rw [e1, Int.mul_one, Int.mul_one]
  rw [cast]
  simp only [castQ_mul]
  generalize ((a.den : Int) : Rat) = p at *
  generalize ((b.den : Int) : Rat) = q at *
  generalize ((c.den : Int) : Rat) = r at *
  rw [← ea, ← eb, ← ec]
  have e2 : a * p * q * (a * p * q) * r - b * q * p * (b * q * p) * (c * r) = nrm a b c * (p * q * (p * q) * r) := by unfold nrm; grind
  have hp := Rat.mul_pos (Rat.mul_pos (Rat.mul_pos pa pb) (Rat.mul_pos pa pb)) pc
  rw [e2, sgQ_mul, sgQ_pos hp, Int.mul_one]
theorem p_sign (R : Rd b c) (h : IsRoot w v a b c) (l : LimR 3000 a b c) : Calls Tryz.prog 147 #[v] w fun e w' => e = .returned (.int .i64 (sgN a b c)) ∧ Ext w w' := by
  refine (walk1 (l := [a, b, c]) (tab := []) (x := aR 0) (T := .ite (zt (qv 1)) (lfN (sgt (qv 0))) (.ite (.eq (sgt (qv 0)) (.a1 0 (sgt (qv 1)))) (lfN (.a2 2 (sgt (qv 0)) (.a2 3 sgL sgR))) (lfN (sgt (qv 1)))))
    Tryz.func147 (by decide +kernel) .nil no_asm (by kernel_rfl) (by decide +kernel) rfl w v (fun _ => aR_holds h l)).mono ?_
  rintro e w' ⟨β, y, rfl, hh, ex⟩
  have ra : RepQ (qE [a, b, c]) (qv 0) a := rep_v (i := 0)
  have rb : RepQ (qE [a, b, c]) (qv 1) b := rep_v (i := 1)
  have e1 : (BT.eq (sgt (qv 0)) (.a1 0 (sgt (qv 1)))).den (qE [a, b, c]) = decide (sgQ a = - sgQ b) := by
    show ((sgt (qv 0)).den (qE [a, b, c]) == - (sgt (qv 1)).den (qE [a, b, c])) = _
    rw [sgt_den ra, sgt_den rb, Bool.eq_iff_iff, beq_iff_eq, decide_eq_true_iff]
  rw [ite_pick (zt_den rb), ite_pick e1] at hh
  refine ⟨?_, ex⟩
  rw [← sgS_sgN R]
  have c1 := sgQ_cases a
  have c2 := sgQ_cases b
  rw [sgS_sgN R]
  by_cases hb : b = 0
  · rw [decide_eq_true hb, if_pos rfl] at hh
    rw [lfN_out hh, sgt_den ra]
    have hc : c = 0 := by
      rcases R with ⟨_, h⟩ | ⟨h, _⟩
      · exact h
      · exact absurd hb h
    subst hb hc
    by_cases ha : a = 0
    · subst ha; rw [sgN_zero (by unfold nrm; grind)]; rfl
    · rw [sgN_pos (by have := sq_pos ha; unfold nrm; grind)]
  · rw [decide_eq_false hb, if_neg (by decide)] at hh
    have hne : nrm a b c ≠ 0 := fun e => hb (nrm_ne R e).2
    have hb' : sgQ b ≠ 0 := by rcases c2 with ⟨k, e⟩ | ⟨k, e⟩ | ⟨k, e⟩ <;> first | (rw [e]; decide) | grind
    by_cases hs : sgQ a = - sgQ b
    · rw [decide_eq_true hs, if_pos rfl] at hh
      have e2 : (IT.a2 2 (sgt (qv 0)) (.a2 3 sgL sgR)).den (qE [a, b, c]) = sgQ a * sgQ (nrm a b c) := by
        show (sgt (qv 0)).den _ * cmpZ (sgL.den (qE [a, b, c])) (sgR.den (qE [a, b, c])) = _
        rw [sgt_den ra, sgLR]
      rw [lfN_out hh, e2]
      rcases (by grind : nrm a b c < 0 ∨ 0 < nrm a b c) with n | n
      · rw [sgN_neg n, sgQ_neg' n]
        congr 2; omega
      · rw [sgN_pos n, sgQ_pos n, Int.mul_one]
    · rw [decide_eq_false hs, if_neg (by decide)] at hh
      rw [lfN_out hh, sgt_den rb]
      rcases (by grind : nrm a b c < 0 ∨ 0 < nrm a b c) with n | n
      · rw [sgN_neg n]
      · rw [sgN_pos n]
        have ha : a ≠ 0 := by
          intro ha
          subst ha
          have := Rd.c0 R hb
          rcases R with ⟨h, _⟩ | ⟨_, hc, _⟩
          · exact absurd h hb
          · have := Rat.mul_pos (sq_pos hb) hc
            unfold nrm at n
            grind
        congr 2
        rcases c1 with ⟨k, e⟩ | ⟨k, e⟩ | ⟨k, e⟩
        · omega
        · exact absurd k ha
        · omega
theorem r_sign (R : Rd b c) (h : IsRoot w v a b c) (l : LimR 3000 a b c) : Calls Tryz.prog 59 #[v] w fun e w' => e = .returned (.int .i64 (sgN a b c)) ∧ Ext w w' := by
  refine (walk1 (l := [a, b, c]) (tab := []) (x := aR 0) (T := .ite (.eq (sgt (qv 0)) (sgt (qv 1))) (lfN (sgt (qv 0))) (.ite (zt (qv 1)) (lfN (sgt (qv 0))) (.ite (zt (qv 0)) (lfN (sgt (qv 1))) (.ite (.lt (.lit 0) (sgt (qop 1 (qop 2 (qv 0) (qv 0)) (qop 2 (qop 2 (qv 1) (qv 1)) (qv 2))))) (lfN (sgt (qv 0))) (lfN (sgt (qv 1)))))))
    Tryz.func59 (by decide +kernel) .nil no_asm (by kernel_rfl) (by decide +kernel) rfl w v (fun _ => aR_holds h l)).mono ?_
  rintro e w' ⟨β, y, rfl, hh, ex⟩
  have ra : RepQ (qE [a, b, c]) (qv 0) a := rep_v (i := 0)
  have rb : RepQ (qE [a, b, c]) (qv 1) b := rep_v (i := 1)
  have rc : RepQ (qE [a, b, c]) (qv 2) c := rep_v (i := 2)
  have e1 : (BT.eq (sgt (qv 0)) (sgt (qv 1))).den (qE [a, b, c]) = decide (sgQ a = sgQ b) := by
    show ((sgt (qv 0)).den (qE [a, b, c]) == (sgt (qv 1)).den (qE [a, b, c])) = _
    rw [sgt_den ra, sgt_den rb, Bool.eq_iff_iff, beq_iff_eq, decide_eq_true_iff]
  have e2 : (BT.lt (.lit 0) (sgt (qop 1 (qop 2 (qv 0) (qv 0)) (qop 2 (qop 2 (qv 1) (qv 1)) (qv 2))))).den (qE [a, b, c]) = decide (0 < nrm a b c) := by
    show decide (0 < (sgt _).den (qE [a, b, c])) = _
    rw [sgt_den (rep_sub (rep_mul ra ra) (rep_mul (rep_mul rb rb) rc)), Bool.eq_iff_iff, decide_eq_true_iff, decide_eq_true_iff]
    show 0 < sgQ (nrm a b c) ↔ _
    rcases sgQ_cases (nrm a b c) with ⟨k, e⟩ | ⟨k, e⟩ | ⟨k, e⟩ <;> rw [e] <;> constructor <;> intro j <;> first | omega | grind
  rw [ite_pick e1, ite_pick (zt_den rb), ite_pick (zt_den ra), ite_pick e2] at hh
  refine ⟨?_, ex⟩
  have c1 := sgQ_cases a
  have c2 := sgQ_cases b
  have s0 : b = 0 → sgN a b c = sgQ a := by
    intro hb
    have hc : c = 0 := by
      rcases R with ⟨_, h⟩ | ⟨h, _⟩
      · exact h
      · exact absurd hb h
    subst hb hc
    by_cases ha : a = 0
    · subst ha; rw [sgN_zero (by unfold nrm; grind)]; rfl
    · rw [sgN_pos (by have := sq_pos ha; unfold nrm; grind)]
  by_cases hab : sgQ a = sgQ b
  · rw [decide_eq_true hab, if_pos rfl] at hh
    rw [lfN_out hh, sgt_den ra]
    by_cases hb : b = 0
    · rw [s0 hb]
    · have hne : nrm a b c ≠ 0 := fun e => hb (nrm_ne R e).2
      rcases (by grind : nrm a b c < 0 ∨ 0 < nrm a b c) with n | n
      · rw [sgN_neg n, hab]
      · rw [sgN_pos n]
  · rw [decide_eq_false hab, if_neg (by decide)] at hh
    by_cases hb : b = 0
    · rw [decide_eq_true hb, if_pos rfl] at hh
      rw [lfN_out hh, sgt_den ra, s0 hb]
    · rw [decide_eq_false hb, if_neg (by decide)] at hh
      have hne : nrm a b c ≠ 0 := fun e => hb (nrm_ne R e).2
      by_cases ha : a = 0
      · rw [decide_eq_true ha, if_pos rfl] at hh
        rw [lfN_out hh, sgt_den rb]
        have n : nrm a b c < 0 := by
          rcases R with ⟨h, _⟩ | ⟨_, hc, _⟩
          · exact absurd h hb
          · have := Rat.mul_pos (sq_pos hb) hc
            unfold nrm
            rw [ha]
            grind
        rw [sgN_neg n]
      · rw [decide_eq_false ha, if_neg (by decide)] at hh
        by_cases n : 0 < nrm a b c
        · rw [decide_eq_true n, if_pos rfl] at hh
          rw [lfN_out hh, sgt_den ra, sgN_pos n]
        · rw [decide_eq_false n, if_neg (by decide)] at hh
          rw [lfN_out hh, sgt_den rb, sgN_neg (by grind)]
end
end Go.Proofs.YtifeacfljfmnpaaGreat
end

section
set_option maxRecDepth 100000
namespace Go.Proofs.YtifeacfljfmnpaaGreat
open Go.RowKit
def rdA (rd : Bool) (G : Asm) (B C : IT2) : Bool := !rd || (rdT B C).ev G == some true
theorem rdA_spec {E : Env} {G : Asm} (hG : G.holds E) {B C : IT2} {b c : Rat} (hB : RepQ E B b) (hC : RepQ E C c) {rd : Bool} (h : rdA rd G B C = true) : rd = true → Rd b c := by
  intro hr
  subst hr
  exact rdT_spec hG hB hC (by simpa [rdA] using h)
end Go.Proofs.YtifeacfljfmnpaaGreat
end

section
set_option maxRecDepth 100000
namespace Go.Proofs.YtifeacfljfmnpaaGreat
open Go.RowKit
def endR2 (A B C : IT2) (l m : Nat) : Tree := .ite (zt B) (lf2 A q0 q0 l 3 3) (.ite (zt C) (lf2 A q0 q0 l 3 3) (lf2 A B C l m 3000))
theorem endR2_out {E : Env} {β : Nat → Nat} {w : World} {v : Value} {A B C : IT2} {a b c : Rat} {l m : Nat} (hA : RepQ E A a) (hB : RepQ E B b) (hC : RepQ E C c) (hz : b ≠ 0 → c ≠ 0) (h : (toAV ((endR2 A B C l m).pick E)).holds E β w v) : ∃ x, v = .tuple #[x, .int .i64 0] ∧ IsRoot w x a b (rC b c) := by
  unfold endR2 at h
  rw [ite_pick (zt_den hB), ite_pick (zt_den hC)] at h
  by_cases hb : b = 0
  · rw [decide_eq_true hb, if_pos rfl] at h
    rw [hb, rC_zero]
    exact lf2_out hA rep_0 rep_0 h
  · rw [decide_eq_false hb, if_neg (by decide), decide_eq_false (hz hb), if_neg (by decide)] at h
    rw [rC_ne hb]
    exact lf2_out hA hB hC h
section
variable {a b c a' b' c' : Rat} {x x' y : Tree} {β : Nat → Nat} {w w' : World} {v u : Value}
def muA (A B A' B' C : IT2) : IT2 := qop 0 (qop 2 A A') (qop 2 (qop 2 B B') C)
def muB (A B A' B' : IT2) : IT2 := qop 0 (qop 2 A B') (qop 2 B A')
theorem rep_muA {E : Env} {A B A' B' C : IT2} {a b a' b' c : Rat} (ra : RepQ E A a) (rb : RepQ E B b) (ra' : RepQ E A' a') (rb' : RepQ E B' b') (rc : RepQ E C c) : RepQ E (muA A B A' B' C) (a * a' + b * b' * c) := rep_add (rep_mul ra ra') (rep_mul (rep_mul rb rb') rc)
theorem rep_muB {E : Env} {A B A' B' : IT2} {a b a' b' : Rat} (ra : RepQ E A a) (rb : RepQ E B b) (ra' : RepQ E A' a') (rb' : RepQ E B' b') : RepQ E (muB A B A' B') (a * b' + b * a') := rep_add (rep_mul ra rb') (rep_mul rb ra')
theorem r_mul (R : Rd b c) (R' : Rd b' c') (h : IsRoot w v a b c) (hu : IsRoot w u a' b' c') (l : LimR 3000 a b c) (l' : LimR 3000 a' b' c') : Calls Tryz.prog 187 #[v, u] w (RetR w (Ok b c b' c') 1 (a * a' + b * b' * cm b c c') (a * b' + b * a') (rC (a * b' + b * a') (cm b c c'))) := by
  refine (walk2 (l := [a, b, c, a', b', c']) (tab := []) (x := aR 0) (z := aR 3)
    (T := comR (endR2 (muA (qv 0) (qv 1) (qv 3) (qv 4) (qv 2)) (muB (qv 0) (qv 1) (qv 3) (qv 4)) (qv 2) 84009 48005) (endR2 (muA (qv 0) (qv 1) (qv 3) (qv 4) (qv 5)) (muB (qv 0) (qv 1) (qv 3) (qv 4)) (qv 5) 84009 48005))
    Tryz.func187 (by decide +kernel) .nil no_asm (by kernel_rfl) (by decide +kernel) rfl w v u (fun _ => aR_holds h l) (fun _ => aR_holds hu l')).mono ?_
  rintro e w' ⟨β, y, rfl, hh, ex⟩
  obtain ⟨ra, rb, rc, ra', rb', rc'⟩ := rep6 (a := a) (b := b) (c := c) (a' := a') (b' := b') (c' := c')
  refine RetR.of ex ?_
  rcases comR_out hh with ⟨ho, ⟨hb, hh⟩ | ⟨hb, hh⟩⟩ | hno
  · refine .inl ⟨ho, ?_⟩
    rw [show cm b c c' = c' by rw [hb, cm_zero]]
    refine endR2_out (rep_muA ra rb ra' rb' rc') (rep_muB ra rb ra' rb') rc' (fun hne => R'.c0 (fun e => hne ?_)) hh
    rw [hb, e]; grind
  · refine .inl ⟨ho, ?_⟩
    rw [cm_ne hb]
    exact endR2_out (rep_muA ra rb ra' rb' rc) (rep_muB ra rb ra' rb') rc (fun _ => R.c0 hb) hh
  · exact .inr hno
end
theorem rep_dv {E : Env} {p q : IT2} {a b : Rat} (hp : RepQ E p a) (hq : RepQ E q b) : RepQ E (qop 11 p q) (a / b) := rep_op (f := 11) (by omega) hp hq
end Go.Proofs.YtifeacfljfmnpaaGreat
end

section
set_option maxRecDepth 100000
namespace Go.Proofs.YtifeacfljfmnpaaGreat
open Go.RowKit
def nrmT (A B C : IT2) : IT2 := qop 1 (qop 2 A A) (qop 2 (qop 2 B B) C)
theorem rep_nrm {E : Env} {A B C : IT2} {a b c : Rat} (ra : RepQ E A a) (rb : RepQ E B b) (rc : RepQ E C c) : RepQ E (nrmT A B C) (nrm a b c) := rep_sub (rep_mul ra ra) (rep_mul (rep_mul rb rb) rc)
theorem eq0_den {E : Env} {p : IT2} {q : Rat} (h : RepQ E p q) : (BT.eq p.1 (.lit 0)).den E = decide (q = 0) := by
  show (p.1.den E == 0) = _
  rw [h.1, Bool.eq_iff_iff, beq_iff_eq, decide_eq_true_iff, Rat.num_eq_zero]
section
variable {w : World} {v u : Value} {a b c : Rat}
theorem rep3 : RepQ (qE [a, b, c]) (qv 0) a ∧ RepQ (qE [a, b, c]) (qv 1) b ∧ RepQ (qE [a, b, c]) (qv 2) c := ⟨rep_v (i := 0), rep_v (i := 1), rep_v (i := 2)⟩
end
end Go.Proofs.YtifeacfljfmnpaaGreat
end

section
set_option maxRecDepth 100000
namespace Go.Proofs.YtifeacfljfmnpaaGreat
open Go.RowKit
def kRIv : Con
  | [x], G => match rtOf x with
    | some ((A, B, C), m) => if rdA true G B C && decide (m ≤ 300) then
        match (BT.eq (nrmT A B C).1 (.lit 0)).ev G with
        | some false => some (.tup [(true, rt (qop 11 A (nrmT A B C)) (qng (qop 11 B (nrmT A B C))) C (58 * m + 19)), (false, [.n .i64 (.lit 0)])])
        | some true => some (.tup (bad6 6))
        | none => none
      else none
    | _ => none
  | _, _ => none
theorem LimQ.nrm {m : Nat} {a b c : Rat} (l : LimR m a b c) : LimQ (28 * m + 9) (nrm a b c) := by
  have h1 := l.1.mulQ l.1
  have h2 := l.2.1.mulQ l.2.1
  obtain ⟨h3, h4⟩ := LimQ.mul h2.1 h2.2 l.2.2.1 l.2.2.2
  obtain ⟨h5, h6⟩ := LimQ.sub h1.1 h1.2 h3 h4
  exact ⟨h5.mono (by omega), h6.mono (by omega)⟩
theorem kRIv_ok {E : Env} (hE : QEnv E) {f : Nat} (hc : ∀ (w : World) (v : Value) (a b c : Rat), Rd b c → IsRoot w v a b c → LimR 300 a b c → Calls Tryz.prog f #[v] w (RetR w (nrm a b c ≠ 0) 6 (a / nrm a b c) (-(b / nrm a b c)) c))
    (hb : ∃ fn, Tryz.prog.funcs[f]? = some fn ∧ fn.name ≠ "runtime.NumGoroutine" ∧ fn.body.isNone = false) : ConOK Tryz.prog E f kRIv := by
  refine ⟨?_, ?_, hb⟩
  · intro args G r h hG β w vs hv hlen
    unfold kRIv at h
    split at h
    · split at h
      · rename_i x A B C m hx
        split at h
        · rename_i hcd
          simp only [Bool.and_eq_true, decide_eq_true_iff] at hcd
          obtain ⟨v, rfl, h1⟩ := args1 hv hlen
          obtain ⟨a, b, c, ra, rb, rc, ir, lr⟩ := rtOf_spec hE hx h1
          have R := rdA_spec hG rb rc hcd.1 rfl
          have key := hc w v a b c R ir (lr.mono hcd.2)
          have rn := rep_nrm ra rb rc
          split at h
          · rename_i ho
            have hz := BT.ev_spec hG ho
            rw [eq0_den rn, decide_eq_false_iff_not] at hz
            injection h with h
            subst h
            refine key.mono ?_
            rintro e w' ⟨k1, _⟩
            obtain ⟨x', rfl, hr, ex⟩ := k1 hz
            have ln := LimQ.nrm lr
            exact ⟨_, rfl, ⟨[x', .int .i64 0], rfl, x', _, rfl, (one_rt (rep_dv ra rn) (rep_ng (rep_dv rb rn)) rc).2 ⟨hr, (lr.1.divQ ln hz).mono (by omega), ((lr.2.1.divQ ln hz).negQ).mono (by omega), lr.2.2.mono (by omega)⟩, _, _, rfl, one_num.2 rfl, rfl⟩, ex⟩
          · rename_i ho
            have hz := BT.ev_spec hG ho
            rw [eq0_den rn, decide_eq_true_iff] at hz
            injection h with h
            subst h
            refine key.mono ?_
            rintro e w' ⟨_, k1⟩
            obtain ⟨x', rfl, hr, ex⟩ := k1 (fun k => k hz)
            exact ⟨_, rfl, ⟨[x', .int .i64 6], rfl, x', _, rfl, hr E, _, _, rfl, one_num.2 rfl, rfl⟩, ex⟩
          · cases h
        · cases h
      · cases h
    · cases h
  · intro args G r h x off
    unfold kRIv at h
    split at h
    · split at h
      · split at h
        · split at h
          · injection h with h; subst h; intro e; cases e
          · injection h with h; subst h; intro e; cases e
          · cases h
        · cases h
      · cases h
    · cases h
def sqT (x : IT) : BT := .and (.eq (.a1 3 x) (.lit 0)) (.eq (.a2 2 (.a1 2 x) (.a1 2 x)) x)
theorem sqT_den {E : Env} {x : IT} : (sqT x).den E = sqB (x.den E) := by
  show (isqE (x.den E) == 0 && (isq (x.den E) * isq (x.den E) == x.den E)) = _
  unfold sqB
  congr 1
  rw [Bool.eq_iff_iff, beq_iff_eq, beq_iff_eq]
  rcases cmpZ_cases (isq (x.den E) * isq (x.den E)) (x.den E) with ⟨h, e⟩ | ⟨h, e⟩ | ⟨h, e⟩ <;> rw [e] <;> omega
def kSqQ : Con
  | [.val true [.int x l, .int y m]], G => if decide (l ≤ 100000) && decide (m ≤ 100000) then
      match (BT.and (sqT x) (sqT y)).ev G with
      | some true => some (.tup [(true, [.int (IT.a1 2 x).fold l, .int (IT.a1 2 y).fold m]), (false, [.b (.lit true)])])
      | some false => some (.tup [(true, [.int (.lit 0) 0, .int (.lit 0) 0]), (false, [.b (.lit false)])])
      | none => none
    else none
  | _, _ => none
theorem kSqQ_ok {E : Env} {f : Nat} (hc : ∀ (w : World) (v : Value) (n d : Int), IsPair w v n d → Lim 100000 n → Lim 100000 d → Calls Tryz.prog f #[v] w (RetSqQ n d w))
    (hb : ∃ fn, Tryz.prog.funcs[f]? = some fn ∧ fn.name ≠ "runtime.NumGoroutine" ∧ fn.body.isNone = false) : ConOK Tryz.prog E f kSqQ := by
  refine ⟨?_, ?_, hb⟩
  · intro args G r h hG β w vs hv hlen
    unfold kSqQ at h
    split at h
    · rename_i x l y m
      split at h
      · rename_i hcd
        simp only [Bool.and_eq_true, decide_eq_true_iff] at hcd
        obtain ⟨v, rfl, h1⟩ := args1 hv hlen
        obtain ⟨p1, a1, a2⟩ := one_pair.1 h1
        have key := hc w v _ _ p1 (a1.mono hcd.1) (a2.mono hcd.2)
        have ed : (BT.and (sqT x) (sqT y)).den E = (sqB (x.den E) && sqB (y.den E)) := by
          show ((sqT x).den E && (sqT y).den E) = _
          rw [sqT_den, sqT_den]
        split at h
        · rename_i ho
          have hs := BT.ev_spec hG ho
          rw [ed] at hs
          injection h with h
          subst h
          refine key.mono ?_
          rintro e w' ⟨u, rfl, hp, ex⟩
          unfold sqN at hp
          rw [hs] at hp ⊢
          rw [if_pos rfl, if_pos rfl] at hp
          refine ⟨_, rfl, ⟨[u, .bool true], rfl, u, _, rfl, one_pair.2 ?_, _, _, rfl, one_bool.2 rfl, rfl⟩, ex⟩
          rw [IT.fold_den, IT.fold_den]
          exact ⟨hp, isq_lim a1, isq_lim a2⟩
        · rename_i ho
          have hs := BT.ev_spec hG ho
          rw [ed] at hs
          injection h with h
          subst h
          refine key.mono ?_
          rintro e w' ⟨u, rfl, hp, ex⟩
          unfold sqN at hp
          rw [hs] at hp ⊢
          rw [if_neg (by decide), if_neg (by decide)] at hp
          exact ⟨_, rfl, ⟨[u, .bool false], rfl, u, _, rfl, one_pair.2 ⟨hp, lim_zero, lim_zero⟩, _, _, rfl, one_bool.2 rfl, rfl⟩, ex⟩
        · cases h
      · cases h
    · cases h
  · intro args G r h x off
    unfold kSqQ at h
    split at h
    · split at h
      · split at h
        · injection h with h; subst h; intro e; cases e
        · injection h with h; subst h; intro e; cases e
        · cases h
      · cases h
    · cases h
end Go.Proofs.YtifeacfljfmnpaaGreat
end

section
set_option maxRecDepth 100000
namespace Go.Proofs.YtifeacfljfmnpaaGreat
open Go.RowKit
abbrev RI := Bool × List Nat
def smN (n : Nat) (p q : RI) : Bool := decide (p.2.length ≤ n) && decide (q.2.length ≤ n) && okQ p.1 p.2 q.1 q.2
def rq (p q : RI) : Rat := Rat.divInt (sgn p.1 (val p.2)) (sgn q.1 (val q.2))
theorem smN_rat {n : Nat} {w : World} {v : Value} {p q : RI} (h : RawQ w v p.1 p.2 q.1 q.2) (hs : smN n p q = true) : IsRat w v (rq p q) ∧ LimQ n (rq p q) := by
  obtain ⟨s1, xs1⟩ := p
  obtain ⟨s2, xs2⟩ := q
  unfold smN okQ at hs
  simp only [Bool.and_eq_true, decide_eq_true_iff] at hs
  obtain ⟨⟨c1, c2⟩, ⟨⟨b1, b2⟩, b3⟩, b4⟩ := hs
  have hp := okQ_pair h b1 b2
  have m1 : Lim n (sgn s1 (val xs1)) := by obtain ⟨a, b, c, d, rfl, h1, h2⟩ := h; exact ok_lim h1 b1 c1
  have m2 : Lim n (sgn s2 (val xs2)) := by obtain ⟨a, b, c, d, rfl, h1, h2⟩ := h; exact ok_lim h2 b2 c2
  have hq : (rq (s1, xs1) (s2, xs2)).num = sgn s1 (val xs1) ∧ ((rq (s1, xs1) (s2, xs2)).den : Int) = sgn s2 (val xs2) := by
    unfold rq
    simp only
    generalize sgn s1 (val xs1) = n at *
    generalize sgn s2 (val xs2) = d at *
    have hd : ((d.natAbs : Nat) : Int) = d := by omega
    have e : Rat.divInt n d = ⟨n, d.natAbs, by omega, b4⟩ := by
      rw [Rat.mk_eq_divInt, hd]
    rw [e]
    exact ⟨rfl, hd⟩
  refine ⟨?_, ?_⟩
  · show IsPair w v (rq (s1, xs1) (s2, xs2)).num ((rq (s1, xs1) (s2, xs2)).den : Int)
    rw [hq.1, hq.2]; exact hp
  · refine ⟨?_, ?_⟩
    · rw [hq.1]; exact m1
    · rw [hq.2]; exact m2
def kRVN (n : Nat) : Con
  | [.val true [.raw i, .raw j]], G => if i % 2 == 0 && (j == i + 1 && (decide (n ≤ 100000) && (G.find (.le (.rlen i) (.lit (n : Int))) == some true && G.find (.le (.rlen j) (.lit (n : Int))) == some true))) then some (.val false [.b (.var (i / 2))]) else none
  | _, _ => none
theorem kRVN_ok {n : Nat} {E : Env} (hE : VEnv E) {f : Nat} (hc : ∀ (w : World) (v : Value) (s1 s2 : Bool) (xs1 xs2 : List Nat), RawQ w v s1 xs1 s2 xs2 → xs1.length ≤ 100000 → xs2.length ≤ 100000 → Calls Tryz.prog f #[v] w fun e w' => e = .returned (.bool (okQ s1 xs1 s2 xs2)) ∧ Ext w w')
    (hb : ∃ fn, Tryz.prog.funcs[f]? = some fn ∧ fn.name ≠ "runtime.NumGoroutine" ∧ fn.body.isNone = false) : ConOK Tryz.prog E f (kRVN n) := by
  refine ⟨?_, ?_, hb⟩
  · intro args As r h hG β w vs hv hlen
    unfold kRVN at h
    split at h
    · rename_i i j
      split at h
      · rename_i hlo
        injection h with h
        subst h
        simp only [Bool.and_eq_true, beq_iff_eq, decide_eq_true_iff] at hlo
        obtain ⟨hi, rfl, hn, b1, b2⟩ := hlo
        have c1 := of_decide_eq_true (Asm.find_spec hG b1)
        have c2 := of_decide_eq_true (Asm.find_spec hG b2)
        simp only [IT.den] at c1 c2
        obtain ⟨v, rfl, h1⟩ := args1 hv hlen
        refine (hc w v _ _ _ _ (one_raw2 h1) (by omega) (by omega)).mono ?_
        rintro e w' ⟨rfl, ex⟩
        exact ⟨_, rfl, one_bool.2 (by rw [← hE i hi]; rfl), ex⟩
      · cases h
    · cases h
  · intro args As r h x off
    unfold kRVN at h
    split at h
    · split at h
      · injection h with h; subst h; intro e; cases e
      · cases h
    · cases h
theorem two_raws {E : Env} {w : World} {i j : Nat} {cs : List Chunk} {vs : List Value} :
    chunks E w (.raw i :: .raw j :: cs) vs ↔ ∃ x r, vs = x ++ r ∧ RawQ w (.agg x.toArray) (E.r i).1 (E.r i).2 (E.r j).1 (E.r j).2 ∧ chunks E w cs r := by
  constructor
  · rintro ⟨u0, r0, rfl, ⟨x0, y0, rfl, i0⟩, u1, r1, rfl, ⟨x1, y1, rfl, i1⟩, h⟩
    exact ⟨[x0, y0, x1, y1], r1, rfl, ⟨x0, y0, x1, y1, rfl, i0, i1⟩, h⟩
  · rintro ⟨x, r, rfl, ⟨x0, y0, x1, y1, hx, i0, i1⟩, h⟩
    injection hx with hx
    have hx' : x = [x0, y0, x1, y1] := congrArg Array.toList hx
    subst hx'
    exact ⟨[x0, y0], [x1, y1] ++ r, rfl, ⟨x0, y0, rfl, i0⟩, [x1, y1], r, rfl, ⟨x1, y1, rfl, i1⟩, h⟩
def kVl : Con
  | [x], _ => match qOf x with
    | some (_, m) => if decide (m ≤ 100000) then some (.val false [.b (.lit true)]) else none
    | none => none
  | _, _ => none
theorem rat_raw {w : World} {v : Value} {q : Rat} (h : IsRat w v q) : RawQ w v (decide (q.num < 0)) (limbs q.num.natAbs) (decide ((q.den : Int) < 0)) (limbs (q.den : Int).natAbs) ∧ okQ (decide (q.num < 0)) (limbs q.num.natAbs) (decide ((q.den : Int) < 0)) (limbs (q.den : Int).natAbs) = true := by
  obtain ⟨x0, x1, x2, x3, rfl, i1, i2⟩ := h
  obtain ⟨k1, k2⟩ := int_raw i1
  obtain ⟨k3, k4⟩ := int_raw i2
  refine ⟨⟨_, _, _, _, rfl, k1, k3⟩, ?_⟩
  have e3 : sgn (decide (q.num < 0)) (val (limbs q.num.natAbs)) = q.num := by rw [val_limbs]; exact sgn_self q.num
  have e4 : sgn (decide ((q.den : Int) < 0)) (val (limbs (q.den : Int).natAbs)) = (q.den : Int) := by rw [val_limbs]; exact sgn_self (q.den : Int)
  unfold okQ
  rw [k2, k4, e3, e4, decide_eq_true (show 0 < (q.den : Int) by have := q.den_pos; omega)]
  rw [decide_eq_true (show Nat.gcd q.num.natAbs (q.den : Int).natAbs = 1 from q.reduced)]
  rfl
theorem kVl_ok {E : Env} (hE : QEnv E) {f : Nat} (hc : ∀ (w : World) (v : Value) (s1 s2 : Bool) (xs1 xs2 : List Nat), RawQ w v s1 xs1 s2 xs2 → xs1.length ≤ 100000 → xs2.length ≤ 100000 → Calls Tryz.prog f #[v] w fun e w' => e = .returned (.bool (okQ s1 xs1 s2 xs2)) ∧ Ext w w')
    (hb : ∃ fn, Tryz.prog.funcs[f]? = some fn ∧ fn.name ≠ "runtime.NumGoroutine" ∧ fn.body.isNone = false) : ConOK Tryz.prog E f kVl := by
  refine ⟨?_, ?_, hb⟩
  · intro args As r h hG β w vs hv hlen
    unfold kVl at h
    split at h
    · split at h
      · rename_i x A m hx
        split at h
        · rename_i hm
          rw [decide_eq_true_iff] at hm
          injection h with h
          subst h
          obtain ⟨v, rfl, h1⟩ := args1 hv hlen
          obtain ⟨a, ra, ia, la⟩ := qOf_spec hE hx h1
          obtain ⟨k1, k2⟩ := rat_raw ia
          refine (hc w v _ _ _ _ k1 (Nat.le_trans la.1 hm) (Nat.le_trans la.2 hm)).mono ?_
          rintro e w' ⟨rfl, ex⟩
          exact ⟨_, rfl, one_bool.2 (by rw [k2]; rfl), ex⟩
        · cases h
      · cases h
    · cases h
  · intro args As r h x off
    unfold kVl at h
    split at h
    · split at h
      · split at h
        · injection h with h; subst h; intro e; cases e
        · cases h
      · cases h
    · cases h
end Go.Proofs.YtifeacfljfmnpaaGreat
end

section
set_option maxRecDepth 100000
namespace Go.Proofs.YtifeacfljfmnpaaGreat
open Go.ChangeShapes Go.WideShapes Go.ChangeAt Go.RowKit Go.Joins
theorem open_two {H : Type} {enc : TypeId × Value → H} {W : World} {base : Nat} {spare : Nat → Bool} {held : Bool} {v0 v1 : Value} {y : DataW H × List MemPlace} {n : Nat}
    (h : DataW.trod enc Tryz.prog W base spare held n 24 [v0, v1] = some y) : ∃ neg xs, Raw W (.agg #[v0, v1]) neg xs := by
  obtain ⟨y0, y1, n, hx, _, h0, h1⟩ := trod_struct2 Tryz.underlying24 h
  have cb : Tryz.prog.cellsOf 4 = 1 := by kernel_rfl
  have cs : Tryz.prog.cellsOf 22 = 1 := by kernel_rfl
  exact open_cells (v0 := v0) (v1 := v1) (by simpa [cb] using h0) (by simpa [cs] using h1)
theorem open_rat4 {H : Type} {enc : TypeId × Value → H} {W : World} {base : Nat} {spare : Nat → Bool} {held : Bool} {c0 c1 c2 c3 : Value} {y : DataW H × List MemPlace} {n : Nat}
    (h : DataW.trod enc Tryz.prog W base spare held n 26 [c0, c1, c2, c3] = some y) : ∃ p q : RI, RawQ W (.agg #[c0, c1, c2, c3]) p.1 p.2 q.1 q.2 := by
  have k2 : Tryz.prog.cellsOf 24 = 2 := by kernel_rfl
  obtain ⟨y0, y1, n, hx, _, h0, h1⟩ := trod_struct2 Tryz.underlying26 h
  obtain ⟨s1, xs1, w1⟩ := open_two (v0 := c0) (v1 := c1) (by simpa [Value.cells, k2] using h0)
  obtain ⟨s2, xs2, w2⟩ := open_two (v0 := c2) (v1 := c3) (by simpa [Value.cells, k2] using h1)
  exact ⟨(s1, xs1), (s2, xs2), c0, c1, c2, c3, rfl, w1, w2⟩
end Go.Proofs.YtifeacfljfmnpaaGreat
end

section
set_option maxRecDepth 100000
namespace Go.Proofs.YtifeacfljfmnpaaGreat
abbrev Sq := Nat → Rat
def Null (f : Sq) : Prop := ∀ e : Rat, 0 < e → ∃ K, ∀ k, K ≤ k → -e ≤ f k ∧ f k ≤ e
def PosS (f : Sq) : Prop := ∃ e : Rat, 0 < e ∧ ∃ K, ∀ k, K ≤ k → e ≤ f k
def Bdd (f : Sq) : Prop := ∃ b : Rat, 0 < b ∧ ∀ k, -b ≤ f k ∧ f k ≤ b
def HasSg (f : Sq) (s : Int) : Prop := (s = 1 ∧ PosS f) ∨ (s = 0 ∧ Null f) ∨ (s = -1 ∧ PosS fun k => - f k)
theorem le_tot (a b : Rat) : a ≤ b ∨ b ≤ a := Rat.le_total
theorem mul_le {a b x y : Rat} (ha : 0 ≤ a) (hx : a ≤ x) (hb : 0 ≤ b) (hy : b ≤ y) : a * b ≤ x * y := by
  have h1 : 0 ≤ (x - a) * y := Rat.mul_nonneg (by grind) (by grind)
  have h2 : 0 ≤ a * (y - b) := Rat.mul_nonneg ha (by grind)
  grind
theorem half_pos {e : Rat} (h : 0 < e) : 0 < e / 2 := by grind
theorem null_congr {f g : Sq} (h : ∀ k, f k = g k) (n : Null f) : Null g := by
  obtain rfl : f = g := funext h
  exact n
theorem pos_congr {f g : Sq} (h : ∀ k, f k = g k) (n : PosS f) : PosS g := by
  obtain rfl : f = g := funext h
  exact n
theorem HasSg.of_eq {f g : Sq} {s : Int} (n : HasSg f s) (h : ∀ k, f k = g k) : HasSg g s := by
  obtain rfl : f = g := funext h
  exact n
theorem null_add {f g : Sq} (h : Null f) (k : Null g) : Null fun n => f n + g n := by
  intro e he
  obtain ⟨K, hK⟩ := h (e / 2) (half_pos he)
  obtain ⟨L, hL⟩ := k (e / 2) (half_pos he)
  refine ⟨max K L, fun n hn => ?_⟩
  have := hK n (by omega)
  have := hL n (by omega)
  grind
theorem null_neg {f : Sq} (h : Null f) : Null fun n => - f n := by
  intro e he
  obtain ⟨K, hK⟩ := h e he
  exact ⟨K, fun n hn => by have := hK n hn; grind⟩
theorem abs_mul_le {b e x y : Rat} (_ : 0 < b) (_ : 0 < e) (h1 : -b ≤ x) (h2 : x ≤ b) (h3 : -e ≤ y) (h4 : y ≤ e) : -(b * e) ≤ x * y ∧ x * y ≤ b * e := by
  have k1 : 0 ≤ (b - x) * (e + y) := Rat.mul_nonneg (by grind) (by grind)
  have k2 : 0 ≤ (b + x) * (e - y) := Rat.mul_nonneg (by grind) (by grind)
  have k3 : 0 ≤ (b - x) * (e - y) := Rat.mul_nonneg (by grind) (by grind)
  have k4 : 0 ≤ (b + x) * (e + y) := Rat.mul_nonneg (by grind) (by grind)
  grind
theorem div_pos' {e b : Rat} (he : 0 < e) (hb : 0 < b) : 0 < e / b := by
  rw [Rat.div_def]
  exact Rat.mul_pos he (Rat.inv_pos.2 hb)
theorem mul_div' {e b : Rat} (hb : 0 < b) : b * (e / b) = e := by
  have : b ≠ 0 := by grind
  grind
theorem null_mul {f g : Sq} (h : Bdd f) (k : Null g) : Null fun n => f n * g n := by
  intro e he
  obtain ⟨b, hb, hf⟩ := h
  obtain ⟨K, hK⟩ := k (e / b) (div_pos' he hb)
  refine ⟨K, fun n hn => ?_⟩
  have h1 := hK n hn
  have h2 := hf n
  have := abs_mul_le hb (div_pos' he hb) h2.1 h2.2 h1.1 h1.2
  rw [mul_div' hb] at this
  exact this
theorem null_zero : Null fun _ => 0 := fun e he => ⟨0, fun n _ => by grind⟩
theorem bdd_const (c : Rat) : Bdd fun _ => c := by
  rcases le_tot 0 c with h | h
  · exact ⟨c + 1, by grind, fun k => by grind⟩
  · exact ⟨1 - c, by grind, fun k => by grind⟩
theorem bdd_add {f g : Sq} (h : Bdd f) (k : Bdd g) : Bdd fun n => f n + g n := by
  obtain ⟨b, hb, h⟩ := h
  obtain ⟨c, hc, k⟩ := k
  exact ⟨b + c, by grind, fun n => by have := h n; have := k n; grind⟩
theorem bdd_neg {f : Sq} (h : Bdd f) : Bdd fun n => - f n := by
  obtain ⟨b, hb, h⟩ := h
  exact ⟨b, hb, fun n => by have := h n; grind⟩
theorem bdd_mul {f g : Sq} (h : Bdd f) (k : Bdd g) : Bdd fun n => f n * g n := by
  obtain ⟨b, hb, h⟩ := h
  obtain ⟨c, hc, k⟩ := k
  exact ⟨b * c, Rat.mul_pos hb hc, fun n => abs_mul_le hb hc (h n).1 (h n).2 (k n).1 (k n).2⟩
theorem bdd_congr {f g : Sq} (h : ∀ k, f k = g k) (n : Bdd f) : Bdd g := by
  obtain rfl : f = g := funext h
  exact n
theorem bdd_sub {f g : Sq} (h : Bdd f) (k : Bdd g) : Bdd fun n => f n - g n := bdd_congr (fun n => by grind) (bdd_add h (bdd_neg k))
theorem pos_add_null {f g : Sq} (h : PosS f) (k : Null g) : PosS fun n => f n + g n := by
  obtain ⟨e, he, K, hK⟩ := h
  obtain ⟨L, hL⟩ := k (e / 2) (half_pos he)
  refine ⟨e / 2, half_pos he, max K L, fun n hn => ?_⟩
  have := hK n (by omega)
  have := hL n (by omega)
  grind
theorem pos_add {f g : Sq} (h : PosS f) (k : PosS g) : PosS fun n => f n + g n := by
  obtain ⟨e, he, K, hK⟩ := h
  obtain ⟨e', he', L, hL⟩ := k
  refine ⟨e + e', by grind, max K L, fun n hn => ?_⟩
  have := hK n (by omega)
  have := hL n (by omega)
  grind
theorem pos_mul {f g : Sq} (h : PosS f) (k : PosS g) : PosS fun n => f n * g n := by
  obtain ⟨e, he, K, hK⟩ := h
  obtain ⟨e', he', L, hL⟩ := k
  refine ⟨e * e', Rat.mul_pos he he', max K L, fun n hn => ?_⟩
  exact mul_le (by grind) (hK n (by omega)) (by grind) (hL n (by omega))
theorem not_pos_null {f : Sq} (h : PosS f) (k : Null f) : False := by
  obtain ⟨e, he, K, hK⟩ := h
  obtain ⟨L, hL⟩ := k (e / 2) (half_pos he)
  have := hK (max K L) (by omega)
  have := hL (max K L) (by omega)
  grind
theorem not_pos_neg {f : Sq} (h : PosS f) (k : PosS fun n => - f n) : False := by
  obtain ⟨e, he, K, hK⟩ := h
  obtain ⟨e', he', L, hL⟩ := k
  have := hK (max K L) (by omega)
  have := hL (max K L) (by omega)
  grind
theorem not_negp_null {f : Sq} (h : PosS fun n => - f n) (k : Null f) : False := not_pos_null h (null_neg k)
theorem HasSg.unique {f : Sq} {s t : Int} (h : HasSg f s) (k : HasSg f t) : s = t := by
  rcases h with ⟨rfl, h⟩ | ⟨rfl, h⟩ | ⟨rfl, h⟩ <;> rcases k with ⟨rfl, k⟩ | ⟨rfl, k⟩ | ⟨rfl, k⟩ <;> first | rfl | exact (not_pos_null h k).elim | exact (not_pos_null k h).elim | exact (not_pos_neg h k).elim | exact (not_pos_neg k h).elim | exact (not_negp_null h k).elim | exact (not_negp_null k h).elim
theorem HasSg.neg {f : Sq} {s : Int} (h : HasSg f s) : HasSg (fun n => - f n) (-s) := by
  rcases h with ⟨rfl, h⟩ | ⟨rfl, h⟩ | ⟨rfl, h⟩
  · exact .inr (.inr ⟨rfl, pos_congr (fun k => by grind) h⟩)
  · exact .inr (.inl ⟨rfl, null_neg h⟩)
  · exact .inl ⟨rfl, h⟩
theorem HasSg.add_null {f g : Sq} {s : Int} (h : HasSg f s) (k : Null g) : HasSg (fun n => f n + g n) s := by
  rcases h with ⟨rfl, h⟩ | ⟨rfl, h⟩ | ⟨rfl, h⟩
  · exact .inl ⟨rfl, pos_add_null h k⟩
  · exact .inr (.inl ⟨rfl, null_add h k⟩)
  · exact .inr (.inr ⟨rfl, pos_congr (fun n => by grind) (pos_add_null h (null_neg k))⟩)
theorem HasSg.near {f g : Sq} {s : Int} (h : HasSg f s) (k : Null fun n => g n - f n) : HasSg g s := (h.add_null k).of_eq fun n => by grind
theorem HasSg.range {f : Sq} {s : Int} (h : HasSg f s) : s = 1 ∨ s = 0 ∨ s = -1 := by
  rcases h with ⟨rfl, h⟩ | ⟨rfl, h⟩ | ⟨rfl, h⟩ <;> simp
theorem HasSg.mul {f g : Sq} {s t : Int} (h : HasSg f s) (k : HasSg g t) (bf : Bdd f) (bg : Bdd g) : HasSg (fun n => f n * g n) (s * t) := by
  rcases h with ⟨rfl, h⟩ | ⟨rfl, h⟩ | ⟨rfl, h⟩
  · rcases k with ⟨rfl, k⟩ | ⟨rfl, k⟩ | ⟨rfl, k⟩
    · exact .inl ⟨rfl, pos_mul h k⟩
    · exact .inr (.inl ⟨rfl, null_mul bf k⟩)
    · exact .inr (.inr ⟨rfl, pos_congr (fun n => by grind) (pos_mul h k)⟩)
  · exact .inr (.inl ⟨by omega, null_congr (fun n => by grind) (null_mul bg h)⟩)
  · rcases k with ⟨rfl, k⟩ | ⟨rfl, k⟩ | ⟨rfl, k⟩
    · exact .inr (.inr ⟨rfl, pos_congr (fun n => by grind) (pos_mul h k)⟩)
    · exact .inr (.inl ⟨rfl, null_mul bf k⟩)
    · exact .inl ⟨rfl, pos_congr (fun n => by grind) (pos_mul h k)⟩
theorem pos_cancel {u v : Sq} (bu : Bdd u) (hu : PosS u) (h : PosS fun n => u n * v n) : PosS v := by
  obtain ⟨b, hb, hB⟩ := bu
  obtain ⟨e, he, K, hK⟩ := hu
  obtain ⟨e', he', L, hL⟩ := h
  refine ⟨e' / b, div_pos' he' hb, max K L, fun n hn => ?_⟩
  have h1 := hK n (by omega)
  have h2 : e' ≤ u n * v n := hL n (by omega)
  have h3 := hB n
  rcases le_tot (e' / b) (v n) with h | h
  · exact h
  · -- v n ≤ e'/b; u v ≥ e'
    have hv : 0 < v n := by
      rcases le_tot (v n) 0 with q | q
      · have : 0 ≤ u n * (- v n) := Rat.mul_nonneg (by grind) (by grind)
        grind
      · by_cases q0 : v n = 0
        · rw [q0] at h2; grind
        · grind
    have h5 : 0 ≤ (b - u n) * v n := Rat.mul_nonneg (by grind) (by grind)
    have h6 : b * (e' / b) = e' := mul_div' hb
    have h7 : 0 ≤ b * v n - b * (e' / b) := by grind
    by_cases q : v n = e' / b
    · grind
    · have : 0 < b * (e' / b - v n) := Rat.mul_pos hb (by grind)
      grind
theorem null_cancel {u v : Sq} (hu : PosS u) (h : Null fun n => u n * v n) : Null v := by
  obtain ⟨e, he, K, hK⟩ := hu
  intro d hd
  obtain ⟨L, hL⟩ := h (e * d) (Rat.mul_pos he hd)
  refine ⟨max K L, fun n hn => ?_⟩
  have h1 := hK n (by omega)
  have h2 := hL n (by omega)
  constructor
  · rcases le_tot (-d) (v n) with q | q
    · exact q
    · by_cases q0 : v n = -d
      · grind
      · have k1 : 0 < e * (-d - v n) := Rat.mul_pos he (by grind)
        have k2 : 0 ≤ (u n - e) * (- v n) := Rat.mul_nonneg (by grind) (by grind)
        grind
  · rcases le_tot (v n) d with q | q
    · exact q
    · by_cases q0 : v n = d
      · grind
      · have k1 : 0 < e * (v n - d) := Rat.mul_pos he (by grind)
        have k2 : 0 ≤ (u n - e) * (v n) := Rat.mul_nonneg (by grind) (by grind)
        grind
theorem HasSg.cancel {u v : Sq} {s : Int} (bu : Bdd u) (hu : PosS u) (h : HasSg (fun n => u n * v n) s) : HasSg v s := by
  rcases h with ⟨rfl, h⟩ | ⟨rfl, h⟩ | ⟨rfl, h⟩
  · exact .inl ⟨rfl, pos_cancel bu hu h⟩
  · exact .inr (.inl ⟨rfl, null_cancel hu h⟩)
  · exact .inr (.inr ⟨rfl, pos_cancel bu hu (pos_congr (fun n => by grind) h)⟩)
def sumSg (s t d : Int) : Int := if s = 0 then t else if t = 0 then s else if s = t then s else s * d
theorem HasSg.sum {f g : Sq} {s t d : Int} (h : HasSg f s) (k : HasSg g t) (bf : Bdd f) (bg : Bdd g) (hd : HasSg (fun n => f n * f n - g n * g n) d) : HasSg (fun n => f n + g n) (sumSg s t d) := by
  unfold sumSg
  rcases h with ⟨rfl, h⟩ | ⟨rfl, h⟩ | ⟨rfl, h⟩
  · rcases k with ⟨rfl, k⟩ | ⟨rfl, k⟩ | ⟨rfl, k⟩
    · exact .inl ⟨rfl, pos_add h k⟩
    · exact .inl ⟨rfl, pos_add_null h k⟩
    · rw [if_neg (by decide), if_neg (by decide), if_neg (by decide), Int.one_mul]
      refine HasSg.cancel (u := fun n => f n - g n) (bdd_sub bf bg) (pos_congr (fun n => by grind) (pos_add h k)) (hd.of_eq fun n => by grind)
  · rw [if_pos rfl]
    exact (k.add_null h).of_eq fun n => by grind
  · rcases k with ⟨rfl, k⟩ | ⟨rfl, k⟩ | ⟨rfl, k⟩
    · rw [if_neg (by decide), if_neg (by decide), if_neg (by decide)]
      have := HasSg.cancel (u := fun n => g n - f n) (v := fun n => f n + g n) (s := -d) (bdd_sub bg bf) (pos_congr (fun n => by grind) (pos_add h k)) (hd.neg.of_eq fun n => by grind)
      rw [show -1 * d = -d by omega]
      exact this
    · exact .inr (.inr ⟨rfl, pos_congr (fun n => by grind) (pos_add_null h (null_neg k))⟩)
    · exact .inr (.inr ⟨rfl, pos_congr (fun n => by grind) (pos_add h k)⟩)
def sgQ' (a : Rat) : Int := if 0 < a then 1 else if a = 0 then 0 else -1
theorem hasSg_const (a : Rat) : HasSg (fun _ => a) (sgQ' a) := by
  unfold sgQ'
  split
  · rename_i h; exact .inl ⟨rfl, a, h, 0, fun _ _ => by grind⟩
  · split
    · rename_i h; subst h; exact .inr (.inl ⟨rfl, null_zero⟩)
    · exact .inr (.inr ⟨rfl, -a, by grind, 0, fun _ _ => by grind⟩)
structure IsRt (c : Rat) (m : Sq) : Prop where
  nn : ∀ k, 0 ≤ m k
  le : ∀ k, m k * m k ≤ c
  lim : Null fun k => c - m k * m k
  low : ∀ (j : Nat), (j : Rat) * (j : Rat) ≤ c * (65536 * 65536) → ∀ k, (j : Rat) ≤ m k * 65536
theorem nat_sqrt (n : Nat) : ∃ t : Nat, t * t ≤ n ∧ n < (t + 1) * (t + 1) := by
  induction n with
  | zero => exact ⟨0, by omega, by omega⟩
  | succ n ih =>
    obtain ⟨t, h1, h2⟩ := ih
    by_cases h : n + 1 < (t + 1) * (t + 1)
    · exact ⟨t, by omega, h⟩
    · refine ⟨t + 1, by omega, ?_⟩
      have : (t + 1 + 1) * (t + 1 + 1) = (t + 1) * (t + 1) + 2 * t + 3 := by
        simp only [Nat.add_mul, Nat.mul_add]; omega
      omega
theorem rt_sq_mono {x y : Rat} (_ : 0 ≤ x) (hy : 0 ≤ y) (h : x * x < y * y) : x < y := by
  rcases le_tot y x with q | q
  · have := mul_le hy q hy q
    grind
  · by_cases e : x = y
    · subst e; grind
    · grind
theorem mul_den' (e : Rat) : e * (e.den : Rat) = (e.num : Rat) := by
  have h : (e.den : Rat) ≠ 0 := by
    have := e.den_pos
    intro h
    have h' : ((e.den : Nat) : Rat) = ((0 : Nat) : Rat) := h
    have := Rat.natCast_inj.1 h'
    omega
  have := Rat.num_divInt_den e
  rw [Rat.divInt_eq_div] at this
  have h2 : ((e.den : Int) : Rat) = (e.den : Rat) := Rat.intCast_natCast _
  rw [h2] at this
  have h3 : (e.den : Rat) * ((e.num : Rat) / (e.den : Rat)) = (e.num : Rat) := by grind
  rw [this] at h3
  grind
theorem num_pos' {e : Rat} (h : 0 < e) : 0 < e.num := by
  have h1 := Rat.num_nonneg.2 (show (0 : Rat) ≤ e by grind)
  by_cases q : e.num = 0
  · rw [Rat.num_eq_zero] at q; grind
  · omega
theorem exists_unit {e : Rat} (he : 0 < e) : ∃ K : Nat, ∀ k : Nat, K ≤ k → 1 / ((k : Rat) + 1) ≤ e := by
  refine ⟨e.den, fun k hk => ?_⟩
  have h1 : (0 : Rat) < (k : Rat) + 1 := by
    have : (0 : Rat) ≤ (k : Rat) := Rat.natCast_nonneg
    grind
  have h2 : 1 ≤ e * (e.den : Rat) := by
    have hn : 0 < e.num := num_pos' he
    rw [mul_den' e]
    have : ((1 : Int) : Rat) ≤ (e.num : Rat) := Rat.intCast_le_intCast.2 (by omega)
    exact this
  have h3 : (e.den : Rat) ≤ (k : Rat) := Rat.natCast_le_natCast.2 hk
  have h4 : 0 ≤ e * ((k : Rat) - (e.den : Rat)) := Rat.mul_nonneg (by grind) (by grind)
  have h5 : ((k : Rat) + 1) * (1 / ((k : Rat) + 1)) = 1 := mul_div' h1
  rcases le_tot (1 / ((k : Rat) + 1)) e with q | q
  · exact q
  · have : 0 ≤ ((k : Rat) + 1) * (1 / ((k : Rat) + 1) - e) := Rat.mul_nonneg (by grind) (by grind)
    grind
theorem hlp1 {u v d w e : Rat} (hu : 0 < u) (hd : 0 < d) (a1 : u * v = 1) (a2 : d * w = e) (h : v ≤ w) : d ≤ e * u := by
  have : 0 ≤ (d * u) * (w - v) := Rat.mul_nonneg (Rat.mul_nonneg (by grind) (by grind)) (by grind)
  have e1 : (d * u) * (w - v) = (d * w) * u - d * (u * v) := by grind
  rw [e1, a1, a2] at this
  grind
theorem hlp2 {u c m e : Rat} (_ : 0 < e) (hu : 1 ≤ u) (h5 : 0 ≤ m) (g1 : 2 * c + 3 ≤ e * u) (g2 : m ≤ c + 1) (h1 : c * (65536 * u * (65536 * u)) < (65536 * u * m + 1) * (65536 * u * m + 1)) : c - m * m ≤ e := by
  rcases le_tot (c - m * m) e with q | q
  · exact q
  · have b3 : 0 ≤ (u * u) * (c - m * m - e) := Rat.mul_nonneg (Rat.mul_nonneg (by grind) (by grind)) (by grind)
    have b4 : 0 ≤ u * (c + 1 - m) := Rat.mul_nonneg (by grind) (by grind)
    have b5 : 0 ≤ u * (e * u - (2 * c + 3)) := Rat.mul_nonneg (by grind) (by grind)
    have b6 : c * (65536 * u * (65536 * u)) = 4294967296 * (c * (u * u)) := by grind
    have b7 : (65536 * u * m + 1) * (65536 * u * m + 1) = 4294967296 * (u * u * (m * m)) + 131072 * (u * m) + 1 := by grind
    have b8 : 0 ≤ u * m := Rat.mul_nonneg (by grind) h5
    have b9 : 0 < u * u := Rat.mul_pos (by grind) (by grind)
    rw [b6, b7] at h1
    grind
theorem exists_rt {c : Rat} (hc : 0 ≤ c) : ∃ m, IsRt c m := by
  have hD : ∀ k : Nat, (0 : Rat) < 65536 * ((k : Rat) + 1) := fun k => by
    have : (0 : Rat) ≤ (k : Rat) := Rat.natCast_nonneg
    grind
  have key : ∀ k : Nat, ∃ t : Nat, (t : Rat) * (t : Rat) ≤ c * ((65536 * ((k : Rat) + 1)) * (65536 * ((k : Rat) + 1))) ∧ c * ((65536 * ((k : Rat) + 1)) * (65536 * ((k : Rat) + 1))) < ((t : Rat) + 1) * ((t : Rat) + 1) := by
    intro k
    have hx : 0 ≤ c * ((65536 * ((k : Rat) + 1)) * (65536 * ((k : Rat) + 1))) := Rat.mul_nonneg hc (Rat.mul_nonneg (by have := hD k; grind) (by have := hD k; grind))
    generalize c * ((65536 * ((k : Rat) + 1)) * (65536 * ((k : Rat) + 1))) = x at hx
    obtain ⟨t, h1, h2⟩ := nat_sqrt x.floor.toNat
    have hf : 0 ≤ x.floor := Rat.le_floor_iff.2 (by simpa using hx)
    refine ⟨t, ?_, ?_⟩
    · have : ((t * t : Nat) : Int) ≤ x.floor := by omega
      have := Rat.le_floor_iff.1 this
      simpa [Rat.intCast_natCast] using this
    · have : x.floor < (((t + 1) * (t + 1) : Nat) : Int) := by omega
      have := Rat.floor_lt_iff.1 this
      simpa [Rat.intCast_natCast] using this
  obtain ⟨t, ht⟩ : ∃ t : Nat → Nat, ∀ k, (t k : Rat) * (t k : Rat) ≤ c * ((65536 * ((k : Rat) + 1)) * (65536 * ((k : Rat) + 1))) ∧ c * ((65536 * ((k : Rat) + 1)) * (65536 * ((k : Rat) + 1))) < ((t k : Rat) + 1) * ((t k : Rat) + 1) :=
    ⟨fun k => (key k).choose, fun k => (key k).choose_spec⟩
  have hm : ∀ k : Nat, (65536 * ((k : Rat) + 1)) * ((t k : Rat) / (65536 * ((k : Rat) + 1))) = (t k : Rat) := fun k => mul_div' (hD k)
  have hnn : ∀ k : Nat, 0 ≤ (t k : Rat) / (65536 * ((k : Rat) + 1)) := by
    intro k
    rw [Rat.div_def]
    exact Rat.mul_nonneg Rat.natCast_nonneg (by have := Rat.inv_pos.2 (hD k); grind)
  have hle : ∀ k : Nat, (t k : Rat) / (65536 * ((k : Rat) + 1)) * ((t k : Rat) / (65536 * ((k : Rat) + 1))) ≤ c := by
    intro k
    have h1 := (ht k).1
    have h2 := hm k
    have h3 := hD k
    generalize (t k : Rat) / (65536 * ((k : Rat) + 1)) = m at *
    generalize 65536 * ((k : Rat) + 1) = D at *
    rw [← h2] at h1
    rcases le_tot (m * m) c with q | q
    · exact q
    · by_cases e : m * m = c
      · rw [e]; exact Rat.le_refl
      · have : 0 < D * D * (m * m - c) := Rat.mul_pos (Rat.mul_pos h3 h3) (by grind)
        grind
  refine ⟨fun k => (t k : Rat) / (65536 * ((k : Rat) + 1)), hnn, hle, ?_, ?_⟩
  · intro e he
    have hc3 : (0 : Rat) < 2 * c + 3 := by grind
    obtain ⟨K, hK⟩ := exists_unit (div_pos' he hc3)
    refine ⟨K, fun k hk => ?_⟩
    have h1 := (ht k).2
    have h2 := hm k
    have h4 := hle k
    have h5 := hnn k
    have h6 := hK k hk
    have hk1 : (0 : Rat) < (k : Rat) + 1 := by have := hD k; grind
    have hk2 : (1 : Rat) ≤ (k : Rat) + 1 := by
      have : (0 : Rat) ≤ (k : Rat) := Rat.natCast_nonneg
      grind
    show -e ≤ c - (t k : Rat) / (65536 * ((k : Rat) + 1)) * ((t k : Rat) / (65536 * ((k : Rat) + 1))) ∧ c - (t k : Rat) / (65536 * ((k : Rat) + 1)) * ((t k : Rat) / (65536 * ((k : Rat) + 1))) ≤ e
    generalize (t k : Rat) / (65536 * ((k : Rat) + 1)) = m at *
    have g1 : 2 * c + 3 ≤ e * ((k : Rat) + 1) := hlp1 hk1 hc3 (mul_div' hk1) (mul_div' hc3) h6
    generalize (k : Rat) + 1 = u at *
    have g2 : m ≤ c + 1 := by
      rcases le_tot m (c + 1) with q | q
      · exact q
      · have := mul_le (show 0 ≤ c + 1 by grind) q (show 0 ≤ c + 1 by grind) q
        have : 0 ≤ c * c := Rat.mul_nonneg hc hc
        grind
    rw [← h2] at h1
    refine ⟨by grind, hlp2 he hk2 h5 g1 g2 h1⟩
  · intro j hj k
    have h1 := (ht k).2
    have h2 := hm k
    have hk1 : (0 : Rat) < (k : Rat) + 1 := by have := hD k; grind
    have g1 : (j : Rat) * ((k : Rat) + 1) < (t k : Rat) + 1 := by
      refine rt_sq_mono ?_ ?_ ?_
      · exact Rat.mul_nonneg Rat.natCast_nonneg (by grind)
      · have : (0 : Rat) ≤ (t k : Rat) := Rat.natCast_nonneg
        grind
      · have : 0 ≤ (((k : Rat) + 1) * ((k : Rat) + 1)) * (c * (65536 * 65536) - (j : Rat) * (j : Rat)) := Rat.mul_nonneg (Rat.mul_nonneg (by grind) (by grind)) (by grind)
        grind
    have g2 : j * (k + 1) < t k + 1 := by
      have : ((j * (k + 1) : Nat) : Rat) < ((t k + 1 : Nat) : Rat) := by simpa using g1
      exact Rat.natCast_lt_natCast.1 this
    have g3 : (j : Rat) * ((k : Rat) + 1) ≤ (t k : Rat) := by
      have : ((j * (k + 1) : Nat) : Rat) ≤ ((t k : Nat) : Rat) := Rat.natCast_le_natCast.2 (by omega)
      simpa using this
    show (j : Rat) ≤ (t k : Rat) / (65536 * ((k : Rat) + 1)) * 65536
    generalize (t k : Rat) / (65536 * ((k : Rat) + 1)) = m at *
    rw [← h2] at g3
    rcases le_tot (j : Rat) (m * 65536) with q | q
    · exact q
    · have : 0 ≤ ((k : Rat) + 1) * ((j : Rat) - m * 65536) := Rat.mul_nonneg (by grind) (by grind)
      by_cases e : (j : Rat) = m * 65536
      · grind
      · have : 0 < ((k : Rat) + 1) * ((j : Rat) - m * 65536) := Rat.mul_pos hk1 (by grind)
        grind
theorem IsRt.bdd {c : Rat} {m : Sq} (hc : 0 ≤ c) (h : IsRt c m) : Bdd m := by
  refine ⟨c + 1, by grind, fun k => ⟨by have := h.nn k; grind, ?_⟩⟩
  have := h.le k
  rcases le_tot (m k) (c + 1) with q | q
  · exact q
  · have := mul_le (show 0 ≤ c + 1 by grind) q (show 0 ≤ c + 1 by grind) q
    have : 0 ≤ c * c := Rat.mul_nonneg hc hc
    grind
theorem IsRt.zero {m : Sq} (h : IsRt 0 m) : ∀ k, m k = 0 := by
  intro k
  have h1 := h.le k
  have h2 := h.nn k
  by_cases e : m k = 0
  · exact e
  · have : 0 < m k * m k := Rat.mul_pos (by grind) (by grind)
    grind
theorem IsRt.pos {c : Rat} {m : Sq} (hc : 0 < c) (h : IsRt c m) : PosS m := by
  have h1 : PosS fun k => m k * m k := by
    have := pos_add_null (f := fun _ => c) ⟨c, hc, 0, fun _ _ => Rat.le_refl⟩ (null_neg h.lim)
    exact pos_congr (fun k => by grind) this
  obtain ⟨e, he, K, hK⟩ := h1
  refine ⟨e / (c + 1), div_pos' he (by grind), K, fun k hk => ?_⟩
  have h2 := hK k hk
  have h3 := h.nn k
  have h4 : m k ≤ c + 1 := by
    have := h.le k
    rcases le_tot (m k) (c + 1) with q | q
    · exact q
    · have := mul_le (show 0 ≤ c + 1 by grind) q (show 0 ≤ c + 1 by grind) q
      have : 0 < c * c := Rat.mul_pos hc hc
      grind
  have h5 : (c + 1) * (e / (c + 1)) = e := mul_div' (by grind)
  have h6 : 0 ≤ m k * (c + 1 - m k) := Rat.mul_nonneg h3 (by grind)
  rcases le_tot (e / (c + 1)) (m k) with q | q
  · exact q
  · by_cases e0 : e / (c + 1) = m k
    · grind
    · have : 0 < (c + 1) * (e / (c + 1) - m k) := Rat.mul_pos (by grind) (by grind)
      grind
theorem IsRt.sg {c : Rat} {m : Sq} (hc : 0 ≤ c) (h : IsRt c m) : HasSg m (sgQ' c) := by
  unfold sgQ'
  split
  · rename_i q; exact .inl ⟨rfl, h.pos q⟩
  · split
    · rename_i q
      subst q
      exact .inr (.inl ⟨rfl, null_congr (fun k => (h.zero k).symm) null_zero⟩)
    · grind
end Go.Proofs.YtifeacfljfmnpaaGreat
end
