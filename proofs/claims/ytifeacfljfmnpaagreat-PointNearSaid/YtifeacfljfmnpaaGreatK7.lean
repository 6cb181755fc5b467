/-
  Texts of this seat, joined.
-/
import Derived.Test.YtifeacfljfmnpaaGreatK6
section
set_option maxRecDepth 100000
namespace Go.Proofs.YtifeacfljfmnpaaGreat
open Go.RowKit
def bq (k : Nat) : Rat := (((1000000000 : Int) ^ k : Int) : Rat)
theorem bi_pos (k : Nat) : (0 : Int) < (1000000000 : Int) ^ k := Int.pow_pos (by decide)
theorem bq_pos (k : Nat) : 0 < bq k := Rat.intCast_pos.2 (bi_pos k)
theorem bq_one (k : Nat) : 1 ≤ bq k := by
  have h := bi_pos k
  have : ((1 : Int) : Rat) ≤ (((1000000000 : Int) ^ k : Int) : Rat) := Rat.intCast_le_intCast.2 (by omega)
  exact this
theorem bq_add (k l : Nat) : bq (k + l) = bq k * bq l := by
  unfold bq
  rw [Int.pow_add, Rat.intCast_mul]
theorem lim_abs {k : Nat} {z : Int} (h : Lim k z) : -((1000000000 : Int) ^ k) < z ∧ z < (1000000000 : Int) ^ k := by
  have h1 : z.natAbs < 1000000000 ^ k := z4q h
  have h2 : ((z.natAbs : Nat) : Int) < ((1000000000 ^ k : Nat) : Int) := by omega
  rw [Int.natCast_pow] at h2
  have h3 : ((1000000000 : Nat) : Int) = 1000000000 := rfl
  rw [h3] at h2
  omega
theorem den_mul (q : Rat) : q * ((q.den : Int) : Rat) = (q.num : Rat) := by
  have h := Rat.num_divInt_den q
  have hd : ((q.den : Int) : Rat) ≠ 0 := by
    have := q.den_pos
    have : (0 : Rat) < ((q.den : Int) : Rat) := Rat.intCast_pos.2 (by omega)
    grind
  rw [Rat.divInt_eq_div] at h
  have h2 := Rat.div_mul_cancel (a := (q.num : Rat)) hd
  rw [h] at h2
  exact h2
theorem limQ_abs {k : Nat} {q : Rat} (h : LimQ k q) : -(bq k) ≤ q ∧ q ≤ bq k := by
  obtain ⟨h1, h2⟩ := lim_abs h.1
  have hd := q.den_pos
  have e := den_mul q
  have dp : (1 : Rat) ≤ ((q.den : Int) : Rat) := by
    have : ((1 : Int) : Rat) ≤ ((q.den : Int) : Rat) := Rat.intCast_le_intCast.2 (by omega)
    exact this
  have n1 : (q.num : Rat) < bq k := Rat.intCast_lt_intCast.2 h2
  have n2 : -(bq k) < (q.num : Rat) := by
    have : ((-((1000000000 : Int) ^ k) : Int) : Rat) < (q.num : Rat) := Rat.intCast_lt_intCast.2 h1
    rw [Rat.intCast_neg] at this
    exact this
  have bp := bq_pos k
  constructor
  · refine Decidable.byContradiction fun hn => ?_
    have := Rat.mul_nonneg (a := -q) (b := ((q.den : Int) : Rat) - 1) (by grind) (by grind)
    grind
  · refine Decidable.byContradiction fun hn => ?_
    have := Rat.mul_nonneg (a := q) (b := ((q.den : Int) : Rat) - 1) (by grind) (by grind)
    grind
theorem limQ_low {k : Nat} {q : Rat} (h : LimQ k q) : (0 < q → 1 ≤ bq k * q) ∧ (q < 0 → 1 ≤ bq k * (-q)) := by
  obtain ⟨_, h2⟩ := lim_abs h.2
  have hd := q.den_pos
  have e := den_mul q
  have d2 : ((q.den : Int) : Rat) < bq k := Rat.intCast_lt_intCast.2 h2
  have hn := num_pos_iff q
  have hz : q.num = 0 ↔ q = 0 := Rat.num_eq_zero
  constructor
  · intro hq
    have k1 : ((1 : Int) : Rat) ≤ (q.num : Rat) := Rat.intCast_le_intCast.2 (by have := hn.2 hq; omega)
    have k1' : (1 : Rat) ≤ (q.num : Rat) := k1
    have := Rat.mul_nonneg (a := bq k - ((q.den : Int) : Rat)) (b := q) (by grind) (by grind)
    grind
  · intro hq
    have h0 : q.num < 0 := by
      have a1 : ¬ 0 < q.num := fun k => by have := hn.1 k; grind
      have a2 : q.num ≠ 0 := fun k => by have := hz.1 k; grind
      omega
    have k1 : (q.num : Rat) ≤ ((-1 : Int) : Rat) := Rat.intCast_le_intCast.2 (by omega)
    have k1' : (q.num : Rat) ≤ -1 := k1
    have := Rat.mul_nonneg (a := bq k - ((q.den : Int) : Rat)) (b := -q) (by grind) (by grind)
    grind
theorem mul_abs {u v U V : Rat} (h1 : -U ≤ u) (h2 : u ≤ U) (h3 : -V ≤ v) (h4 : v ≤ V) : -(U * V) ≤ u * v ∧ u * v ≤ U * V := by
  have a := Rat.mul_nonneg (a := U - u) (b := V + v) (by grind) (by grind)
  have b := Rat.mul_nonneg (a := U + u) (b := V - v) (by grind) (by grind)
  have c := Rat.mul_nonneg (a := U - u) (b := V - v) (by grind) (by grind)
  have d := Rat.mul_nonneg (a := U + u) (b := V + v) (by grind) (by grind)
  constructor <;> grind
theorem nrm_limQ {l : Nat} {d b c : Rat} (ld : LimQ l d) (lb : LimQ l b) (lc : LimQ l c) : LimQ (5 * l + 1) (nrm d b c) := by
  have a := LimQ.mul' ld.1 ld.2 ld.1 ld.2
  have e := LimQ.mul' lb.1 lb.2 lb.1 lb.2
  have f := LimQ.mul' e.1 e.2 lc.1 lc.2
  have s := LimQ.sub' (n := 5 * l + 1) a.1 a.2 f.1 f.2 (by omega) (by omega)
  exact ⟨s.1, s.2.mono (by omega)⟩
def gK (l : Nat) : Nat := 6 * l + 2
theorem gap1 {d b c e : Rat} {l : Nat} (hc : 0 ≤ c) (ld : LimQ l d) (lb : LimQ l b) (lc : LimQ l c) (hs : nrm d b c ≠ 0) (h1 : -1 ≤ e * bq (gK l)) (h2 : e * bq (gK l) ≤ 1) : sgN (d + e) b c = sgN d b c ∧ nrm (d + e) b c ≠ 0 := by
  obtain ⟨N, hN⟩ : ∃ N, N = nrm d b c := ⟨_, rfl⟩
  obtain ⟨m, hm⟩ : ∃ m, m = bq (5 * l + 1) := ⟨_, rfl⟩
  obtain ⟨D, hD⟩ : ∃ D, D = bq l := ⟨_, rfl⟩
  have mp : 1 ≤ m := by rw [hm]; exact bq_one _
  have Dp : 1 ≤ D := by rw [hD]; exact bq_one _
  obtain ⟨d1, d2⟩ := limQ_abs ld
  rw [← hD] at d1 d2
  have hK : bq (gK l) = m * D * 1000000000 := by
    unfold gK
    rw [show 6 * l + 2 = (5 * l + 1) + l + 1 by omega, bq_add, bq_add, ← hm, ← hD]
    rfl
  rw [hK] at h1 h2
  obtain ⟨low1, low2⟩ := limQ_low (nrm_limQ ld lb lc)
  rw [← hm, ← hN] at low1 low2
  have mD : 1 ≤ m * D := by
    have := Rat.mul_nonneg (a := m - 1) (b := D - 1) (by grind) (by grind)
    grind
  -- e itself is small
  have e1 : -1 ≤ e ∧ e ≤ 1 := by
    constructor
    · refine Decidable.byContradiction fun hn => ?_
      have := Rat.mul_nonneg (a := -1 - e) (b := m * D * 1000000000 - 1) (by grind) (by grind)
      grind
    · refine Decidable.byContradiction fun hn => ?_
      have := Rat.mul_nonneg (a := e - 1) (b := m * D * 1000000000 - 1) (by grind) (by grind)
      grind
  have v := mul_abs (u := e * (m * D * 1000000000)) (v := 2 * d + e) (U := 1) (V := 3 * D) (by grind) (by grind) (by grind) (by grind)
  obtain ⟨x, hx⟩ : ∃ x, x = e * (2 * d + e) := ⟨_, rfl⟩
  have hmx : -1 < m * x ∧ m * x < 1 := by
    have e2 : e * (m * D * 1000000000) * (2 * d + e) = m * x * (D * 1000000000) := by rw [hx]; grind
    rw [e2] at v
    constructor
    · refine Decidable.byContradiction fun hn => ?_
      have := Rat.mul_nonneg (a := -1 - m * x) (b := D * 1000000000) (by grind) (by grind)
      grind
    · refine Decidable.byContradiction fun hn => ?_
      have := Rat.mul_nonneg (a := m * x - 1) (b := D * 1000000000) (by grind) (by grind)
      grind
  have hN' : nrm (d + e) b c = N + x := by
    rw [hN, hx]; unfold nrm; grind
  rw [← hN] at hs
  rcases (by grind : N < 0 ∨ 0 < N) with n | n
  · have k := low2 n
    have n' : N + x < 0 := by
      refine Decidable.byContradiction fun hn => ?_
      have := Rat.mul_nonneg (a := m) (b := N + x) (by grind) (by grind)
      grind
    exact ⟨by rw [sgN_neg (by rw [hN']; exact n'), sgN_neg (by rw [← hN]; exact n)], by rw [hN']; grind⟩
  · have k := low1 n
    have n' : 0 < N + x := by
      refine Decidable.byContradiction fun hn => ?_
      have := Rat.mul_nonneg (a := m) (b := -(N + x)) (by grind) (by grind)
      grind
    refine ⟨?_, by rw [hN']; grind⟩
    rw [sgN_pos (by rw [hN']; exact n'), sgN_pos (by rw [← hN]; exact n)]
    have hbc : 0 ≤ b * b * c := Rat.mul_nonneg (sq_nonneg b) hc
    have hdd : N ≤ d * d := by rw [hN]; unfold nrm; grind
    have hmd : 1 ≤ m * (d * d) := by
      have := Rat.mul_nonneg (a := m) (b := d * d - N) (by grind) (by grind)
      grind
    -- d is larger than e
    have big : ∀ y t : Rat, 0 ≤ y → y ≤ D → y * y = d * d → t * (m * D * 1000000000) ≤ 1 → t < y := by
      intro y t hy hyD hyy ht
      refine Decidable.byContradiction fun hn => ?_
      have a1 := Rat.mul_nonneg (a := y) (b := t - y) hy (by grind)
      have a2 := Rat.mul_nonneg (a := m * (t)) (b := D - y) (Rat.mul_nonneg (by grind) (by grind)) (by grind)
      have a3 := Rat.mul_nonneg (a := m) (b := y * (t - y)) (by grind) a1
      have a4 : m * t * D * 1000000000 ≤ 1 := by grind
      have b1 : m * (y * (t - y)) = m * t * y - m * (d * d) := by rw [← hyy]; grind
      have b2 : m * t * (D - y) = m * t * D - m * t * y := by grind
      rw [b1] at a3
      rw [b2] at a2
      generalize m * t * y = p at a2 a3
      generalize m * t * D = q at a2 a4
      generalize m * (d * d) = r at a3 hmd
      clear hdd v hmx hx hN hN' low1 low2 hyy h1 h2 hK mD hbc n n' k ht
      grind
    rcases sgQ_cases d with ⟨hd, k1⟩ | ⟨hd, k1⟩ | ⟨hd, k1⟩
    · have := big (-d) e (by grind) (by grind) (by grind) h2
      rw [k1, sgQ_neg' (by grind)]
    · rw [hd] at hmd; grind
    · have := big d (-e) (by grind) (by grind) rfl (by grind)
      rw [k1, sgQ_pos (by grind)]
end Go.Proofs.YtifeacfljfmnpaaGreat
end

section
set_option maxRecDepth 100000
namespace Go.Proofs.YtifeacfljfmnpaaGreat
open Go.RowKit
theorem sgQ_ngC (q : Rat) : sgQ (-q) = - sgQ q := by
  rcases sgQ_cases q with ⟨k, e⟩ | ⟨k, e⟩ | ⟨k, e⟩
  · rw [e, sgQ_pos (by grind)]; rfl
  · rw [k]; rfl
  · rw [e, sgQ_neg' (by grind)]
theorem sgN_ngC (a b c : Rat) : sgN (-a) (-b) c = - sgN a b c := by
  have e : nrm (-a) (-b) c = nrm a b c := by unfold nrm; grind
  unfold sgN
  rw [e, sgQ_ngC, sgQ_ngC]
  split
  · rfl
  · split <;> rfl
theorem sgN_00 (q : Rat) : sgN q 0 0 = sgQ q := by
  by_cases hq : q = 0
  · subst hq; rw [sgN_zero (by unfold nrm; grind)]; rfl
  · rw [sgN_pos (by have := sq_pos hq; unfold nrm; grind)]
theorem Rd.c00 {b c : Rat} (R : Rd b c) : 0 ≤ c := by
  rcases R with ⟨_, h⟩ | ⟨_, h, _⟩ <;> grind
theorem Rd.ngC {b c : Rat} (R : Rd b c) : Rd (-b) c := by
  rcases R with ⟨h1, h2⟩ | ⟨h1, h2⟩
  · exact .inl ⟨by rw [h1]; rfl, h2⟩
  · exact .inr ⟨fun h => h1 (by grind), h2⟩
def lowQ (A B C e lo : Rat) : Prop := (B = 0 ∧ lo = A) ∨ (B ≠ 0 ∧ 0 ≤ sgN (A - lo) B C ∧ sgN (A - lo - e) B C < 0)
theorem lowQ.below {A B C e lo u : Rat} (R : Rd B C) (h : lowQ A B C e lo) (hu : sgN (A - u) B C < 0) : lo < u := by
  rcases h with ⟨rfl, rfl⟩ | ⟨hb, h1, _⟩
  · rcases R with ⟨_, rfl⟩ | ⟨k, _⟩
    · rw [sgN_00] at hu
      rcases sgQ_cases (lo - u) with ⟨k, e⟩ | ⟨k, e⟩ | ⟨k, e⟩
      · grind
      · omega
      · omega
    · exact absurd rfl k
  · refine Decidable.byContradiction fun hn => ?_
    have := sgN_mono R (x := A - lo) (y := A - u) (by grind) h1
    omega
theorem lowQ.above {A B C e lo s : Rat} {l : Nat} (R : Rd B C) (h : lowQ A B C e lo) (hs : lo < s) (ld : LimQ l (A - s)) (lb : LimQ l B) (lc : LimQ l C) (he : 0 < e) (hP : e * bq (gK l) ≤ 1) : sgN (A - s) B C < 0 := by
  rcases h with ⟨rfl, rfl⟩ | ⟨hb, _, h2⟩
  · rcases R with ⟨_, rfl⟩ | ⟨k, _⟩
    · rw [sgN_00, sgQ_neg' (by grind)]; omega
    · exact absurd rfl k
  · refine Decidable.byContradiction fun hn => ?_
    have hne : nrm (A - s) B C ≠ 0 := fun k => hb (nrm_ne R k).2
    have hp := bq_pos (gK l)
    have hm := Rat.mul_pos he hp
    obtain ⟨g1, _⟩ := gap1 (e := -e) R.c00 ld lb lc hne (by grind) (by grind)
    have := sgN_mono R (x := A - s + -e) (y := A - lo - e) (by grind) (by omega)
    omega
theorem limQ_ngC {l : Nat} {q : Rat} (h : LimQ l q) : LimQ l (-q) := ⟨by rw [Rat.neg_num]; exact h.1.neg, by rw [Rat.neg_den]; exact h.2⟩
theorem limQ_subC {l : Nat} {p q : Rat} (h : LimQ l p) (k : LimQ l q) : LimQ (2 * l + 1) (p - q) := by
  have s := LimQ.sub' (n := 2 * l + 1) h.1 h.2 k.1 k.2 (by omega) (by omega)
  exact ⟨s.1, s.2.mono (by omega)⟩
theorem between_in {A B C A' B' C' u e lo hi : Rat} {l : Nat} (R : Rd B C) (R' : Rd B' C') (lA : LimQ l A) (lB : LimQ l B) (lC : LimQ l C) (lA' : LimQ l A') (lB' : LimQ l B') (lC' : LimQ l C') (lu : LimQ l u)
    (ua : sgN (A - u) B C < 0) (ub : 0 < sgN (A' - u) B' C') (hl : lowQ A B C e lo) (hh : lowQ (-A') (-B') C' e (-hi)) :
    lo < hi ∧ LimQ l (simV lo hi) ∧ (0 < e → e * bq (gK (2 * l + 1)) ≤ 1 → sgN (A - simV lo hi) B C < 0 ∧ 0 < sgN (A' - simV lo hi) B' C') := by
  have h1 := hl.below R ua
  have ub' : sgN (-A' - -u) (-B') C' < 0 := by
    have := sgN_ngC (A' - u) B' C'
    rw [show -(A' - u) = -A' - -u by grind] at this
    omega
  have h2 := hh.below R'.ngC ub'
  have hlt : lo < hi := by grind
  obtain ⟨s, hs⟩ : ∃ s, s = simV lo hi := ⟨_, rfl⟩
  have S := simV_spec hlt
  rw [← hs] at S ⊢
  obtain ⟨k1, k2⟩ := S.den u.num (u.den : Int) (by have := u.den_pos; omega) ((Rat.lt_iff lo u).1 h1) ((Rat.lt_iff u hi).1 (by grind))
  have ls : LimQ l s := ⟨lu.1.natAbs_le k2, lu.2.natAbs_le (by omega)⟩
  refine ⟨hlt, ls, fun he hP => ⟨?_, ?_⟩⟩
  · exact hl.above R S.lo (limQ_subC lA ls) (lB.mono (by omega)) (lC.mono (by omega)) he hP
  · have hsh := S.hi
    have k := hh.above (s := -s) R'.ngC (by grind) (limQ_subC (limQ_ngC lA') (limQ_ngC ls)) ((limQ_ngC lB').mono (by omega)) (lC'.mono (by omega)) he hP
    have := sgN_ngC (A' - s) B' C'
    rw [show -(A' - s) = -A' - -s by grind] at this
    omega
theorem sgN_scC {x y c p : Rat} (_hc : 0 ≤ c) (hp : 0 < p) : sgN (x * p) (y * p) c = sgN x y c := by
  have e : nrm (x * p) (y * p) c = nrm x y c * (p * p) := by unfold nrm; grind
  have pp := Rat.mul_pos hp hp
  have s1 : ∀ q : Rat, sgQ (q * p) = sgQ q := fun q => by
    rw [sgQ_mul, sgQ_pos hp, Int.mul_one]
  unfold sgN
  rw [e, s1, s1]
  rcases (by grind : nrm x y c < 0 ∨ nrm x y c = 0 ∨ 0 < nrm x y c) with n | n | n
  · have : nrm x y c * (p * p) < 0 := by
      have := Rat.mul_pos (a := -(nrm x y c)) (b := p * p) (by grind) pp
      grind
    rw [if_neg (by grind), if_pos this, if_neg (by grind), if_pos n]
  · rw [n, Rat.zero_mul]
  · have := Rat.mul_pos n pp
    rw [if_pos this, if_pos n]
theorem lowQ_fl {A B C : Rat} {P f : Int} (R : Rd B C) (hb : B ≠ 0) (hP : 0 < P) (h : IsFl (A * (P : Rat)) (B * (P : Rat)) C f) : lowQ A B C (Rat.divInt 1 P) (Rat.divInt f P) := by
  have hPq : (0 : Rat) < (P : Rat) := Rat.intCast_pos.2 hP
  have hne : (P : Rat) ≠ 0 := by grind
  have e1 : Rat.divInt f P * (P : Rat) = (f : Rat) := by rw [Rat.divInt_eq_div]; exact Rat.div_mul_cancel hne
  have e2 : Rat.divInt 1 P * (P : Rat) = 1 := by rw [Rat.divInt_eq_div]; exact Rat.div_mul_cancel hne
  refine .inr ⟨hb, ?_, ?_⟩
  · have := h.1
    rw [← e1, show A * (P : Rat) - Rat.divInt f P * (P : Rat) = (A - Rat.divInt f P) * (P : Rat) by grind, sgN_scC R.c00 hPq] at this
    exact this
  · have := h.2
    rw [Rat.intCast_add, ← e1] at this
    have e3 : ((1 : Int) : Rat) = Rat.divInt 1 P * (P : Rat) := by rw [e2]; rfl
    rw [e3, show A * (P : Rat) - (Rat.divInt f P * (P : Rat) + Rat.divInt 1 P * (P : Rat)) = (A - Rat.divInt f P - Rat.divInt 1 P) * (P : Rat) by grind, sgN_scC R.c00 hPq] at this
    exact this
end Go.Proofs.YtifeacfljfmnpaaGreat
end

section
set_option maxRecDepth 100000
namespace Go.Proofs.YtifeacfljfmnpaaGreat
open Go.RowKit
def lowV (A B C : Rat) (P : Int) : Rat := if B = 0 then A else Rat.divInt (flN (A * (P : Rat)) (B * (P : Rat)) (rC (B * (P : Rat)) C)) P
theorem lowV_ok {A B C : Rat} {P : Int} (R : Rd B C) (hP : 0 < P) : lowQ A B C (Rat.divInt 1 P) (lowV A B C P) := by
  unfold lowV
  by_cases hb : B = 0
  · rw [if_pos hb]; exact .inl ⟨hb, rfl⟩
  · rw [if_neg hb]
    have hPq : (0 : Rat) < (P : Rat) := Rat.intCast_pos.2 hP
    have hne : B * (P : Rat) ≠ 0 := fun e => by
      rcases Rat.mul_eq_zero.1 e with h | h
      · exact hb h
      · grind
    rw [rC_ne hne]
    have R' : Rd (B * (P : Rat)) C := by
      rcases R with ⟨h, _⟩ | ⟨_, h⟩
      · exact absurd h hb
      · exact .inr ⟨hne, h⟩
    exact lowQ_fl R hb hP (flN_spec R')
theorem lim_of_abs {k : Nat} {z : Int} (h1 : -(bq k) < (z : Rat)) (h2 : (z : Rat) < bq k) : Lim k z := by
  refine limbs_len_le ?_
  have a2 : z < (1000000000 : Int) ^ k := Rat.intCast_lt_intCast.1 h2
  have a1 : -((1000000000 : Int) ^ k) < z := by
    refine Rat.intCast_lt_intCast.1 ?_
    rw [Rat.intCast_neg]
    exact h1
  have h3 : ((1000000000 ^ k : Nat) : Int) = (1000000000 : Int) ^ k := by rw [Int.natCast_pow]; rfl
  omega
theorem fl_lim {a b c : Rat} {n : Int} {l : Nat} (R : Rd b c) (la : LimQ l a) (lb : LimQ l b) (lc : LimQ l c) (h : IsFl a b c n) : Lim (2 * l + 1) n := by
  obtain ⟨M, hM⟩ : ∃ M, M = bq l := ⟨_, rfl⟩
  have Mp : 1 ≤ M := by rw [hM]; exact bq_one _
  obtain ⟨a1, a2⟩ := limQ_abs la
  obtain ⟨b1, b2⟩ := limQ_abs lb
  obtain ⟨_, c2⟩ := limQ_abs lc
  rw [← hM] at a1 a2 b1 b2 c2
  have c0 := R.c00
  obtain ⟨X, hX⟩ : ∃ X, X = M * (M + 1) := ⟨_, rfl⟩
  have MM : 1 ≤ M * M := by
    have := Rat.mul_nonneg (a := M - 1) (b := M) (by grind) (by grind)
    grind
  have Xp : 0 < X := by rw [hX]; grind
  have bb := (mul_abs b1 b2 b1 b2).2
  have bbc : b * b * c ≤ M * M * M := by
    have x1 := Rat.mul_nonneg (a := M * M - b * b) (b := c) (by grind) c0
    have x2 := Rat.mul_nonneg (a := M * M) (b := M - c) (by grind) (by grind)
    grind
  have XX : M * M * M < X * X := by
    have e : X * X - M * M * M = M * M * (M * M + M + 1) := by rw [hX]; grind
    have := Rat.mul_pos (a := M * M) (b := M * M + M + 1) (by grind) (by grind)
    grind
  have big : ∀ d : Rat, (X < d ∨ d < -X) → 0 < nrm d b c := by
    intro d hd
    have : X * X ≤ d * d := by
      rcases hd with hd | hd
      · have := Rat.mul_nonneg (a := d - X) (b := d + X) (by grind) (by grind)
        grind
      · have := Rat.mul_nonneg (a := -d - X) (b := -d + X) (by grind) (by grind)
        grind
    unfold nrm
    grind
  have up : (n : Rat) ≤ M + X := by
    refine Decidable.byContradiction fun hn => ?_
    have h1 := h.1
    rw [sgN_pos (big _ (.inr (by grind))), sgQ_neg' (by grind)] at h1
    omega
  have dn : -(M + X) ≤ (n : Rat) + 1 := by
    refine Decidable.byContradiction fun hn => ?_
    have h2 := h.2
    rw [Rat.intCast_add] at h2
    have e1 : ((1 : Int) : Rat) = 1 := rfl
    rw [e1] at h2
    rw [sgN_pos (big _ (.inl (by grind))), sgQ_pos (by grind)] at h2
    omega
  have hB : bq (2 * l + 1) = M * M * 1000000000 := by
    rw [show 2 * l + 1 = l + l + 1 by omega, bq_add, bq_add, ← hM]; rfl
  have T : M + X + 1 < bq (2 * l + 1) := by
    rw [hB, hX]
    have := Rat.mul_nonneg (a := M - 1) (b := M) (by grind) (by grind)
    grind
  exact lim_of_abs (by grind) (by grind)
theorem limQ_mulI {l m : Nat} {a : Rat} {P : Int} (la : LimQ l a) (lP : Lim m P) : LimQ (l + m + 1) (a * (P : Rat)) := by
  have h1 : Lim m ((P : Rat)).num := by rw [Rat.num_intCast]; exact lP
  have h2 : Lim 1 (((P : Rat).den : Nat) : Int) := by rw [Rat.den_intCast]; exact lim1 (z := 1) (by decide)
  have := LimQ.mul' la.1 la.2 h1 h2
  exact ⟨this.1.mono (by omega), this.2.mono (by omega)⟩
def pK : IT2 := (.var 6, .lit 1)
def lwA : IT2 := qop 2 (qI 0) pK
def lwB : IT2 := qop 2 (qI 2) pK
def lwC : IT2 := qop 5 lwB (qI 4)
def lwF : IT := floT lwA lwB lwC
noncomputable def tabLb : List (Nat × Con) := [(155, kKq (cts [[qI 0, qI 2, qI 4], [pK]]) (.val true (rt lwA lwB lwC 310)) kNoQ), (154, kKq (cts [[lwA, lwB, lwC]]) (.val true [.int lwF 640]) kNoQ), (153, kMake)]
noncomputable def iLb : List (Nat × Func) := [(143, Tryz.f143)]
noncomputable def cLb : Cfg := cfgI (cR tabLb) (cR tabLb) iLb
def lbG (z : Bool) : Asm := [(zt (qI 2), z)]
def lbX : AV := .val true (rt (qI 0) (qI 2) (qI 4) 9)
def lbP : AV := .val true [.int (.var 6) 300]
def isLb : Bool → Option Tree → Bool
  | true, some (.leaf [(true, [.int x _, .int y _])]) => x.beq (.var 0) && y.beq (.var 1)
  | false, some (.leaf [(true, [.int x _, .int y _])]) => x.beq (.a2 7 lwF (.var 6)) && y.beq (.a2 11 lwF (.var 6))
  | _, _ => false
theorem lb_walk : (bools.all fun z => isLb z (funE cLb Tryz.f79 (lbG z) [lbX, lbP])) = true := by kernel_rfl
theorem lower_calls (w : World) (v u : Value) (A B C : Rat) (P : Int) (R : Rd B C) (hv : z16q w v A B C) (hu : IsInt w u P) (l : LimR 9 A B C) (hP : 0 < P) (lP : Lim 300 P) : Calls Tryz.prog 79 #[v, u] w (Ret (fun x w' => IsRat w' x (lowV A B C P)) w) := by
  obtain ⟨E, hE⟩ : ∃ E, E = qE [A, B, C, (P : Rat)] := ⟨_, rfl⟩
  have hQ : QEnv E := by rw [hE]; exact qE_ok _
  have ra : RepQ E (qI 0) A := by rw [hE]; exact ⟨rfl, rfl⟩
  have rb : RepQ E (qI 2) B := by rw [hE]; exact ⟨rfl, rfl⟩
  have rc : RepQ E (qI 4) C := by rw [hE]; exact ⟨rfl, rfl⟩
  have e6 : E.i 6 = P := by rw [hE]; exact qE_int (i := 3) rfl
  have rk : RepQ E pK (P : Rat) := ⟨by rw [Rat.num_intCast]; exact e6, by rw [Rat.den_intCast]; rfl⟩
  have rA : RepQ E lwA (A * (P : Rat)) := rep_mul ra rk
  have rB : RepQ E lwB (B * (P : Rat)) := rep_mul rb rk
  have rC' : RepQ E lwC (rC (B * (P : Rat)) C) := rep_rC rB rc
  have lA := limQ_mulI l.1 lP
  have lB := limQ_mulI l.2.1 lP
  have lC : LimQ 310 (rC (B * (P : Rat)) C) := LimQ.rC (l.2.2.mono (by omega)) (by omega)
  have hPq : (0 : Rat) < (P : Rat) := Rat.intCast_pos.2 hP
  have R' : Rd (B * (P : Rat)) (rC (B * (P : Rat)) C) := by
    rcases R with ⟨h, k⟩ | ⟨h, k⟩
    · rw [h, Rat.zero_mul]; exact .inl ⟨rfl, rC_zero _⟩
    · have hne : B * (P : Rat) ≠ 0 := fun e => by
        rcases Rat.mul_eq_zero.1 e with h' | h'
        · exact h h'
        · grind
      rw [rC_ne hne]
      exact .inr ⟨hne, k⟩
  have hF : lwF.den E = flN (A * (P : Rat)) (B * (P : Rat)) (rC (B * (P : Rat)) C) := floT_den rA rB rC'
  have lF := fl_lim R' lA lB lC (flN_spec R')
  have hT : TabOK Tryz.prog E tabLb := by
    refine .cons (z17q (knownT (ls := [[A, B, C], [(P : Rat)]]) ⟨⟨ra, rb, rc, trivial⟩, ⟨rk, trivial⟩, trivial⟩ (fun x off e => by cases e) fun w vs ha => ?_) (z18q ⟨_, Tryz.func155, by decide +kernel, by kernel_rfl⟩)) <|
      .cons (z17q (knownT (ls := [[A * (P : Rat), B * (P : Rat), rC (B * (P : Rat)) C]]) ⟨⟨rA, rB, rC', trivial⟩, trivial⟩ (fun x off e => by cases e) fun w vs ha => ?_) (z18q ⟨_, Tryz.func154, by decide +kernel, by kernel_rfl⟩)) <|
      .cons (kMake_ok (fun w v u a b h k l1 l2 => make_calls w v u a b h k l1 l2) ⟨_, Tryz.func153, by decide +kernel, by kernel_rfl⟩) .nil
    · obtain ⟨v, u, rfl, k1, k2⟩ := argsQ2 ha
      refine (p_scale (qs_root k1) (qs_rat k2) (l.mono (by omega)) ⟨by rw [Rat.num_intCast]; exact lP.mono (by omega), by rw [Rat.den_intCast]; exact (lim1 (z := 1) (by decide)).mono (by omega)⟩).mono ?_
      rintro e w' ⟨x, rfl, hx, ex⟩
      exact ⟨x, rfl, fun β => (one_root rA rB rC').2 ⟨hx, lA, lB, lC⟩, ex⟩
    · obtain ⟨v, rfl, k1⟩ := argsQ1 ha
      refine (p_floor R' (qs_root k1) ⟨lA.mono (by omega), lB.mono (by omega), lC.mono (by omega)⟩).mono ?_
      rintro e w' ⟨x, rfl, hx, ex⟩
      exact ⟨x, rfl, fun β => z10q.2 ⟨by rw [hF]; exact hx.1, by rw [hF]; exact lF.mono (by omega)⟩, ex⟩
  have h0 := cR_ok hQ hT
  have hC : CfgOK Tryz.prog E cLb := cfgI_ok mixed h0 h0 (fun _ => trivial) (.cons Tryz.func143 (by decide +kernel) (by kernel_rfl) .nil)
  have hG : (lbG (decide (B = 0))).holds E := asm_and (zt_den rb) asm_nil
  have hW := List.all_eq_true.1 lb_walk (decide (B = 0)) (z15q _)
  cases hTe : funE cLb Tryz.f79 (lbG (decide (B = 0))) [lbX, lbP] with
  | none => rw [hTe] at hW; cases hb : decide (B = 0) <;> rw [hb] at hW <;> cases hW
  | some T =>
    rw [hTe] at hW
    refine (z5q mixed hC hG Tryz.func79 (by decide +kernel) hTe (show 2 ≤ _ by decide +kernel) rfl w [v, u] rfl ?_).mono ?_
    · intro i x hx
      match i, hx with
      | 0, hx => injection hx with hx; subst hx; exact ⟨fun _ => 0, v, rfl, (one_root ra rb rc).2 ⟨hv, l⟩⟩
      | 1, hx => injection hx with hx; subst hx; exact ⟨fun _ => 0, u, rfl, z10q.2 ⟨by show IsInt w u (E.i 6); rw [e6]; exact hu, by show Lim 300 (E.i 6); rw [e6]; exact lP⟩⟩
    · rintro e w' ⟨β, y, rfl, hh, ex⟩
      refine ⟨y, rfl, ?_, ex⟩
      unfold lowV
      by_cases hb : B = 0
      · rw [decide_eq_true hb] at hW
        rw [if_pos hb]
        unfold isLb at hW
        split at hW
        · rename_i x _ y' _ e1
          cases e1
          rw [Bool.and_eq_true] at hW
          have e2 := IT.eq_of_beq hW.1
          have e3 := IT.eq_of_beq hW.2
          subst e2 e3
          exact ((one_q (A := qI 0) ra).1 hh).1
        · contradiction
        · cases hW
      · rw [decide_eq_false hb] at hW
        rw [if_neg hb]
        unfold isLb at hW
        split at hW
        · contradiction
        · rename_i x _ y' _ e1
          cases e1
          rw [Bool.and_eq_true] at hW
          have e2 := IT.eq_of_beq hW.1
          have e3 := IT.eq_of_beq hW.2
          subst e2 e3
          have k := (one_pair.1 hh).1
          have k1 : (IT.a2 7 lwF (.var 6)).den E = (Rat.divInt (flN (A * (P : Rat)) (B * (P : Rat)) (rC (B * (P : Rat)) C)) P).num := by
            show (Rat.divInt (lwF.den E) (E.i 6)).num = _
            rw [hF, e6]
          have k2 : (IT.a2 11 lwF (.var 6)).den E = ((Rat.divInt (flN (A * (P : Rat)) (B * (P : Rat)) (rC (B * (P : Rat)) C)) P).den : Int) := by
            show (if E.i 6 = 0 then 0 else ((Rat.divInt (lwF.den E) (E.i 6)).den : Int)) = _
            rw [hF, e6, if_neg (by omega)]
          rw [k1, k2] at k
          exact k
        · cases hW
end Go.Proofs.YtifeacfljfmnpaaGreat
end

section
set_option maxRecDepth 100000
namespace Go.Proofs.YtifeacfljfmnpaaGreat
open Go.RowKit
def bP : IT2 := (.var 20, .lit 1)
def bFl (A B C : IT2) : IT := floT (qop 2 A bP) (qop 2 B bP) (qop 5 (qop 2 B bP) C)
def bLo (z : Bool) (A B C : IT2) : IT2 := if z then A else (.a2 7 (bFl A B C) (.var 20), .a2 8 (bFl A B C) (.var 20))
def bA : List IT2 := [qI 0, qI 2, qI 4]
def bB : List IT2 := [qI 10, qI 12, qI 14]
def bN : List IT2 := [qng (qI 10), qng (qI 12), qI 14]
def bl1 (z : Bool) : IT2 := bLo z (qI 0) (qI 2) (qI 4)
def bl2 (z : Bool) : IT2 := bLo z (qng (qI 10)) (qng (qI 12)) (qI 14)
def bS (z1 z2 : Bool) : IT2 := qop 12 (bl1 z1) (qng (bl2 z2))
def bx (z1 z2 : Bool) : IT := sgnT (qop 1 (qI 0) (bS z1 z2)) (qI 2) (qI 4)
def by' (z1 z2 : Bool) : IT := sgnT (qop 1 (qI 10) (bS z1 z2)) (qI 12) (qI 14)
def cLwB (ts : List IT2) : List AV → Bool
  | [.val true cs, .val true [.int (.var 20) _]] => t6 ts cs
  | _ => false
def cSqB : List AV → Bool
  | [.val true [.int (.var 20) _]] => true
  | _ => false
def rQ9 (p : IT2) (m : Nat) : AV := .val true [.int p.1 m, .int p.2 m]
noncomputable def tabBt (z1 z2 : Bool) : List (Nat × Con) :=
  (74, kKq (cts [bA]) (rBl true) (kKq (cts [bB]) (rBl true) kNoQ)) :: (75, kKq (cts [bA, bB]) (rNq (-1)) kNoQ) ::
  (81, kKq (cts [bB]) (.val true (rt (qng (qI 10)) (qng (qI 12)) (qI 14) 9)) kNoQ) ::
  (79, kKq (cLwB bA) (rQ9 (bl1 z1) 700) (kKq (cLwB bN) (rQ9 (bl2 z2) 700) kNoQ)) ::
  (80, kKq (cts [[bl2 z2]]) (rQ9 (qng (bl2 z2)) 700) kNoQ) ::
  (78, kKq (cts [[bl1 z1], [qng (bl2 z2)]]) (.tup [(true, [.int (bS z1 z2).1 9, .int (bS z1 z2).2 9]), (false, [.n .i64 (.lit 0)])]) kNoQ) ::
  (82, kKq (cts [bA, [bS z1 z2]]) (.val false [.n .i64 (bx z1 z2)]) (kKq (cts [bB, [bS z1 z2]]) (.val false [.n .i64 (by' z1 z2)]) kNoQ)) ::
  (77, kKq cSqB (.val true [.int (.a2 2 (.var 20) (.var 20)) 600]) kNoQ) :: (76, kFrom) :: []
noncomputable def cBt (z1 z2 : Bool) : Cfg := cR (tabBt z1 z2)
def btI : LInv where
  lk := [(2, .ptr 2 0), (3, .ptr 3 0), (4, .ptr 4 0), (5, .val false [.n .i64 (.lit 0)]), (6, .ptr 6 0)]
  vr := [(2, rt (qI 0) (qI 2) (qI 4) 9), (3, rt (qI 10) (qI 12) (qI 14) 9), (4, [.int (.lit 0) 0, .int (.lit 0) 0]), (6, [.int (.var 20) 300])]
  vs := [20]
  G := []
  lm := [(20, 300)]
def btX : List AV := [.val true (rt (qI 0) (qI 2) (qI 4) 9), .val true (rt (qI 10) (qI 12) (qI 14) 9)]
def btLf (z1 z2 : Bool) : List (Bool × List Chunk) := [(true, [.int (bS z1 z2).1 9, .int (bS z1 z2).2 9]), (false, [.n .i64 (.lit 0)])]
def btTr (z1 z2 : Bool) : LTree := .ite (.lt (bx z1 z2) (.lit 0)) (.ite (.lt (.lit 0) (by' z1 z2)) (.leaf (btLf z1 z2)) (.again 0 [.a2 2 (.var 20) (.var 20)])) (.again 0 [.a2 2 (.var 20) (.var 20)])
theorem bt_walk (z1 z2 : Bool) : funL (cBt z1 z2) (fun _ => some btI) Tryz.f16 [] btX = some (.loop 0 btI [.lit 65536] (btTr z1 z2)) := by
  cases z1 <;> cases z2 <;> kernel_rfl
end Go.Proofs.YtifeacfljfmnpaaGreat
end

section
set_option maxRecDepth 100000
namespace Go.Proofs.YtifeacfljfmnpaaGreat
open Go.RowKit
theorem cmR_q {a b c d : Rat} (R : Rd b c) : cmR a b c d 0 0 = sgN (a - d) b c := by
  rw [cmR_ok R (.inl ⟨rfl, rfl⟩) (.inr (.inl rfl)), show b - 0 = b by grind]
  congr 1
  rcases R with ⟨hb, hc⟩ | ⟨hb, _⟩
  · rw [hb, hc]; rfl
  · rw [rC_ne hb, cm_ne hb]
theorem lowV_lim {A B C : Rat} {P : Int} (R : Rd B C) (hP : 0 < P) (l : LimR 9 A B C) (lP : Lim 300 P) : LimQ 640 (lowV A B C P) := by
  unfold lowV
  by_cases hb : B = 0
  · rw [if_pos hb]; exact l.1.mono (by omega)
  · rw [if_neg hb]
    have hPq : (0 : Rat) < (P : Rat) := Rat.intCast_pos.2 hP
    have hne : B * (P : Rat) ≠ 0 := fun e => by
      rcases Rat.mul_eq_zero.1 e with h | h
      · exact hb h
      · grind
    rw [rC_ne hne]
    have R' : Rd (B * (P : Rat)) C := by
      rcases R with ⟨h, _⟩ | ⟨_, h⟩
      · exact absurd h hb
      · exact .inr ⟨hne, h⟩
    have lf := fl_lim R' (limQ_mulI l.1 lP) (limQ_mulI l.2.1 lP) (l.2.2.mono (by omega)) (flN_spec R' (a := A * (P : Rat)))
    have := divInt_lim lf lP (by omega)
    exact ⟨this.1.mono (by omega), this.2.mono (by omega)⟩
theorem lo_rep {E : Env} {A B C : IT2} {a b c : Rat} {P : Int} (rA : RepQ E A a) (rB : RepQ E B b) (rC' : RepQ E C c) (e : E.i 20 = P) : RepQ E (bLo (decide (b = 0)) A B C) (lowV a b c P) := by
  have rk : RepQ E bP (P : Rat) := ⟨by rw [Rat.num_intCast]; exact e, by rw [Rat.den_intCast]; rfl⟩
  have hF : (bFl A B C).den E = flN (a * (P : Rat)) (b * (P : Rat)) (rC (b * (P : Rat)) c) := floT_den (rep_mul rA rk) (rep_mul rB rk) (rep_rC (rep_mul rB rk) rC')
  unfold bLo lowV
  by_cases hb : b = 0
  · rw [decide_eq_true hb, if_pos rfl, if_pos hb]; exact rA
  · rw [decide_eq_false hb, if_neg (by decide), if_neg hb]
    constructor
    · show (Rat.divInt ((bFl A B C).den E) (E.i 20)).num = _
      rw [hF, e]
    · show ((Rat.divInt ((bFl A B C).den E) (E.i 20)).den : Int) = _
      rw [hF, e]
theorem prog_sim (w : World) (v u : Value) (a b : Rat) (hv : IsRat w v a) (hu : IsRat w u b) (l1 : LimQ 700 a) (l2 : LimQ 700 b) (hlt : a < b) : Calls Tryz.prog 78 #[v, u] w (RetSim a b w) := by
  by_cases h0 : 0 ≤ a.num
  · exact prog_sim_pos w v u a b hv hu l1 l2 h0 hlt
  · by_cases hb : b.num ≤ 0
    · exact prog_sim_neg w v u a b hv hu l1 l2 h0 hb hlt (by rw [Rat.neg_num]; omega) (by grind)
    · exact prog_sim_zero w v u a b hv hu l1 l2 h0 hb hlt
theorem sqB_walk : funE (cfgOf tabInt) Tryz.f77 [] [.val true [.int (.var 0) 300]] = some (.leaf [(true, [.int (.a2 2 (.var 0) (.var 0)) 600])]) := by kernel_rfl
theorem square_calls (w : World) (v : Value) (P : Int) (h : IsInt w v P) (l : Lim 300 P) : Calls Tryz.prog 77 #[v] w (Ret (fun x w' => IsInt w' x (P * P)) w) := by
  refine (z5q (E := zE [P]) mixed (cfg_ok tabInt_ok) z8q Tryz.func77 (by decide +kernel) sqB_walk (show 1 ≤ _ by decide +kernel) rfl w [v] rfl ?_).mono ?_
  · intro i x hx
    match i, hx with
    | 0, hx => injection hx with hx; subst hx; exact ⟨fun _ => 0, v, rfl, z10q.2 ⟨h, l⟩⟩
  · rintro e w' ⟨β, y, rfl, hh, ex⟩
    exact ⟨y, rfl, (z10q.1 hh).1, ex⟩
structure Btw (a b c a' b' c' u : Rat) : Prop where
  R : Rd b c
  R' : Rd b' c'
  l : LimR 9 a b c
  l' : LimR 9 a' b' c'
  lu : LimQ 9 u
  ua : sgN (a - u) b c < 0
  ub : 0 < sgN (a' - u) b' c'
  lt : cmR a b c a' b' c' = -1
def bwE (a b c a' b' c' : Rat) (P : Int) : Env := qE [a, b, c, 0, 0, a', b', c', 0, 0, (P : Rat)]
theorem bwE_upd (a b c a' b' c' : Rat) (P z : Int) : (bwE a b c a' b' c' P).upd [20] [z] = bwE a b c a' b' c' z := by
  unfold bwE Env.upd qE
  congr 1
  funext k
  show (if k = 20 then some z else none).getD _ = _
  by_cases hk : k = 20
  · subst hk
    rw [if_pos rfl]
    show z = ((z : Rat)).num
    rw [Rat.num_intCast]
  · rw [if_neg hk]
    show (if k % 2 = 0 then _ else _) = _
    by_cases h2 : k / 2 = 10
    · have hk1 : k = 21 := by omega
      subst hk1
      show (((P : Rat).den : Nat) : Int) = (((z : Rat).den : Nat) : Int)
      rw [Rat.den_intCast, Rat.den_intCast]
    · have e : ∀ x : Rat, ([a, b, c, 0, 0, a', b', c', 0, 0, x] : List Rat).getD (k / 2) 0 = ([a, b, c, 0, 0, a', b', c', 0, 0] : List Rat).getD (k / 2) 0 := by
        intro x
        rcases Nat.lt_or_ge (k / 2) 10 with h | h
        · show ([a, b, c, 0, 0, a', b', c', 0, 0] ++ [x] : List Rat).getD (k / 2) 0 = _
          rw [List.getD_eq_getElem?_getD, List.getD_eq_getElem?_getD, List.getElem?_append_left (by simpa using h)]
        · rw [List.getD_eq_getElem?_getD, List.getD_eq_getElem?_getD, List.getElem?_eq_none (by simp; omega), List.getElem?_eq_none (by simp; omega)]
      rw [e, e]
section
variable {a b c a' b' c' u : Rat}
def loP (a b c : Rat) (P : Int) : Rat := lowV a b c P
def hiP (a' b' c' : Rat) (P : Int) : Rat := -(lowV (-a') (-b') c' P)
def btS (a b c a' b' c' : Rat) (P : Int) : Rat := simV (loP a b c P) (hiP a' b' c' P)
theorem Btw.in (H : Btw a b c a' b' c' u) {P : Int} (hP : 0 < P) : loP a b c P < hiP a' b' c' P ∧ LimQ 9 (btS a b c a' b' c' P) ∧ ((bq (gK 19) ≤ (P : Rat)) → sgN (a - btS a b c a' b' c' P) b c < 0 ∧ 0 < sgN (a' - btS a b c a' b' c' P) b' c') := by
  have h1 := lowV_ok (A := a) H.R hP
  have h2 := lowV_ok (A := -a') H.R'.ngC hP
  have h2' : lowQ (-a') (-b') c' (Rat.divInt 1 P) (-(hiP a' b' c' P)) := by
    unfold hiP
    rw [show - -(lowV (-a') (-b') c' P) = lowV (-a') (-b') c' P by grind]
    exact h2
  obtain ⟨k1, k2, k3⟩ := between_in H.R H.R' H.l.1 H.l.2.1 H.l.2.2 H.l'.1 H.l'.2.1 H.l'.2.2 H.lu H.ua H.ub h1 h2'
  refine ⟨k1, k2, fun hb => k3 ?_ ?_⟩
  · have hPq : (0 : Rat) < (P : Rat) := Rat.intCast_pos.2 hP
    have hne : (P : Rat) ≠ 0 := by grind
    have e2 : Rat.divInt 1 P * (P : Rat) = 1 := by rw [Rat.divInt_eq_div]; exact Rat.div_mul_cancel hne
    refine Decidable.byContradiction fun hn => ?_
    have := Rat.mul_nonneg (a := -(Rat.divInt 1 P)) (b := (P : Rat)) (by grind) (by grind)
    grind
  · have hPq : (0 : Rat) < (P : Rat) := Rat.intCast_pos.2 hP
    have hne : (P : Rat) ≠ 0 := by grind
    have e2 : Rat.divInt 1 P * (P : Rat) = 1 := by rw [Rat.divInt_eq_div]; exact Rat.div_mul_cancel hne
    have e3 : 0 ≤ Rat.divInt 1 P := by
      refine Decidable.byContradiction fun hn => ?_
      have := Rat.mul_nonneg (a := -(Rat.divInt 1 P)) (b := (P : Rat)) (by grind) (by grind)
      grind
    have := Rat.mul_nonneg (a := Rat.divInt 1 P) (b := (P : Rat) - bq (gK 19)) e3 (by grind)
    grind
end
end Go.Proofs.YtifeacfljfmnpaaGreat
end

section
set_option maxRecDepth 100000
namespace Go.Proofs.YtifeacfljfmnpaaGreat
open Go.RowKit
section
variable {a b c a' b' c' u : Rat}
structure BtR (E : Env) (a b c a' b' c' : Rat) (P : Int) : Prop where
  ra : RepQ E (qI 0) a
  rb : RepQ E (qI 2) b
  rc : RepQ E (qI 4) c
  ra' : RepQ E (qI 10) a'
  rb' : RepQ E (qI 12) b'
  rc' : RepQ E (qI 14) c'
  e20 : E.i 20 = P
theorem bwR (P : Int) : BtR (bwE a b c a' b' c' P) a b c a' b' c' P := ⟨⟨rfl, rfl⟩, ⟨rfl, rfl⟩, ⟨rfl, rfl⟩, ⟨rfl, rfl⟩, ⟨rfl, rfl⟩, ⟨rfl, rfl⟩, by unfold bwE; exact qE_int (i := 10) rfl⟩
def bz1 (b : Rat) : Bool := decide (b = 0)
def bz2 (b' : Rat) : Bool := decide (-b' = 0)
theorem BtR.l1 {E : Env} {P : Int} (r : BtR E a b c a' b' c' P) : RepQ E (bl1 (bz1 b)) (loP a b c P) := lo_rep r.ra r.rb r.rc r.e20
theorem BtR.l2 {E : Env} {P : Int} (r : BtR E a b c a' b' c' P) : RepQ E (bl2 (bz2 b')) (lowV (-a') (-b') c' P) := lo_rep (rep_ng r.ra') (rep_ng r.rb') r.rc' r.e20
theorem BtR.h2 {E : Env} {P : Int} (r : BtR E a b c a' b' c' P) : RepQ E (qng (bl2 (bz2 b'))) (hiP a' b' c' P) := rep_ng r.l2
theorem BtR.s {E : Env} {P : Int} (r : BtR E a b c a' b' c' P) : RepQ E (bS (bz1 b) (bz2 b')) (btS a b c a' b' c' P) := rep_op (f := 12) (by omega) r.l1 r.h2
theorem BtR.x {E : Env} {P : Int} (r : BtR E a b c a' b' c' P) (R : Rd b c) : (bx (bz1 b) (bz2 b')).den E = sgN (a - btS a b c a' b' c' P) b c := sgnT_den (rep_sub r.ra r.s) r.rb r.rc R
theorem BtR.y {E : Env} {P : Int} (r : BtR E a b c a' b' c' P) (R : Rd b' c') : (by' (bz1 b) (bz2 b')).den E = sgN (a' - btS a b c a' b' c' P) b' c' := sgnT_den (rep_sub r.ra' r.s) r.rb' r.rc' R
theorem bt_tab {E : Env} {P : Int} (_hQ : QEnv E) (r : BtR E a b c a' b' c' P) (H : Btw a b c a' b' c' u) (hP : 0 < P) (lP : Lim 300 P) : TabOK Tryz.prog E (tabBt (bz1 b) (bz2 b')) := by
  obtain ⟨hlt, ls, _⟩ := H.in hP
  have la := lowV_lim H.R hP H.l lP
  have lb := lowV_lim (A := -a') H.R'.ngC hP ⟨limQ_ngC H.l'.1, limQ_ngC H.l'.2.1, H.l'.2.2⟩ lP
  have lb' : LimQ 640 (hiP a' b' c' P) := limQ_ngC lb
  have r1 := r.l1
  have r2 := r.l2
  have r3 := r.h2
  have r4 := r.s
  have rA : Reps E bA [a, b, c] := ⟨r.ra, r.rb, r.rc, trivial⟩
  have rB : Reps E bB [a', b', c'] := ⟨r.ra', r.rb', r.rc', trivial⟩
  have rN : Reps E bN [-a', -b', c'] := ⟨rep_ng r.ra', rep_ng r.rb', r.rc', trivial⟩
  have vld : ∀ {x y z : Rat} {ts : List IT2}, Reps E ts [x, y, z] → Rd y z → LimR 9 x y z → KnownR E 74 (cts [ts]) (rBl true) := fun {x y z ts} rt R l => knownT (ls := [[x, y, z]]) ⟨rt, trivial⟩ (fun x off e => by cases e) fun w vs ha => by
    obtain ⟨v, rfl, k1⟩ := argsQ1 ha
    refine (p_valid (qs_root k1) (l.mono (by omega))).mono ?_
    rintro e w' ⟨rfl, ex⟩
    exact ⟨_, rfl, fun β => z11q.2 (by rw [Rdb_iff.2 R]; rfl), ex⟩
  have low : ∀ {x y z : Rat} {ts : List IT2} {p : IT2}, Reps E ts [x, y, z] → Rd y z → LimR 9 x y z → RepQ E p (lowV x y z P) → KnownR E 79 (cLwB ts) (rQ9 p 700) := fun {x y z ts p} rt R l rp => ⟨fun args ha β w vs hv hl => (by
    unfold cLwB at ha
    split at ha
    · obtain ⟨v, u, rfl, ⟨us, rfl, hu⟩, k2⟩ := args2 hv hl
      have k3 := (z10q.1 k2).1
      have k4 : IsInt w u P := by rw [← r.e20]; exact k3
      refine (lower_calls w _ u x y z P R (qs_root ⟨us, rfl, t6_holds rt ha hu⟩) k4 l hP lP).mono ?_
      rintro e w' ⟨q, rfl, hq, ex⟩
      have lq := (lowV_lim (A := x) R hP l lP).mono (show 640 ≤ 700 by omega)
      exact ⟨q, rfl, fun β => (one_q rp).2 ⟨hq, lq.1, lq.2⟩, ex⟩
    · cases ha), fun x off e => by cases e⟩
  have cq : ∀ {x y z : Rat} {ts : List IT2} {t : IT}, Reps E ts [x, y, z] → Rd y z → LimR 9 x y z → t.den E = sgN (x - btS a b c a' b' c' P) y z → KnownR E 82 (cts [ts, [bS (bz1 b) (bz2 b')]]) (.val false [.n .i64 t]) := fun {x y z ts t} rt R l ht => knownT (ls := [[x, y, z], [btS a b c a' b' c' P]]) ⟨rt, ⟨r4, trivial⟩, trivial⟩ (fun x off e => by cases e) fun w vs ha => by
    obtain ⟨v, u, rfl, k1, k2⟩ := argsQ2 ha
    refine (radCmpRat_calls w v u x y z _ R (qs_root k1) (qs_rat k2) l ls).mono ?_
    rintro e w' ⟨rfl, ex⟩
    exact ⟨_, rfl, fun β => z9q.2 (by rw [ht, cmR_q R]), ex⟩
  refine .cons (z17q (vld rA H.R H.l) (z17q (vld rB H.R' H.l') (z18q ⟨_, Tryz.func74, by decide +kernel, by kernel_rfl⟩))) <|
    .cons (z17q (knownT (ls := [[a, b, c], [a', b', c']]) ⟨rA, rB, trivial⟩ (fun x off e => by cases e) fun w vs ha => ?_) (z18q ⟨_, Tryz.func75, by decide +kernel, by kernel_rfl⟩)) <|
    .cons (z17q (knownT (ls := [[a', b', c']]) ⟨rB, trivial⟩ (fun x off e => by cases e) fun w vs ha => ?_) (z18q ⟨_, Tryz.func81, by decide +kernel, by kernel_rfl⟩)) <|
    .cons (z17q (low rA H.R H.l r1) (z17q (low rN H.R'.ngC ⟨limQ_ngC H.l'.1, limQ_ngC H.l'.2.1, H.l'.2.2⟩ r2) (z18q ⟨_, Tryz.func79, by decide +kernel, by kernel_rfl⟩))) <|
    .cons (z17q (knownT (ls := [[lowV (-a') (-b') c' P]]) ⟨⟨r2, trivial⟩, trivial⟩ (fun x off e => by cases e) fun w vs ha => ?_) (z18q ⟨_, Tryz.func80, by decide +kernel, by kernel_rfl⟩)) <|
    .cons (z17q (knownT (ls := [[loP a b c P], [hiP a' b' c' P]]) ⟨⟨r1, trivial⟩, ⟨r3, trivial⟩, trivial⟩ (fun x off e => by cases e) fun w vs ha => ?_) (z18q ⟨_, Tryz.func78, by decide +kernel, by kernel_rfl⟩)) <|
    .cons (z17q (cq rA H.R H.l (r.x H.R)) (z17q (cq rB H.R' H.l' (r.y H.R')) (z18q ⟨_, Tryz.func82, by decide +kernel, by kernel_rfl⟩))) <|
    .cons (z17q ⟨fun args ha β w vs hv hl => ?_, fun x off e => by cases e⟩ (z18q ⟨_, Tryz.func77, by decide +kernel, by kernel_rfl⟩)) <|
    .cons (tabInt_ok.all (76, kFrom) (by simp [tabInt])) .nil
  · obtain ⟨v, u, rfl, k1, k2⟩ := argsQ2 ha
    refine (radCmp_calls w v u a b c a' b' c' H.R H.R' (qs_root k1) (qs_root k2) H.l H.l').mono ?_
    rintro e w' ⟨rfl, ex⟩
    exact ⟨_, rfl, fun β => z9q.2 (by rw [H.lt]; rfl), ex⟩
  · obtain ⟨v, rfl, k1⟩ := argsQ1 ha
    refine (p_neg H.R' (qs_root k1) (H.l'.mono (by omega))).mono ?_
    rintro e w' ⟨x, rfl, hx, ex⟩
    exact ⟨x, rfl, fun β => (one_root (rep_ng r.ra') (rep_ng r.rb') r.rc').2 ⟨hx, limQ_ngC H.l'.1, limQ_ngC H.l'.2.1, H.l'.2.2⟩, ex⟩
  · obtain ⟨v, rfl, k1⟩ := argsQ1 ha
    refine (neg_rat_calls w v _ (qs_rat k1) (lb.mono (by omega))).mono ?_
    rintro e w' ⟨x, rfl, hx, ex⟩
    have lb2 := lb'.mono (show 640 ≤ 700 by omega)
    exact ⟨x, rfl, fun β => (one_q r3).2 ⟨hx, lb2.1, lb2.2⟩, ex⟩
  · obtain ⟨v, u, rfl, k1, k2⟩ := argsQ2 ha
    refine (prog_sim w v u _ _ (qs_rat k1) (qs_rat k2) (la.mono (by omega)) (lb'.mono (by omega)) hlt).mono ?_
    rintro e w' ⟨x, rfl, hx, ex⟩
    refine ⟨_, rfl, fun β => ?_, ex⟩
    obtain ⟨us, rfl, hu⟩ := (one_q r4).2 ⟨hx, ls.1, ls.2⟩
    exact ⟨[.agg us.toArray, .int .i64 0], rfl, _, _, rfl, ⟨us, rfl, hu⟩, _, _, rfl, z9q.2 rfl, rfl⟩
  · unfold cSqB at ha
    split at ha
    · obtain ⟨v, rfl, k1⟩ := args1 hv hl
      have k2 : IsInt w v P := by rw [← r.e20]; exact (z10q.1 k1).1
      refine (square_calls w v P k2 lP).mono ?_
      rintro e w' ⟨x, rfl, hx, ex⟩
      exact ⟨x, rfl, fun β => z10q.2 ⟨by show IsInt w' x (E.i 20 * E.i 20); rw [r.e20]; exact hx, by show Lim 600 (E.i 20 * E.i 20); rw [r.e20]; exact lP.mul lP⟩, ex⟩
    · cases ha
def GoodB (a b c a' b' c' : Rat) (E : Env) : Prop := ∃ P : Int, 0 < P ∧ Lim 300 P ∧ E = bwE a b c a' b' c' P
theorem bt_run (H : Btw a b c a' b' c' u) : ∀ (j : Nat) (P : Int), 0 < P → Lim 300 P → (1000000000 : Int) ^ 116 ≤ P ^ (2 ^ j) →
    ∃ m P', Run (GoodB a b c a' b' c') (noStk.set 0 (btI, btTr (bz1 b) (bz2 b'))) (btTr (bz1 b) (bz2 b')) (bwE a b c a' b' c' P) m (bwE a b c a' b' c' P') (btLf (bz1 b) (bz2 b')) ∧ 0 < P' ∧ sgN (a - btS a b c a' b' c' P') b c < 0 ∧ 0 < sgN (a' - btS a b c a' b' c' P') b' c'
  | j, P, hP, lP, hj => by
    have r : BtR (bwE a b c a' b' c' P) a b c a' b' c' P := bwR P
    have tx : (BT.lt (bx (bz1 b) (bz2 b')) (.lit 0)).den (bwE a b c a' b' c' P) = decide (sgN (a - btS a b c a' b' c' P) b c < 0) := by
      show decide ((bx (bz1 b) (bz2 b')).den _ < 0) = _
      rw [r.x H.R]
    have ty : (BT.lt (.lit 0) (by' (bz1 b) (bz2 b'))).den (bwE a b c a' b' c' P) = decide (0 < sgN (a' - btS a b c a' b' c' P) b' c') := by
      show decide (0 < (by' (bz1 b) (bz2 b')).den _) = _
      rw [r.y H.R']
    by_cases hin : sgN (a - btS a b c a' b' c' P) b c < 0 ∧ 0 < sgN (a' - btS a b c a' b' c' P) b' c'
    · exact ⟨0, P, .iteT (by rw [tx, decide_eq_true hin.1]) (.iteT (by rw [ty, decide_eq_true hin.2]) .leaf), hP, hin⟩
    · have hsmall : P < (1000000000 : Int) ^ 116 := by
        refine Decidable.byContradiction fun hn => ?_
        have : bq (gK 19) ≤ (P : Rat) := Rat.intCast_le_intCast.2 (by rw [show gK 19 = 116 from rfl]; omega)
        exact hin ((H.in hP).2.2 this)
      match j, hj with
      | 0, hj => rw [Nat.pow_zero, Int.pow_one] at hj; omega
      | j + 1, hj =>
        have hPP : 0 < P * P := Int.mul_pos hP hP
        have l1 : Lim 116 P := lim_of_abs (by
          have := bq_pos 116
          have hPq : (0 : Rat) < (P : Rat) := Rat.intCast_pos.2 hP
          grind) (Rat.intCast_lt_intCast.2 hsmall)
        have lPP : Lim 300 (P * P) := (l1.mul l1).mono (by omega)
        have hj' : (1000000000 : Int) ^ 116 ≤ (P * P) ^ (2 ^ j) := by
          rw [Int.mul_pow, ← Int.pow_add, show 2 ^ j + 2 ^ j = 2 ^ (j + 1) by rw [Nat.pow_succ]; omega]
          exact hj
        obtain ⟨m, P', hR, h1, h2⟩ := bt_run H j (P * P) hPP lPP hj'
        have hup : (bwE a b c a' b' c' P).upd btI.vs ([IT.a2 2 (.var 20) (.var 20)].map (IT.den (bwE a b c a' b' c' P))) = bwE a b c a' b' c' (P * P) := by
          have : [IT.a2 2 (.var 20) (.var 20)].map (IT.den (bwE a b c a' b' c' P)) = [P * P] := by
            show [(bwE a b c a' b' c' P).i 20 * (bwE a b c a' b' c' P).i 20] = _
            rw [r.e20]
          rw [this]
          exact bwE_upd _ _ _ _ _ _ P (P * P)
        have ent : enterL (GoodB a b c a' b' c') btI [IT.a2 2 (.var 20) (.var 20)] (bwE a b c a' b' c' P) := by
          refine ⟨z8q, ?_, ?_⟩
          · rw [hup]; exact ⟨P * P, hPP, lPP, rfl⟩
          · rw [hup]
            intro p hp
            simp only [btI, List.mem_cons, List.not_mem_nil, or_false] at hp
            subst hp
            show Lim 300 ((bwE a b c a' b' c' (P * P)).i 20)
            rw [(bwR (P * P)).e20]; exact lPP
        have ag : Run (GoodB a b c a' b' c') (noStk.set 0 (btI, btTr (bz1 b) (bz2 b'))) (.again 0 [IT.a2 2 (.var 20) (.var 20)]) (bwE a b c a' b' c' P) (m + 1) (bwE a b c a' b' c' P') (btLf (bz1 b) (bz2 b')) :=
          .again (I := btI) (T := btTr (bz1 b) (bz2 b')) (by simp [Stk.set]) ent (by rw [hup]; exact hR)
        by_cases hx : sgN (a - btS a b c a' b' c' P) b c < 0
        · have hy : ¬ 0 < sgN (a' - btS a b c a' b' c' P) b' c' := fun h => hin ⟨hx, h⟩
          exact ⟨m + 1, P', .iteT (by rw [tx, decide_eq_true hx]) (.iteF (by rw [ty, decide_eq_false hy]) ag), h1, h2⟩
        · exact ⟨m + 1, P', .iteF (by rw [tx, decide_eq_false hx]) ag, h1, h2⟩
theorem between_ex (H : Btw a b c a' b' c' u) : ∃ s, LimQ 9 s ∧ sgN (a - s) b c < 0 ∧ 0 < sgN (a' - s) b' c' ∧ ∀ (w : World) (v1 v2 : Value), z16q w v1 a b c → z16q w v2 a' b' c' →
    Calls Tryz.prog 16 #[v1, v2] w fun e w' => ∃ x, e = .returned (.tuple #[x, .int .i64 0]) ∧ IsRat w' x s ∧ Ext w w' := by
  obtain ⟨m, P, hR, hP, hin⟩ := bt_run H 12 65536 (by decide) (by unfold Lim; decide +kernel) (by decide +kernel)
  refine ⟨btS a b c a' b' c' P, (H.in hP).2.1, hin.1, hin.2, fun w v1 v2 hv hu => ?_⟩
  have r0 : BtR (bwE a b c a' b' c' 1) a b c a' b' c' 1 := bwR 1
  have hup : (bwE a b c a' b' c' 1).upd btI.vs ([IT.lit 65536].map (IT.den (bwE a b c a' b' c' 1))) = bwE a b c a' b' c' 65536 := bwE_upd _ _ _ _ _ _ 1 65536
  refine (loops_sound (Good := GoodB a b c a' b' c') (C := cBt (bz1 b) (bz2 b')) (L := fun _ => some btI) (E := bwE a b c a' b' c' 1) (args := btX) (T := .loop 0 btI [.lit 65536] (btTr (bz1 b) (bz2 b'))) (l := btLf (bz1 b) (bz2 b')) (E' := bwE a b c a' b' c' P) (m := m)
    mixed (fun E hE => ?_) z8q ⟨1, by decide, by unfold Lim; decide +kernel, rfl⟩ Tryz.func16 (by decide +kernel) (bt_walk _ _) (show 2 ≤ _ by decide +kernel) rfl ?_ w [v1, v2] rfl ?_ (fun _ _ => trivial)).mono ?_
  · obtain ⟨P, hP, lP, rfl⟩ := hE
    exact cR_ok (by unfold bwE; exact qE_ok _) (bt_tab (by unfold bwE; exact qE_ok _) (bwR P) H hP lP)
  · refine .loop ⟨z8q, ?_, ?_⟩ ?_
    · rw [hup]; exact ⟨65536, by decide, by unfold Lim; decide +kernel, rfl⟩
    · rw [hup]
      intro p hp
      simp only [btI, List.mem_cons, List.not_mem_nil, or_false] at hp
      subst hp
      show Lim 300 ((bwE a b c a' b' c' 65536).i 20)
      rw [(bwR 65536).e20]; unfold Lim; decide +kernel
    · rw [hup]; exact hR
  · intro i x hx
    match i, hx with
    | 0, hx => injection hx with hx; subst hx; exact ⟨fun _ => 0, v1, rfl, (one_root r0.ra r0.rb r0.rc).2 ⟨hv, H.l⟩⟩
    | 1, hx => injection hx with hx; subst hx; exact ⟨fun _ => 0, v2, rfl, (one_root r0.ra' r0.rb' r0.rc').2 ⟨hu, H.l'⟩⟩
  · rintro e w' ⟨β, y, rfl, hh, ex⟩
    have r : BtR (bwE a b c a' b' c' P) a b c a' b' c' P := bwR P
    obtain ⟨vs, rfl, y1, r1, rfl, k1, y2, r2, rfl, k2, hn⟩ := hh
    simp only [tupAll] at hn
    subst hn
    have k2' := z9q.1 k2
    subst k2'
    have k3 := (one_q r.s).1 k1
    exact ⟨y1, rfl, k3.1, ex⟩
end
end Go.Proofs.YtifeacfljfmnpaaGreat
end

section
set_option maxRecDepth 100000
namespace Go.Proofs.YtifeacfljfmnpaaGreat
open Go.RowKit
theorem fl_bd {a b c U V Y : Rat} {n : Int} (R : Rd b c) (a1 : -U ≤ a) (a2 : a ≤ U) (b1 : -V ≤ b) (b2 : b ≤ V) (hY : 1 ≤ Y) (hV : 1 ≤ V) (hc : c ≤ Y * Y) (h : IsFl a b c n) : -(U + V * Y) - 1 ≤ (n : Rat) ∧ (n : Rat) ≤ U + V * Y := by
  have c0 := R.c00
  have bb := (mul_abs b1 b2 b1 b2).2
  obtain ⟨X, hX⟩ : ∃ X, X = V * Y := ⟨_, rfl⟩
  have Xp : 0 < X := by rw [hX]; exact Rat.mul_pos (by grind) (by grind)
  have bbc : b * b * c ≤ X * X := by
    have x1 := Rat.mul_nonneg (a := V * V - b * b) (b := c) (by grind) c0
    have x2 := Rat.mul_nonneg (a := V * V) (b := Y * Y - c) (by have := Rat.mul_pos (a := V) (b := V) (by grind) (by grind); grind) (by grind)
    have e : X * X = V * V * (Y * Y) := by rw [hX]; grind
    grind
  have big : ∀ d : Rat, (X < d ∨ d < -X) → 0 < nrm d b c := by
    intro d hd
    have : X * X < d * d := by
      rcases hd with hd | hd
      · have := Rat.mul_pos (a := d - X) (b := d + X) (by grind) (by grind)
        grind
      · have := Rat.mul_pos (a := -d - X) (b := -d + X) (by grind) (by grind)
        grind
    unfold nrm
    grind
  rw [← hX]
  constructor
  · refine Decidable.byContradiction fun hn => ?_
    have h2 := h.2
    rw [Rat.intCast_add] at h2
    have e1 : ((1 : Int) : Rat) = 1 := rfl
    rw [e1] at h2
    rw [sgN_pos (big _ (.inl (by grind))), sgQ_pos (by grind)] at h2
    omega
  · refine Decidable.byContradiction fun hn => ?_
    have h1 := h.1
    rw [sgN_pos (big _ (.inr (by grind))), sgQ_neg' (by grind)] at h1
    omega
theorem cmR_tol {A B C t : Rat} (R : Rd B C) (ht : 0 < t) : cmR (A - t) B C (A + t) B C = -1 := by
  rw [cmR_ok R R (.inr (.inr rfl)), show B - B = 0 by grind, rC_zero, sgN_00, sgQ_neg' (by grind)]
theorem near_btw {A B C t : Rat} (R : Rd B C) (hb : B ≠ 0) (l : LimR 3 A B C) (lt : LimQ 3 t) (ht : 0 < t) : ∃ u, Btw (A - t) B C (A + t) B C u := by
  obtain ⟨Q, hQ⟩ : ∃ Q : Int, Q = (t.den : Int) := ⟨_, rfl⟩
  have Qp : 0 < Q := by have := t.den_pos; omega
  have hQq : (0 : Rat) < (Q : Rat) := Rat.intCast_pos.2 Qp
  have lQ : Lim 3 Q := by rw [hQ]; exact lt.2
  have hne : B * (Q : Rat) ≠ 0 := fun e => by
    rcases Rat.mul_eq_zero.1 e with h | h
    · exact hb h
    · grind
  have R' : Rd (B * (Q : Rat)) C := by
    rcases R with ⟨h, _⟩ | ⟨_, h⟩
    · exact absurd h hb
    · exact .inr ⟨hne, h⟩
  obtain ⟨f, hf⟩ : ∃ f, f = flN (A * (Q : Rat)) (B * (Q : Rat)) C := ⟨_, rfl⟩
  have F := flN_spec R' (a := A * (Q : Rat))
  rw [← hf] at F
  have low := lowQ_fl R hb Qp F
  have Qb : -(bq 3) ≤ (Q : Rat) ∧ (Q : Rat) ≤ bq 3 := limQ_abs (⟨by rw [Rat.num_intCast]; exact lQ, by rw [Rat.den_intCast]; exact (lim1 (z := 1) (by decide)).mono (by omega)⟩ : LimQ 3 (Q : Rat))
  obtain ⟨a1, a2⟩ := limQ_abs l.1
  obtain ⟨b1, b2⟩ := limQ_abs l.2.1
  obtain ⟨_, c2⟩ := limQ_abs l.2.2
  have AQ := mul_abs a1 a2 Qb.1 Qb.2
  have BQ := mul_abs b1 b2 Qb.1 Qb.2
  have e6 : bq 3 * bq 3 = bq 6 := (bq_add 3 3).symm
  have e4 : bq 2 * bq 2 = bq 4 := (bq_add 2 2).symm
  have e8 : bq 6 * bq 2 = bq 8 := (bq_add 6 2).symm
  rw [e6] at AQ BQ
  have c4 : C ≤ bq 2 * bq 2 := by
    rw [e4, show bq 4 = bq 3 * bq 1 from bq_add 3 1]
    have := Rat.mul_nonneg (a := bq 3) (b := bq 1 - 1) (by have := bq_one 3; grind) (by have := bq_one 1; grind)
    grind
  have bd := fl_bd R' AQ.1 AQ.2 BQ.1 BQ.2 (bq_one 2) (bq_one 6) c4 F
  rw [e8] at bd
  have e9 : bq 9 = bq 8 * 1000000000 := bq_add 8 1
  have e86 : bq 8 = bq 6 * 1000000000000000000 := bq_add 6 2
  have p6 := bq_one 6
  have lf : Lim 9 f := lim_of_abs (by grind) (by grind)
  have lu : LimQ 9 (Rat.divInt f Q) := by
    have := divInt_lim lf lQ (by omega)
    exact ⟨this.1, this.2.mono (by omega)⟩
  have la := limQ_subC l.1 lt
  have la' : LimQ 7 (A + t) := by
    have := limQ_subC l.1 (limQ_ngC lt)
    rwa [show A - -t = A + t by grind] at this
  refine ⟨Rat.divInt f Q, R, R, ⟨la.mono (by omega), l.2.1.mono (by omega), l.2.2.mono (by omega)⟩, ⟨la'.mono (by omega), l.2.1.mono (by omega), l.2.2.mono (by omega)⟩, lu, ?_, ?_, cmR_tol R ht⟩
  · rcases low with ⟨h, _⟩ | ⟨_, _, h2⟩
    · exact absurd h hb
    · refine Decidable.byContradiction fun hn => ?_
      have e1 : Rat.divInt 1 Q ≤ t := by
        have n1 := (num_pos_iff t).2 ht
        have e2 : Rat.divInt 1 Q * (Q : Rat) = 1 := by rw [Rat.divInt_eq_div]; exact Rat.div_mul_cancel (by grind)
        have e3 : t * (Q : Rat) = (t.num : Rat) := by rw [hQ]; exact den_mul t
        have e4 : ((1 : Int) : Rat) ≤ (t.num : Rat) := Rat.intCast_le_intCast.2 (by omega)
        have e4' : (1 : Rat) ≤ (t.num : Rat) := e4
        refine Decidable.byContradiction fun hn => ?_
        have := Rat.mul_pos (a := Rat.divInt 1 Q - t) (b := (Q : Rat)) (by grind) hQq
        grind
      have := sgN_mono R (x := A - t - Rat.divInt f Q) (y := A - Rat.divInt f Q - Rat.divInt 1 Q) (by grind) (by omega)
      omega
  · rcases low with ⟨h, _⟩ | ⟨_, h1, _⟩
    · exact absurd h hb
    · have k := sgN_mono R (x := A - Rat.divInt f Q) (y := A + t - Rat.divInt f Q) (by grind) h1
      have hz : sgN (A + t - Rat.divInt f Q) B C ≠ 0 := fun e => hb (nrm_ne R ((sgN_eq0 R).1 e)).2
      omega
def NearQ (A B C t s : Rat) : Prop := LimQ 9 s ∧ sgN (A - (s + t)) B C ≤ 0 ∧ 0 ≤ sgN (A - (s - t)) B C
end Go.Proofs.YtifeacfljfmnpaaGreat
end

section
set_option maxRecDepth 100000
namespace Go.Proofs.YtifeacfljfmnpaaGreat
open Go.RowKit
def nrLo : List IT2 := [qop 1 (qI 0) (qI 6), qI 2, qI 4]
def nrHi : List IT2 := [qop 0 (qI 0) (qI 6), qI 2, qI 4]
def rNr (i m : Nat) : AV := .tup [(true, [.int (.var i) m, .int (.var (i + 1)) m]), (false, [.n .i64 (.lit 0)])]
noncomputable def tabNr (z : Bool) : List (Nat × Con) := [(16, if z then kNoQ else kKq (cts [nrLo, nrHi]) (rNr 8 9) kNoQ)]
noncomputable def cNr (z : Bool) : Cfg := cfgI (cR (tabNr z)) (cR (tabNr z)) [(188, Tryz.f188)]
def nrX : List AV := [.val true (rt (qI 0) (qI 2) (qI 4) 3), .val true [.int (.var 6) 3, .int (.var 7) 3]]
def isNr (z : Bool) : Option Tree → Bool
  | some (.leaf [(true, [.int x _, .int y _]), (false, [.n .i64 (.lit 0)])]) => x.beq (.var (if z then 0 else 8)) && y.beq (.var (if z then 1 else 9))
  | _ => false
theorem nr_walk : (bools.all fun z => isNr z (funE (cNr z) Tryz.f136 [(zt (qI 2), z)] nrX)) = true := by kernel_rfl
def lnX : List AV := [.val true (rt (qI 0) (qI 2) (qI 4) 3), .val true [.int (.var 8) 9, .int (.var 9) 9], .val true [.int (.var 6) 3, .int (.var 7) 3]]
noncomputable def tabLn : List (Nat × Con) := [(18, kVl), (137, kKq (cts [[qI 0, qI 2, qI 4], [qop 1 (qI 8) (qI 6)]]) (.val false [.n .i64 (.var 20)]) (kKq (cts [[qI 0, qI 2, qI 4], [qop 0 (qI 8) (qI 6)]]) (.val false [.n .i64 (.var 22)]) kNoQ))]
theorem ln_walk : isBlo true (funE (cR tabLn) Tryz.f64 [(.le (.lit 0) (.var 20), true), (.le (.var 22) (.lit 0), true)] lnX) = true := by kernel_rfl
noncomputable def tabCr : List (Nat × Con) := [(59, kRSg)]
noncomputable def cCrB : Cfg := cfgI (cR tabCr) (cR tabCr) [(189, Tryz.f189)]
def crG : Asm := [(rdT (qI 2) (qI 4), true)]
def isCr : Option Tree → Bool
  | some (.leaf [(false, [.n .i64 t])]) => t.beq (sgnT (qop 0 (qI 0) (qng (qI 6))) (qI 2) (qI 4)) || t.beq (sgnT (qop 1 (qI 0) (qI 6)) (qI 2) (qI 4))
  | _ => false
theorem cr_walk : isCr (funE cCrB Tryz.f137 crG [.val true (rt (qI 0) (qI 2) (qI 4) 9), .val true [.int (.var 6) 20, .int (.var 7) 20]]) = true := by kernel_rfl
end Go.Proofs.YtifeacfljfmnpaaGreat
end

section
set_option maxRecDepth 100000
namespace Go.Proofs.YtifeacfljfmnpaaGreat
open Go.RowKit
def oTn (n : Nat) (ts : List IT2) (cs : List Chunk) (off : Nat) : Option Bool := if t6 ts cs && off == big + n then some true else none
def oRn (n : Nat) (c : Bool) (cs : List Chunk) (off : Nat) : Option Bool := if isRaw 0 cs && (cs.length == 10 * n && off == big + n) then some c else none
theorem oRn_ok {E : Env} {n : Nat} (hn : n = 1 ∨ n = 2) {l : List RI} (hr : ∀ k, k < 10 * n → E.r k = rawW l k) {c : Bool} (hc : (pSm (l.take 10) && (n == 1 || pSm (l.drop 10))) = c) : RowSm E 41 (oRn n c) := by
  intro cs off d hd w b hv
  unfold oRn at hd
  split at hd
  · rename_i hb
    injection hd with hd
    subst hd
    simp only [Bool.and_eq_true, beq_iff_eq] at hb
    obtain ⟨h1, h2, rfl⟩ := hb
    have hcs := isRaw_spec h1
    rw [h2] at hcs
    rw [hcs] at hv
    obtain ⟨vs, hc', hcell⟩ := hv
    have key := smRow_calls hn (l := l) w b ⟨vs, raws_raws2 (E := E) (10 * n) 0 0 vs hc' (fun k hk => by
      rw [Nat.zero_add]
      exact (hr k hk).symm), hcell⟩
    rw [hc] at key
    exact key
  · cases hd
theorem oTn_ok {E : Env} {n : Nat} (hn : n = 1 ∨ n = 2) {ts : List IT2} {qs : List Rat} (hr : Reps E ts qs) (hl : qs.length = 5 * n) (hs : (pSm ((rawsQs qs).take 10) && (n == 1 || pSm ((rawsQs qs).drop 10))) = true) : RowSm E 41 (oTn n ts) := by
  intro cs off d hd w b hv
  unfold oTn at hd
  split at hd
  · rename_i hb
    injection hd with hd
    subst hd
    simp only [Bool.and_eq_true, beq_iff_eq] at hb
    obtain ⟨h1, rfl⟩ := hb
    obtain ⟨vs, hc', hcell⟩ := hv
    have hq := t6_holds hr h1 hc'
    have key := smRow_calls hn (l := rawsQs qs) w b ⟨vs, by
      have := rats_raws (E := bE okQ (rawsQs qs)) qs 0 vs hq (fun k _ => by rw [Nat.zero_add]; rfl)
      rwa [hl, show 2 * (5 * n) = 10 * n by omega] at this, hcell⟩
    rw [hs] at key
    exact key
  · cases hd
theorem pSm_pt {w : World} {v : Value} {p : PtQ} (hv : IsQs w v p.l) (hl : LimQs 3 p.l) (hp : p.ok) : pSm (rawsQs p.l) = true := by
  obtain ⟨vs, rfl, h⟩ := hv
  exact pSm_qs (l := []) h hl hp
def aP3 (i : Nat) : AV := .val true (intC 3 i 5)
theorem take_row {m1 m2 : List RI} : ∀ k, k < 10 → rawW (((List.range 10).map (rawW m1)) ++ m2) k = rawW m1 k := by
  intro k hk
  unfold rawW
  rw [List.getD_eq_getElem?_getD, List.getElem?_append_left (by simpa using hk), List.getElem?_map, List.getElem?_range hk]
  rfl
theorem take_row' {m1 m2 : List RI} : ((List.range 10).map (rawW m1) ++ m2).take 10 = (List.range 10).map (rawW m1) := by
  rw [List.take_append_of_le_length (by simp)]
  exact List.take_of_length_le (by simp)
theorem pSm_norm (m : List RI) : pSm ((List.range 10).map (rawW m)) = pSm m := rfl
end Go.Proofs.YtifeacfljfmnpaaGreat
end

section
set_option maxRecDepth 100000
namespace Go.Proofs.YtifeacfljfmnpaaGreat
open Go.RowKit
def cT3 (ts : List IT2) : List AV → Bool
  | [.val true cs, .val false [.n .i64 (.lit z)]] => t6 ts cs && z == 3
  | _ => false
noncomputable def tabNw (b z1 z2 : Bool) : List (Nat × Con) :=
  (32, kAw7) :: (62, kKq (cT3 [qI 10]) (rBl true) kNoQ) ::
  (136, if b then kNoQ else kKq (cts [tsX z1 0, [qI 10]]) (rNr 12 9) (kKq (cts [tsY z2 0, [qI 10]]) (rNr 14 9) kNoQ)) ::
  (64, if b then kNoQ else kKq (cts [tsX z1 0, [qI 12], [qI 10]]) (rBl true) (kKq (cts [tsY z2 0, [qI 14], [qI 10]]) (rBl true) kNoQ)) :: tabT
noncomputable def iNw : List (Nat × Func) := [(63, Tryz.f63)]
noncomputable def cNw (b z1 z2 : Bool) : Cfg := cfgS 41 (oTn 1 (tsP 0)) (cfgI (cPt (cfgOf (tabNw b z1 z2))) (cPt (cfgOf (tabNw b z1 z2))) iNw)
def gNw (b z1 z2 : Bool) : Asm := [(zt (qI 2), z1), (zt (qI 6), z2), (.le (sgt (qI 10)) (.lit 0), b)]
theorem nw_walk : (bools.all fun b => bools.all fun z1 => bools.all fun z2 => okTr (funE (cNw b z1 z2) Tryz.f13 (gNw b z1 z2) [aP3 0, .val true (intC 3 10 1)])) = true := by kernel_rfl
noncomputable def tabNb (y : Bool) : List (Nat × Con) := [(32, kAw7), (62, kKq (cR2n 10) (rBl y) kNoQ)]
theorem nw_bad : (bools.all fun x => bools.all fun y => (x && y) || okTr (funE (cfgS 41 (oRn 1 x) (cfgOf (tabNb y))) Tryz.f13 [] [.val true (rawL 0 10), .val true [.raw 10, .raw 11]])) = true := by kernel_rfl
end Go.Proofs.YtifeacfljfmnpaaGreat
end

section
set_option maxRecDepth 100000
namespace Go.Proofs.YtifeacfljfmnpaaGreat
open Go.RowKit
theorem rcmp3_calls (w : World) (v u : Value) (A B C d : Rat) (R : Rd B C) (hv : z16q w v A B C) (hu : IsRat w u d) (l : LimR 9 A B C) (ld : LimQ 20 d) : Calls Tryz.prog 137 #[v, u] w (RetN (sgN (A - d) B C) w) := by
  obtain ⟨E, hE⟩ : ∃ E, E = qE [A, B, C, d] := ⟨_, rfl⟩
  have hQ : QEnv E := by rw [hE]; exact qE_ok _
  have ra : RepQ E (qI 0) A := by rw [hE]; exact ⟨rfl, rfl⟩
  have rb : RepQ E (qI 2) B := by rw [hE]; exact ⟨rfl, rfl⟩
  have rc : RepQ E (qI 4) C := by rw [hE]; exact ⟨rfl, rfl⟩
  have rd : RepQ E (qI 6) d := by rw [hE]; exact ⟨rfl, rfl⟩
  have hT : TabOK Tryz.prog E tabCr := .cons (kRSg_ok hQ (fun w v a b c R h l => r_sign R h l) ⟨_, Tryz.func59, by decide +kernel, by kernel_rfl⟩) .nil
  have h0 := cR_ok hQ hT
  have hC : CfgOK Tryz.prog E cCrB := cfgI_ok mixed h0 h0 (fun _ => trivial) (.cons Tryz.func189 (by decide +kernel) (by kernel_rfl) .nil)
  have hG : crG.holds E := asm_and (by rw [rdT_den rb rc]; exact Rdb_iff.2 R) asm_nil
  have hW := cr_walk
  unfold isCr at hW
  split at hW
  · rename_i t hTe
    refine (z5q mixed hC hG Tryz.func137 (by decide +kernel) hTe (show 2 ≤ _ by decide +kernel) rfl w [v, u] rfl ?_).mono ?_
    · intro i x hx
      match i, hx with
      | 0, hx => injection hx with hx; subst hx; exact ⟨fun _ => 0, v, rfl, (one_root ra rb rc).2 ⟨hv, l⟩⟩
      | 1, hx => injection hx with hx; subst hx; exact ⟨fun _ => 0, u, rfl, (one_q rd).2 ⟨hu, ld.1, ld.2⟩⟩
    · rintro e w' ⟨β, y, rfl, hh, ex⟩
      have k := z9q.1 hh
      subst k
      refine ⟨?_, ex⟩
      rw [Bool.or_eq_true] at hW
      have ht : t.den E = sgN (A - d) B C := by
        rcases hW with h | h
        · rw [IT.eq_of_beq h, sgnT_den (rep_add ra (rep_ng rd)) rb rc R, show A + -d = A - d by grind]
        · rw [IT.eq_of_beq h, sgnT_den (rep_sub ra rd) rb rc R]
      rw [ht]
  · cases hW
theorem lnear_calls (w : World) (v x u : Value) (A B C t s : Rat) (R : Rd B C) (hv : z16q w v A B C) (hx : IsRat w x s) (hu : IsRat w u t) (l : LimR 3 A B C) (lt : LimQ 3 t) (N : NearQ A B C t s) : Calls Tryz.prog 64 #[v, x, u] w (RetBl true w) := by
  obtain ⟨ls, n1, n2⟩ := N
  obtain ⟨E, hE⟩ : ∃ E, E = qE [A, B, C, t, s, 0, 0, 0, 0, 0, ((sgN (A - (s - t)) B C : Int) : Rat), ((sgN (A - (s + t)) B C : Int) : Rat)] := ⟨_, rfl⟩
  have hQ : QEnv E := by rw [hE]; exact qE_ok _
  have ra : RepQ E (qI 0) A := by rw [hE]; exact ⟨rfl, rfl⟩
  have rb : RepQ E (qI 2) B := by rw [hE]; exact ⟨rfl, rfl⟩
  have rc : RepQ E (qI 4) C := by rw [hE]; exact ⟨rfl, rfl⟩
  have rt' : RepQ E (qI 6) t := by rw [hE]; exact ⟨rfl, rfl⟩
  have rs : RepQ E (qI 8) s := by rw [hE]; exact ⟨rfl, rfl⟩
  have e20 : E.i 20 = sgN (A - (s - t)) B C := by rw [hE]; exact qE_int (i := 10) rfl
  have e22 : E.i 22 = sgN (A - (s + t)) B C := by rw [hE]; exact qE_int (i := 11) rfl
  have l1 : LimQ 20 (s - t) := (limQ_subC ls (lt.mono (show 3 ≤ 9 by omega))).mono (by omega)
  have l2 : LimQ 20 (s + t) := by
    have := limQ_subC ls (limQ_ngC (lt.mono (show 3 ≤ 9 by omega)))
    rw [show s - -t = s + t by grind] at this
    exact this.mono (by omega)
  have rA : Reps E [qI 0, qI 2, qI 4] [A, B, C] := ⟨ra, rb, rc, trivial⟩
  have kn : ∀ {d : Rat} {p : IT2} {j : Nat}, RepQ E p d → LimQ 20 d → E.i j = sgN (A - d) B C → KnownR E 137 (cts [[qI 0, qI 2, qI 4], [p]]) (.val false [.n .i64 (.var j)]) := fun {d p j} rp lp ej => knownT (ls := [[A, B, C], [d]]) ⟨rA, ⟨rp, trivial⟩, trivial⟩ (fun x off e => by cases e) fun w vs ha => by
    obtain ⟨v, u, rfl, k1, k2⟩ := argsQ2 ha
    refine (rcmp3_calls w v u A B C d R (qs_root k1) (qs_rat k2) (l.mono (by omega)) lp).mono ?_
    rintro e w' ⟨rfl, ex⟩
    exact ⟨_, rfl, fun β => z9q.2 (by show _ = Value.int .i64 (E.i j); rw [ej]), ex⟩
  have hT : TabOK Tryz.prog E tabLn := .cons (kVl_ok hQ (fun w v s1 s2 xs1 xs2 h l1 l2 => rvalid_rat_calls w v s1 s2 xs1 xs2 h l1 l2) ⟨_, Tryz.func18, by decide +kernel, by kernel_rfl⟩) <|
    .cons (z17q (kn (rep_sub rs rt') l1 e20) (z17q (kn (rep_add rs rt') l2 e22) (z18q ⟨_, Tryz.func137, by decide +kernel, by kernel_rfl⟩))) .nil
  have hG : Asm.holds E [(.le (.lit 0) (.var 20), true), (.le (.var 22) (.lit 0), true)] := asm_and (by
    show decide ((0 : Int) ≤ E.i 20) = true
    rw [e20, decide_eq_true_iff]; exact n2) <| asm_and (by
    show decide (E.i 22 ≤ (0 : Int)) = true
    rw [e22, decide_eq_true_iff]; exact n1) asm_nil
  have hW := ln_walk
  unfold isBlo at hW
  split at hW
  · rename_i T hTe
    refine (z5q mixed (cR_ok hQ hT) hG Tryz.func64 (by decide +kernel) hTe (show 3 ≤ _ by decide +kernel) rfl w [v, x, u] rfl ?_).mono ?_
    · intro i z hz
      match i, hz with
      | 0, hz => injection hz with hz; subst hz; exact ⟨fun _ => 0, v, rfl, (one_root ra rb rc).2 ⟨hv, l⟩⟩
      | 1, hz => injection hz with hz; subst hz; exact ⟨fun _ => 0, x, rfl, (one_q (A := qI 8) rs).2 ⟨hx, ls.1, ls.2⟩⟩
      | 2, hz => injection hz with hz; subst hz; exact ⟨fun _ => 0, u, rfl, (one_q (A := qI 6) rt').2 ⟨hu, lt.1, lt.2⟩⟩
    · rintro e w' ⟨β, y, rfl, hh, ex⟩
      rw [isBl_pick hW] at hh
      rw [show y = _ from z11q.1 hh]
      exact ⟨rfl, ex⟩
  · cases hW
theorem near_ex {A B C t : Rat} (R : Rd B C) (l : LimR 3 A B C) (lt : LimQ 3 t) (ht : 0 < t) : ∃ s, NearQ A B C t s ∧ ∀ (w : World) (v u : Value), z16q w v A B C → IsRat w u t → Calls Tryz.prog 136 #[v, u] w fun e w' => ∃ x, e = .returned (.tuple #[x, .int .i64 0]) ∧ IsRat w' x s ∧ Ext w w' := by
  have main : ∀ s, LimQ 9 s → (B = 0 → s = A) → (B ≠ 0 → ∀ (w : World) (v1 v2 : Value), z16q w v1 (A - t) B C → z16q w v2 (A + t) B C → Calls Tryz.prog 16 #[v1, v2] w fun e w' => ∃ x, e = .returned (.tuple #[x, .int .i64 0]) ∧ IsRat w' x s ∧ Ext w w') →
      ∀ (w : World) (v u : Value), z16q w v A B C → IsRat w u t → Calls Tryz.prog 136 #[v, u] w fun e w' => ∃ x, e = .returned (.tuple #[x, .int .i64 0]) ∧ IsRat w' x s ∧ Ext w w' := by
    intro s ls h0 hB w v u hv hu
    obtain ⟨E, hE⟩ : ∃ E, E = qE [A, B, C, t, s] := ⟨_, rfl⟩
    have hQ : QEnv E := by rw [hE]; exact qE_ok _
    have ra : RepQ E (qI 0) A := by rw [hE]; exact ⟨rfl, rfl⟩
    have rb : RepQ E (qI 2) B := by rw [hE]; exact ⟨rfl, rfl⟩
    have rc : RepQ E (qI 4) C := by rw [hE]; exact ⟨rfl, rfl⟩
    have rt' : RepQ E (qI 6) t := by rw [hE]; exact ⟨rfl, rfl⟩
    have rs : RepQ E (qI 8) s := by rw [hE]; exact ⟨rfl, rfl⟩
    have hT : TabOK Tryz.prog E (tabNr (decide (B = 0))) := by
      refine .cons ?_ .nil
      have nb : ConOK Tryz.prog E 16 kNoQ := z18q ⟨_, Tryz.func16, by decide +kernel, by kernel_rfl⟩
      by_cases hb : B = 0
      · rw [decide_eq_true hb, if_pos rfl]; exact nb
      · rw [decide_eq_false hb, if_neg (by decide)]
        refine z17q (knownT (ls := [[A - t, B, C], [A + t, B, C]]) ⟨⟨rep_sub ra rt', rb, rc, trivial⟩, ⟨rep_add ra rt', rb, rc, trivial⟩, trivial⟩ (fun x off e => by cases e) fun w vs ha => ?_) nb
        obtain ⟨v, u, rfl, k1, k2⟩ := argsQ2 ha
        refine (hB hb w v u (qs_root k1) (qs_root k2)).mono ?_
        rintro e w' ⟨x, rfl, hx, ex⟩
        refine ⟨_, rfl, fun β => ?_, ex⟩
        obtain ⟨us, rfl, hus⟩ := (one_q (A := qI 8) (l := 9) (m := 9) rs).2 ⟨hx, ls.1, ls.2⟩
        exact ⟨[.agg us.toArray, .int .i64 0], rfl, _, _, rfl, ⟨us, rfl, hus⟩, _, _, rfl, z9q.2 rfl, rfl⟩
    have h1 := cR_ok hQ hT
    have hC : CfgOK Tryz.prog E (cNr (decide (B = 0))) := cfgI_ok mixed h1 h1 (fun _ => trivial) (.cons Tryz.func188 (by decide +kernel) (by kernel_rfl) .nil)
    have hW := List.all_eq_true.1 nr_walk (decide (B = 0)) (z15q _)
    cases hTe : funE (cNr (decide (B = 0))) Tryz.f136 [(zt (qI 2), decide (B = 0))] nrX with
    | none => rw [hTe] at hW; cases hW
    | some T =>
      rw [hTe] at hW
      refine (z5q mixed hC (asm_and (zt_den rb) asm_nil) Tryz.func136 (by decide +kernel) hTe (show 2 ≤ _ by decide +kernel) rfl w [v, u] rfl ?_).mono ?_
      · intro i x hx
        match i, hx with
        | 0, hx => injection hx with hx; subst hx; exact ⟨fun _ => 0, v, rfl, (one_root ra rb rc).2 ⟨hv, l⟩⟩
        | 1, hx => injection hx with hx; subst hx; exact ⟨fun _ => 0, u, rfl, (one_q (A := qI 6) rt').2 ⟨hu, lt.1, lt.2⟩⟩
      · rintro e w' ⟨β, y, rfl, hh, ex⟩
        unfold isNr at hW
        split at hW
        · rename_i x _ y' _ e1
          cases e1
          rw [Bool.and_eq_true] at hW
          have e2 := IT.eq_of_beq hW.1
          have e3 := IT.eq_of_beq hW.2
          subst e2 e3
          obtain ⟨vs, rfl, y1, r1, rfl, k1, y2, r2, rfl, k2, hn⟩ := hh
          simp only [tupAll] at hn
          subst hn
          have k2' := z9q.1 k2
          subst k2'
          refine ⟨y1, rfl, ?_, ex⟩
          by_cases hb : B = 0
          · rw [decide_eq_true hb] at k1
            rw [h0 hb]
            exact ((one_q (A := qI 0) ra).1 k1).1
          · rw [decide_eq_false hb] at k1
            exact ((one_q (A := qI 8) rs).1 k1).1
        · cases hW
  by_cases hb : B = 0
  · have hC0 : C = 0 := by
      rcases R with ⟨_, h⟩ | ⟨h, _⟩
      · exact h
      · exact absurd hb h
    refine ⟨A, ⟨l.1.mono (by omega), ?_, ?_⟩, main A (l.1.mono (by omega)) (fun _ => rfl) fun h => absurd hb h⟩
    · rw [hb, hC0, sgN_00, sgQ_neg' (by grind)]; omega
    · rw [hb, hC0, sgN_00, sgQ_pos (by grind)]; omega
  · obtain ⟨u, H⟩ := near_btw R hb l lt ht
    obtain ⟨s, ls, n1, n2, hc⟩ := between_ex H
    refine ⟨s, ⟨ls, ?_, ?_⟩, main s ls (fun h => absurd h hb) fun _ => hc⟩
    · rw [show A - (s + t) = A - t - s by grind]; omega
    · rw [show A - (s - t) = A + t - s by grind]; omega
end Go.Proofs.YtifeacfljfmnpaaGreat
end

section
set_option maxRecDepth 100000
namespace Go.Proofs.YtifeacfljfmnpaaGreat
open Go.RowKit
theorem small3_known {E : Env} {t : Rat} {i : Nat} (rt : RepQ E (qI i) t) (lt : LimQ 3 t) : KnownR E 62 (cT3 [qI i]) (rBl true) := by
  refine ⟨fun args ha β w vs hv hl => ?_, fun x off e => by cases e⟩
  unfold cT3 at ha
  split at ha
  · rw [Bool.and_eq_true, beq_iff_eq] at ha
    obtain ⟨h1, rfl⟩ := ha
    obtain ⟨v, u, rfl, ⟨us, rfl, hu⟩, k2⟩ := args2 hv hl
    have k2' := z9q.1 k2
    subst k2'
    have hq := qs_rat ⟨us, rfl, t6_holds (show Reps E [qI i] [t] from ⟨rt, trivial⟩) h1 hu⟩
    refine (rsmall3_calls w _ (decide (t.num < 0), limbs t.num.natAbs) (decide ((t.den : Int) < 0), limbs (t.den : Int).natAbs) (rat_raw hq).1).mono ?_
    rintro e w' ⟨rfl, ex⟩
    exact ⟨_, rfl, fun β => z11q.2 (by rw [smN_rawQ hq lt]; rfl), ex⟩
  · cases ha
theorem qs1_chunks {E : Env} {w : World} {v : Value} {i : Nat} {t : Rat} (rt : RepQ E (qI i) t) (hv : IsRat w v t) (lt : LimQ 3 t) : ∀ β, (AV.val true (intC 3 i 1)).holds E β w v := fun _ => (one_q rt).2 ⟨hv, lt.1, lt.2⟩
theorem two_argsN {E : Env} {w : World} {x y : AV} {v u : Value} (h1 : ∀ β, x.holds E β w v) (h2 : ∀ β, y.holds E β w u) : ∀ (i : Nat) (s : AV), [x, y][i]? = some s → ∃ r, [v, u][i]? = some r ∧ ∀ β, s.holds E β w r := by
  intro i s hs
  match i, hs with
  | 0, hs => injection hs with hs; subst hs; exact ⟨v, rfl, h1⟩
  | 1, hs => injection hs with hs; subst hs; exact ⟨u, rfl, h2⟩
theorem argsQ3 {w : World} {vs : List Value} {l m n : List Rat} (h : ArgsQ w vs [l, m, n]) : ∃ v x u, vs = [v, x, u] ∧ IsQs w v l ∧ IsQs w x m ∧ IsQs w u n := by
  match vs, h with
  | [v, x, u], h => exact ⟨v, x, u, rfl, h.1, h.2.1, h.2.2.1⟩
def NearP (A B C t s : Rat) : Prop := NearQ A B C t s ∧ ∀ (w : World) (v u : Value), z16q w v A B C → IsRat w u t → Calls Tryz.prog 136 #[v, u] w fun e w' => ∃ x, e = .returned (.tuple #[x, .int .i64 0]) ∧ IsRat w' x s ∧ Ext w w'
theorem near_known {E : Env} {A B C t s : Rat} {ts : List IT2} {i : Nat} (rt' : RepQ E (qI 10) t) (rr : Reps E ts [A, B, C]) (rs : RepQ E (qI i) s) (k : NearP A B C t s) : KnownR E 136 (cts [ts, [qI 10]]) (rNr i 9) :=
  knownT (ls := [[A, B, C], [t]]) ⟨rr, ⟨rt', trivial⟩, trivial⟩ (fun x off e => by cases e) fun w vs ha => by
    obtain ⟨v, u, rfl, j1, j2⟩ := argsQ2 ha
    refine (k.2 w v u (qs_root j1) (qs_rat j2)).mono ?_
    rintro e w' ⟨x, rfl, hx, ex⟩
    refine ⟨_, rfl, fun β => ?_, ex⟩
    obtain ⟨us, rfl, hus⟩ := (one_q (A := qI i) (l := 9) (m := 9) rs).2 ⟨hx, k.1.1.1, k.1.1.2⟩
    exact ⟨[.agg us.toArray, .int .i64 0], rfl, _, _, rfl, ⟨us, rfl, hus⟩, _, _, rfl, z9q.2 rfl, rfl⟩
theorem lnear_known {E : Env} {A B C t s : Rat} {ts : List IT2} {i : Nat} (rt' : RepQ E (qI 10) t) (rr : Reps E ts [A, B, C]) (rs : RepQ E (qI i) s) (R : Rd B C) (l : LimR 3 A B C) (lt : LimQ 3 t) (k : NearQ A B C t s) : KnownR E 64 (cts [ts, [qI i], [qI 10]]) (rBl true) :=
  knownT (ls := [[A, B, C], [s], [t]]) ⟨rr, ⟨rs, trivial⟩, ⟨rt', trivial⟩, trivial⟩ (fun x off e => by cases e) fun w vs ha => by
    obtain ⟨v, x, u, rfl, j1, j2, j3⟩ := argsQ3 ha
    refine (lnear_calls w v x u A B C t s R (qs_root j1) (qs_rat j2) (qs_rat j3) l lt k).mono ?_
    rintro e w' ⟨rfl, ex⟩
    exact ⟨_, rfl, fun β => z11q.2 rfl, ex⟩
theorem nw_tab {E : Env} {p : PtQ} {t s1 s2 : Rat} (hQ : QEnv E) (rt' : RepQ E (qI 10) t) (lt : LimQ 3 t) (rX : Reps E (tsX (decide (p.bx = 0)) 0) [p.ax, p.bx, rC p.bx p.c]) (rY : Reps E (tsY (decide (p.by' = 0)) 0) [p.ay, p.by', rC p.by' p.c]) (r1 : RepQ E (qI 12) s1) (r2 : RepQ E (qI 14) s2) (RX : Rd p.bx (rC p.bx p.c)) (RY : Rd p.by' (rC p.by' p.c)) (lX : LimR 3 p.ax p.bx (rC p.bx p.c)) (lY : LimR 3 p.ay p.by' (rC p.by' p.c))
    (k1 : 0 < t → NearP p.ax p.bx (rC p.bx p.c) t s1) (k2 : 0 < t → NearP p.ay p.by' (rC p.by' p.c) t s2) : TabOK Tryz.prog E (tabNw (decide (t ≤ 0)) (decide (p.bx = 0)) (decide (p.by' = 0))) := by
  have nb1 : ConOK Tryz.prog E 136 kNoQ := z18q ⟨_, Tryz.func136, by decide +kernel, by kernel_rfl⟩
  have nb2 : ConOK Tryz.prog E 64 kNoQ := z18q ⟨_, Tryz.func64, by decide +kernel, by kernel_rfl⟩
  refine .cons kAw7_ok <| .cons (z17q (small3_known rt' lt) (z18q ⟨_, Tryz.func62, by decide +kernel, by kernel_rfl⟩)) <| .cons ?_ <| .cons ?_ (tabT_ok hQ)
  · by_cases hb : t ≤ 0
    · rw [decide_eq_true hb, if_pos rfl]; exact nb1
    · rw [decide_eq_false hb, if_neg (by decide)]
      have ht : 0 < t := by grind
      exact z17q (near_known rt' rX r1 (k1 ht)) (z17q (near_known rt' rY r2 (k2 ht)) nb1)
  · by_cases hb : t ≤ 0
    · rw [decide_eq_true hb, if_pos rfl]; exact nb2
    · rw [decide_eq_false hb, if_neg (by decide)]
      have ht : 0 < t := by grind
      exact z17q (lnear_known rt' rX r1 RX lX lt (k1 ht).1) (z17q (lnear_known rt' rY r2 RY lY lt (k2 ht).1) nb2)
theorem sgle_den {E : Env} {t : Rat} {p : IT2} (h : RepQ E p t) : (BT.le (sgt p) (.lit 0)).den E = decide (t ≤ 0) := by
  show decide ((sgt p).den E ≤ 0) = _
  rw [sgt_den h, Bool.eq_iff_iff, decide_eq_true_iff, decide_eq_true_iff]
  rcases sgQ_cases t with ⟨j, e⟩ | ⟨j, e⟩ | ⟨j, e⟩ <;> rw [e] <;> constructor <;> intro i <;> first | omega | grind
theorem pointNear_calls (w : World) (v u : Value) (m : List RI) (h : RawN w v 5 m) (p1 p2 : RI) (hu : RawQ w u p1.1 p1.2 p2.1 p2.2) : Calls Tryz.prog 13 #[v, u] w (IsT w) := by
  by_cases hs : (pSm m && smN 3 p1 p2) = true
  · rw [Bool.and_eq_true] at hs
    obtain ⟨p, hp, hv, lp⟩ := h.pt hs.1
    obtain ⟨hut, lt⟩ := smN_rat hu hs.2
    obtain ⟨t, ht⟩ : ∃ t, t = rq p1 p2 := ⟨_, rfl⟩
    rw [← ht] at hut lt
    obtain ⟨l1, l2, l3, l4, l5⟩ := lp.parts
    have RX := RdP.fst hp
    have RY := RdP.snd hp
    have lX : LimR 3 p.ax p.bx (rC p.bx p.c) := ⟨l1, l2, LimQ.rC l5 (by omega)⟩
    have lY : LimR 3 p.ay p.by' (rC p.by' p.c) := ⟨l3, l4, LimQ.rC l5 (by omega)⟩
    have main : ∀ s1 s2, (0 < t → NearP p.ax p.bx (rC p.bx p.c) t s1) →
        (0 < t → NearP p.ay p.by' (rC p.by' p.c) t s2) →
        Calls Tryz.prog 13 #[v, u] w (IsT w) := by
      intro s1 s2 k1 k2
      obtain ⟨E, hE⟩ : ∃ E, E = qE (p.l ++ [t, s1, s2]) := ⟨_, rfl⟩
      have hQ : QEnv E := by rw [hE]; exact qE_ok _
      have rp : RepP E 0 p := by rw [hE]; exact qE_point p _
      have rt' : RepQ E (qI 10) t := by rw [hE]; exact ⟨rfl, rfl⟩
      have r1 : RepQ E (qI 12) s1 := by rw [hE]; exact ⟨rfl, rfl⟩
      have r2 : RepQ E (qI 14) s2 := by rw [hE]; exact ⟨rfl, rfl⟩
      have rX : Reps E (tsX (decide (p.bx = 0)) 0) [p.ax, p.bx, rC p.bx p.c] := reps_co rp.r1 rp.r2 rp.r5
      have rY : Reps E (tsY (decide (p.by' = 0)) 0) [p.ay, p.by', rC p.by' p.c] := reps_co rp.r3 rp.r4 rp.r5
      have hT := nw_tab hQ rt' lt rX rY r1 r2 RX RY lX lY k1 k2
      have hrow : RowSm E 41 (oTn 1 (tsP 0)) := oTn_ok (.inl rfl) (qs := p.l) rp.reps rfl (by
        rw [Bool.and_eq_true]
        exact ⟨pSm_pt hv lp hp, rfl⟩)
      have hG : (gNw (decide (t ≤ 0)) (decide (p.bx = 0)) (decide (p.by' = 0))).holds E := asm_and (zt_den rp.r2) <| asm_and (zt_den rp.r4) <| asm_and (sgle_den rt') asm_nil
      have hW := List.all_eq_true.1 (List.all_eq_true.1 (List.all_eq_true.1 nw_walk (decide (t ≤ 0)) (z15q _)) (decide (p.bx = 0)) (z15q _)) (decide (p.by' = 0)) (z15q _)
      have hC0 : CfgOK Tryz.prog E (cPt (cfgOf (tabNw (decide (t ≤ 0)) (decide (p.bx = 0)) (decide (p.by' = 0))))) := cPt_ok (cfg_ok hT) (fun _ => trivial)
      have hC : CfgOK Tryz.prog E (cNw (decide (t ≤ 0)) (decide (p.bx = 0)) (decide (p.by' = 0))) := cfgS_ok (cfgI_ok mixed hC0 hC0 (fun _ => trivial) (.cons Tryz.func63 (by decide +kernel) (by kernel_rfl) .nil)) hrow small7_body
      exact lawQ_calls hC (fun _ => trivial) hG Tryz.func13 (by decide +kernel) hW (by decide +kernel) rfl w [v, u] rfl (two_argsN (pt_chunks rp hv lp) (qs1_chunks rt' hut lt))
    by_cases hb : 0 < t
    · obtain ⟨s1, k1⟩ := near_ex RX lX lt hb
      obtain ⟨s2, k2⟩ := near_ex RY lY lt hb
      exact main s1 s2 (fun _ => k1) (fun _ => k2)
    · exact main 0 0 (fun k => absurd k hb) (fun k => absurd k hb)
  · obtain ⟨E, hE⟩ : ∃ E : Env, E = ⟨fun _ => 0, fun _ => false, fun k => if k < 10 then rawW m k else if k = 10 then p1 else p2, fun _ => []⟩ := ⟨_, rfl⟩
    have hr1 : ∀ k, k < 10 → E.r (0 + k) = rawW m k := fun k hk => by
      rw [hE, Nat.zero_add]
      show (if k < 10 then _ else _) = _
      rw [if_pos hk]
    have e10 : E.r 10 = p1 := by rw [hE]; rfl
    have e11 : E.r 11 = p2 := by rw [hE]; rfl
    have hrow : RowSm E 41 (oRn 1 (pSm m)) := oRn_ok (.inl rfl) (l := (List.range 10).map (rawW m) ++ []) (fun k hk => by
      rw [take_row k hk, ← hr1 k hk, Nat.zero_add]) (by
      rw [take_row', pSm_norm]
      simp)
    have hW := List.all_eq_true.1 (List.all_eq_true.1 nw_bad (pSm m) (z15q _)) (smN 3 p1 p2) (z15q _)
    rw [Bool.or_eq_true] at hW
    have hT : TabOK Tryz.prog E (tabNb (smN 3 p1 p2)) := .cons kAw7_ok <| .cons (z17q (small2_known (i := 10) (by rw [e10, e11])) (z18q ⟨_, Tryz.func62, by decide +kernel, by kernel_rfl⟩)) .nil
    exact lawQ_calls (cfgS_ok (cfg_ok hT) hrow small7_body) (fun _ => trivial) z8q Tryz.func13 (by decide +kernel) (hW.resolve_left hs) (by decide +kernel) rfl w [v, u] rfl (two_argsN (raw_at h hr1) fun β => argRaw_holds hu e10 e11)
end Go.Proofs.YtifeacfljfmnpaaGreat
end
