/-
  Texts of this seat, joined.
-/
import Derived.Test.YtifeacfljfmnpaaGreatK4
import Derived.LaidLaws
import Derived.Handed
import Derived.Laws.FloatArith
import Derived.Laws.Externs
import Ieee.Arith
section
set_option maxRecDepth 100000
namespace Go.Proofs.YtifeacfljfmnpaaGreat
open Go.RowKit
def Rd (b c : Rat) : Prop := (b = 0 ∧ c = 0) ∨ (b ≠ 0 ∧ 0 < c ∧ ∀ q : Rat, q * q ≠ c)
theorem sqz_sqB {z : Int} (h : 0 ≤ z) : sqz z = sqB z := by
  unfold sqz sqB isqE
  rw [if_neg (by omega)]
  show _ = (true && _)
  rw [Bool.true_and, Bool.eq_iff_iff, beq_iff_eq, beq_iff_eq]
  rcases z2q (isq z * isq z) z with ⟨h, e⟩ | ⟨h, e⟩ | ⟨h, e⟩ <;> rw [e] <;> omega
theorem sq_of_root {c : Rat} (hc : 0 < c) (h : sqz c.num = true) (k : sqz (c.den : Int) = true) : ∃ q : Rat, q * q = c := by
  have hn := (num_pos_iff c).2 hc
  rw [sqz_sqB (by omega)] at h
  rw [sqz_sqB (by omega)] at k
  obtain ⟨s, s1, s2⟩ := root_rat h k
  refine ⟨s, ?_⟩
  obtain ⟨m1, m2⟩ := mul_self_parts s
  refine Rat.ext ?_ ?_
  · rw [m1, s1, sqB_spec h]
  · have : ((s.den * s.den : Nat) : Int) = (c.den : Int) := by rw [Int.natCast_mul, s2, sqB_spec k]
    rw [m2]; omega
theorem root_of_sq {c q : Rat} (h : q * q = c) : sqz c.num = true ∧ sqz (c.den : Int) = true := by
  obtain ⟨m1, m2⟩ := mul_self_parts q
  rw [h] at m1 m2
  obtain ⟨i1, j1⟩ := isq_self q.num
  obtain ⟨i2, j2⟩ := isq_self (q.den : Int)
  refine ⟨?_, ?_⟩
  · unfold sqz
    rw [m1, i1, beq_iff_eq]
    exact Int.natAbs_mul_self
  · unfold sqz
    rw [m2, Int.natCast_mul, i2, beq_iff_eq]
    exact Int.natAbs_mul_self
theorem Rdb_iff {b c : Rat} : Rdb b c = true ↔ Rd b c := by
  have n1 : b.num = 0 ↔ b = 0 := Rat.num_eq_zero
  have n2 : c.num = 0 ↔ c = 0 := Rat.num_eq_zero
  have n3 := num_pos_iff c
  unfold Rdb Rd
  simp only [Bool.or_eq_true, Bool.and_eq_true, beq_iff_eq, bne_iff_ne, decide_eq_true_iff, Bool.not_eq_true', Bool.and_eq_false_iff]
  constructor
  · rintro (⟨h1, h2⟩ | ⟨h1, h2, h3⟩)
    · exact .inl ⟨n1.1 h1, n2.1 h2⟩
    · refine .inr ⟨fun e => h1 (n1.2 e), n3.1 h2, fun q hq => ?_⟩
      obtain ⟨k1, k2⟩ := root_of_sq hq
      rcases h3 with h3 | h3
      · rw [k1] at h3; cases h3
      · rw [k2] at h3; cases h3
  · rintro (⟨h1, h2⟩ | ⟨h1, h2, h3⟩)
    · exact .inl ⟨n1.2 h1, n2.2 h2⟩
    · refine .inr ⟨fun e => h1 (n1.1 e), n3.2 h2, ?_⟩
      cases k1 : sqz c.num with
      | false => exact .inl rfl
      | true =>
        cases k2 : sqz (c.den : Int) with
        | false => exact .inr rfl
        | true =>
          obtain ⟨q, hq⟩ := sq_of_root h2 k1 k2
          exact absurd hq (h3 q)
def rC (b c : Rat) : Rat := if b.num = 0 then 0 else c
def rN (b c : Rat) : Rat := if b.num = 0 then c else 0
def sq2 (b c : Rat) : Rat := if b.num < 0 then - (b * b * c) else b * b * c
theorem rC_zero (c : Rat) : rC 0 c = 0 := rfl
theorem rC_ne {b : Rat} (h : b ≠ 0) (c : Rat) : rC b c = c := if_neg (fun e => h (Rat.num_eq_zero.1 e))
theorem rN_zero (c : Rat) : rN 0 c = c := rfl
theorem rN_ne {b : Rat} (h : b ≠ 0) (c : Rat) : rN b c = 0 := if_neg (fun e => h (Rat.num_eq_zero.1 e))
theorem sq_pos {b : Rat} (h : b ≠ 0) : 0 < b * b := by
  rcases (by grind : b < 0 ∨ 0 < b) with k | k
  · have := Rat.mul_pos (a := -b) (b := -b) (by grind) (by grind)
    grind
  · exact Rat.mul_pos k k
theorem sq_nonneg (b : Rat) : 0 ≤ b * b := by
  by_cases h : b = 0
  · subst h; grind
  · have := sq_pos h; grind
theorem sgQ_add {u v : Rat} (h : v * v < u * u) : sgQ (u + v) = sgQ u := by
  have e : u * u - v * v = (u - v) * (u + v) := by grind
  rcases sgQ_cases u with ⟨k, e1⟩ | ⟨k, e1⟩ | ⟨k, e1⟩
  · rw [e1]
    refine sgQ_neg' ?_
    refine Decidable.byContradiction fun hn => ?_
    have h1 : u - v < 0 := by grind
    by_cases h0 : u + v = 0
    · rw [h0] at e; grind
    · have := Rat.mul_pos (a := -(u - v)) (b := u + v) (by grind) (by grind)
      grind
  · rw [k] at h; have := sq_nonneg v; grind
  · rw [e1]
    refine sgQ_pos ?_
    refine Decidable.byContradiction fun hn => ?_
    have h1 : 0 < u - v := by grind
    by_cases h0 : u + v = 0
    · rw [h0] at e; grind
    · have := Rat.mul_pos (a := u - v) (b := -(u + v)) (by grind) (by grind)
      grind
def nrm (a b c : Rat) : Rat := a * a - b * b * c
def sgN (a b c : Rat) : Int := if 0 < nrm a b c then sgQ a else if nrm a b c < 0 then sgQ b else 0
theorem sgN_pos {a b c : Rat} (h : 0 < nrm a b c) : sgN a b c = sgQ a := if_pos h
theorem sgN_neg {a b c : Rat} (h : nrm a b c < 0) : sgN a b c = sgQ b := by unfold sgN; rw [if_neg (by grind), if_pos h]
theorem sgN_zero {a b c : Rat} (h : nrm a b c = 0) : sgN a b c = 0 := by unfold sgN; rw [if_neg (by grind), if_neg (by grind)]
theorem nrm_mul (a b a' b' c : Rat) : nrm (a * a' + b * b' * c) (a * b' + b * a') c = nrm a b c * nrm a' b' c := by unfold nrm; grind
theorem sgN_mul {a b a' b' c : Rat} (hc : 0 ≤ c) : sgN (a * a' + b * b' * c) (a * b' + b * a') c = sgN a b c * sgN a' b' c := by
  have hm := nrm_mul a b a' b' c
  have lt_mul : ∀ {x y x' y' : Rat}, 0 ≤ x → x < y → 0 ≤ x' → x' < y' → x * x' < y * y' := by
    intro x y x' y' h1 h2 h3 h4
    have e1 := Rat.mul_pos (a := y) (b := y' - x') (by grind) (by grind)
    have e2 : 0 ≤ (y - x) * x' := Rat.mul_nonneg (by grind) h3
    grind
  have bb : ∀ x : Rat, 0 ≤ x * x * c := fun x => Rat.mul_nonneg (sq_nonneg x) hc
  rcases (by grind : nrm a b c < 0 ∨ nrm a b c = 0 ∨ 0 < nrm a b c) with h | h | h <;> rcases (by grind : nrm a' b' c < 0 ∨ nrm a' b' c = 0 ∨ 0 < nrm a' b' c) with k | k | k
  · have hp : 0 < nrm (a * a' + b * b' * c) (a * b' + b * a') c := by
      have := Rat.mul_pos (a := -(nrm a b c)) (b := -(nrm a' b' c)) (by grind) (by grind)
      grind
    rw [sgN_pos hp, sgN_neg h, sgN_neg k]
    unfold nrm at h k
    have := lt_mul (sq_nonneg a) (show a * a < b * b * c by grind) (sq_nonneg a') (show a' * a' < b' * b' * c by grind)
    rw [show a * a' + b * b' * c = b * b' * c + a * a' by grind, sgQ_add (by grind), sgQ_mul, sgQ_mul]
    have hcp : 0 < c := by
      refine Decidable.byContradiction fun hn => ?_
      have : c = 0 := by grind
      rw [this] at h
      have := sq_nonneg a
      grind
    rw [sgQ_pos hcp, Int.mul_one]
  · rw [k, Rat.mul_zero] at hm
    rw [sgN_zero hm, sgN_zero k, Int.mul_zero]
  · have hp : nrm (a * a' + b * b' * c) (a * b' + b * a') c < 0 := by
      have := Rat.mul_pos (a := -(nrm a b c)) (b := nrm a' b' c) (by grind) (by grind)
      grind
    rw [sgN_neg hp, sgN_neg h, sgN_pos k]
    unfold nrm at h k
    have := lt_mul (sq_nonneg a) (show a * a < b * b * c by grind) (bb b') (show b' * b' * c < a' * a' by grind)
    have hcp : 0 < c := by
      refine Decidable.byContradiction fun hn => ?_
      have : c = 0 := by grind
      rw [this] at h
      have := sq_nonneg a
      grind
    have h2 : a * b' * (a * b') < b * a' * (b * a') := by
      refine Decidable.byContradiction fun hn => ?_
      have : 0 ≤ (a * b' * (a * b') - b * a' * (b * a')) * c := Rat.mul_nonneg (by grind) hc
      grind
    rw [show a * b' + b * a' = b * a' + a * b' by grind, sgQ_add h2, sgQ_mul]
  · rw [h, Rat.zero_mul] at hm
    rw [sgN_zero hm, sgN_zero h, Int.zero_mul]
  · rw [h, Rat.zero_mul] at hm
    rw [sgN_zero hm, sgN_zero h, Int.zero_mul]
  · rw [h, Rat.zero_mul] at hm
    rw [sgN_zero hm, sgN_zero h, Int.zero_mul]
  · have hp : nrm (a * a' + b * b' * c) (a * b' + b * a') c < 0 := by
      have := Rat.mul_pos (a := nrm a b c) (b := -(nrm a' b' c)) (by grind) (by grind)
      grind
    rw [sgN_neg hp, sgN_pos h, sgN_neg k]
    unfold nrm at h k
    have := lt_mul (bb b) (show b * b * c < a * a by grind) (sq_nonneg a') (show a' * a' < b' * b' * c by grind)
    have h2 : b * a' * (b * a') < a * b' * (a * b') := by
      refine Decidable.byContradiction fun hn => ?_
      have : 0 ≤ (b * a' * (b * a') - a * b' * (a * b')) * c := Rat.mul_nonneg (by grind) hc
      grind
    rw [sgQ_add h2, sgQ_mul]
  · rw [k, Rat.mul_zero] at hm
    rw [sgN_zero hm, sgN_zero k, Int.mul_zero]
  · have hp : 0 < nrm (a * a' + b * b' * c) (a * b' + b * a') c := by
      have := Rat.mul_pos (a := nrm a b c) (b := nrm a' b' c) (by grind) (by grind)
      grind
    rw [sgN_pos hp, sgN_pos h, sgN_pos k]
    unfold nrm at h k
    have := lt_mul (bb b) (show b * b * c < a * a by grind) (bb b') (show b' * b' * c < a' * a' by grind)
    rw [sgQ_add (by grind), sgQ_mul]
theorem nrm_ne {a b c : Rat} (R : Rd b c) (h : nrm a b c = 0) : a = 0 ∧ b = 0 := by
  unfold nrm at h
  rcases R with ⟨rfl, rfl⟩ | ⟨hb, hc, hs⟩
  · refine ⟨?_, rfl⟩
    refine Decidable.byContradiction fun ha => ?_
    have := sq_pos ha
    grind
  · exfalso
    refine hs (a / b) ?_
    have e : a / b * b = a := Rat.div_mul_cancel hb
    have e2 : (a / b * (a / b) - c) * (b * b) = 0 := by grind
    have hbb := sq_pos hb
    refine Decidable.byContradiction fun hn => ?_
    have hne : a / b * (a / b) - c ≠ 0 := by grind
    rcases Rat.mul_eq_zero.1 e2 with h1 | h1
    · exact hne h1
    · grind
theorem sgN_mono {x y b c : Rat} (R : Rd b c) (h : x ≤ y) (k : 0 ≤ sgN x b c) : 0 ≤ sgN y b c := by
  have sq_le : ∀ {u v : Rat}, 0 ≤ u → u ≤ v → u * u ≤ v * v := by
    intro u v h1 h2
    have e1 : 0 ≤ (v - u) * v := Rat.mul_nonneg (by grind) (by grind)
    have e2 : 0 ≤ (v - u) * u := Rat.mul_nonneg (by grind) h1
    grind
  have s1 : ∀ q : Rat, 0 ≤ sgQ q ↔ 0 ≤ q := by
    intro q
    rcases sgQ_cases q with ⟨k, e⟩ | ⟨k, e⟩ | ⟨k, e⟩ <;> rw [e] <;> constructor <;> intro h <;> first | omega | grind
  rcases (by grind : nrm y b c < 0 ∨ nrm y b c = 0 ∨ 0 < nrm y b c) with n | n | n
  · rw [sgN_neg n, s1]
    refine Decidable.byContradiction fun hb => ?_
    rcases R with ⟨rfl, rfl⟩ | ⟨hb0, hc, hs⟩
    · grind
    have hx : 0 < nrm x b c := by
      refine Decidable.byContradiction fun hn => ?_
      rcases (by grind : nrm x b c < 0 ∨ nrm x b c = 0) with m | m
      · rw [sgN_neg m, s1] at k; grind
      · exact hb0 (nrm_ne (.inr ⟨hb0, hc, hs⟩) m).2
    rw [sgN_pos hx, s1] at k
    have := sq_le k h
    unfold nrm at n hx
    grind
  · rw [sgN_zero n]; exact Int.le_refl _
  · rw [sgN_pos n, s1]
    refine Decidable.byContradiction fun hy => ?_
    have hy' := sq_le (u := -y) (v := -x) (by grind) (by grind)
    have hx : 0 < nrm x b c := by unfold nrm at n ⊢; grind
    rw [sgN_pos hx, s1] at k
    grind
theorem sgS_sgN {a b c : Rat} (R : Rd b c) : sgS a (sq2 b c) = sgN a b c := by
  have hcmp : ∀ (x s : Rat) (m : Int), 0 ≤ s → m = s.num → cmpZ (x.num * x.num * (s.den : Int)) (m * ((x.den : Int) * (x.den : Int))) = sgQ (x * x - s) := by
    intro x s m h0 hm
    obtain ⟨m1, m2⟩ := mul_self_parts x
    rw [← cmpQ_sub, m1, m2, hm, Int.natCast_mul]
  unfold sgS
  rcases R with ⟨rfl, rfl⟩ | ⟨hb, hc, hs⟩
  · have : sq2 0 0 = 0 := by unfold sq2; rw [if_neg (by decide)]; grind
    rw [this, if_pos (show (0 : Rat).num = 0 from rfl)]
    show sgQ a = _
    by_cases ha : a = 0
    · subst ha; rw [sgN_zero (by unfold nrm; grind)]; rfl
    · rw [sgN_pos (by have := sq_pos ha; unfold nrm; grind)]
  · have hbb := sq_pos hb
    have hbc := Rat.mul_pos hbb hc
    have hnz : (sq2 b c).num ≠ 0 := by
      rw [ne_eq, Rat.num_eq_zero]
      unfold sq2
      split <;> grind
    have hsg : cmpZ (sq2 b c).num 0 = sgQ b := by
      show sgQ (sq2 b c) = _
      unfold sq2
      have hn := num_pos_iff b
      have hn2 : b.num = 0 ↔ b = 0 := Rat.num_eq_zero
      split
      · rw [sgQ_neg' (by grind), sgQ_neg' (by grind)]
      · rw [sgQ_pos hbc, sgQ_pos (by grind)]
    have habs : ∃ s : Rat, s = b * b * c ∧ ((sq2 b c).num.natAbs : Int) = s.num ∧ ((sq2 b c).den : Int) = (s.den : Int) := by
      refine ⟨_, rfl, ?_, ?_⟩
      · have := (num_pos_iff (b * b * c)).2 hbc
        unfold sq2
        split
        · rw [Rat.neg_num]; omega
        · omega
      · unfold sq2
        split
        · rw [Rat.neg_den]
        · rfl
    obtain ⟨s, hs1, hs2, hs3⟩ := habs
    have hab := hcmp a s _ (by rw [hs1]; grind) hs2
    rw [if_neg hnz, hsg, hs3, hab]
    show (if sgQ a = -sgQ b then sgQ a * _ else sgQ b) = _
    have hN : nrm a b c = a * a - s := by rw [hs1]; rfl
    have hne : nrm a b c ≠ 0 := fun e => hb (nrm_ne (.inr ⟨hb, hc, hs⟩) e).2
    rw [← hN]
    have c1 := sgQ_cases a
    have c2 := sgQ_cases b
    rcases (by grind : nrm a b c < 0 ∨ 0 < nrm a b c) with n | n
    · rw [sgN_neg n, sgQ_neg' n]
      split
      · omega
      · rfl
    · rw [sgN_pos n, sgQ_pos n]
      split
      · omega
      · rename_i hd
        by_cases ha : a = 0
        · subst ha; unfold nrm at n; grind
        · have ha' : sgQ a ≠ 0 := by rcases c1 with ⟨k, e⟩ | ⟨k, e⟩ | ⟨k, e⟩ <;> first | (rw [e]; decide) | grind
          have hb' : sgQ b ≠ 0 := by rcases c2 with ⟨k, e⟩ | ⟨k, e⟩ | ⟨k, e⟩ <;> first | (rw [e]; decide) | grind
          omega
end Go.Proofs.YtifeacfljfmnpaaGreat
end

section
set_option maxRecDepth 100000
namespace Go.Proofs.YtifeacfljfmnpaaGreat
open Go.RowKit
def IsFl (a b c : Rat) (n : Int) : Prop := 0 ≤ sgN (a - (n : Rat)) b c ∧ sgN (a - ((n + 1 : Int) : Rat)) b c < 0
theorem IsFl.unique {a b c : Rat} (R : Rd b c) {n m : Int} (h : IsFl a b c n) (k : IsFl a b c m) : n = m := by
  have key : ∀ {n m : Int}, IsFl a b c n → IsFl a b c m → n ≤ m := by
    intro n m h k
    refine Decidable.byContradiction fun hn => ?_
    have e : ((m + 1 : Int) : Rat) ≤ (n : Rat) := Rat.intCast_le_intCast.2 (by omega)
    have := sgN_mono R (x := a - (n : Rat)) (y := a - ((m + 1 : Int) : Rat)) (by grind) h.1
    have := k.2
    omega
  exact Int.le_antisymm (key h k) (key k h)
theorem IsFl.zero {a : Rat} : IsFl a 0 0 a.floor := by
  have s1 : ∀ q : Rat, sgN q 0 0 = sgQ q := by
    intro q
    by_cases hq : q = 0
    · subst hq; rw [sgN_zero (by unfold nrm; grind)]; rfl
    · rw [sgN_pos (by have := sq_pos hq; unfold nrm; grind)]
  have h1 := Rat.floor_le a
  have h2 := Rat.lt_floor_add_one a
  unfold IsFl
  rw [s1, s1]
  constructor
  · rcases sgQ_cases (a - (a.floor : Rat)) with ⟨k, e⟩ | ⟨k, e⟩ | ⟨k, e⟩ <;> rw [e] <;> first | omega | grind
  · rw [sgQ_neg' (by grind)]; omega
theorem isq_bounds {y : Int} (h : 0 ≤ y) : 0 ≤ isq y ∧ isq y * isq y ≤ y ∧ y < (isq y + 1) * (isq y + 1) := by
  unfold isq
  rw [if_neg (by omega)]
  obtain ⟨h1, h2⟩ := isqN_spec y.natAbs
  have e : ((y.natAbs : Nat) : Int) = y := by omega
  refine ⟨by omega, ?_, ?_⟩
  · have : ((isqN y.natAbs * isqN y.natAbs : Nat) : Int) ≤ ((y.natAbs : Nat) : Int) := by exact_mod_cast h1
    rw [Int.natCast_mul, e] at this
    exact this
  · have : ((y.natAbs : Nat) : Int) < (((isqN y.natAbs + 1) * (isqN y.natAbs + 1) : Nat) : Int) := by exact_mod_cast h2
    rw [Int.natCast_mul, e] at this
    exact this
theorem castQ_mul (x y : Int) : ((x * y : Int) : Rat) = (x : Rat) * (y : Rat) := Rat.intCast_mul x y
theorem fl_spec {a b c : Rat} {x Y D : Int} (hb : b ≠ 0) (hc : 0 < c) (hs : ∀ q : Rat, q * q ≠ c) (hD : 0 < D) (hx : a * (D : Rat) = (x : Rat)) (hY : b * b * c * ((D : Rat) * (D : Rat)) = (Y : Rat)) :
    IsFl a b c (dq (x + (if b < 0 then - (isq Y + 1) else isq Y)) D) := by
  have R : Rd b c := .inr ⟨hb, hc, hs⟩
  have hDq : (0 : Rat) < (D : Rat) := Rat.intCast_pos.2 hD
  have hDD := Rat.mul_pos hDq hDq
  have hbbc := Rat.mul_pos (sq_pos hb) hc
  have hYp : 0 < Y := by
    have := Rat.mul_pos hbbc hDD
    rw [hY] at this
    exact Rat.intCast_pos.1 this
  obtain ⟨w0, w1, w2⟩ := isq_bounds (y := Y) (by omega)
  generalize isq Y = w at *
  -- the sign of the norm, over integers
  have nn : ∀ m : Int, nrm (a - (m : Rat)) b c * ((D : Rat) * (D : Rat)) = (((x - m * D) * (x - m * D) - Y : Int) : Rat) := by
    intro m
    rw [Rat.intCast_sub, castQ_mul, Rat.intCast_sub, castQ_mul, ← hx, ← hY]
    unfold nrm
    grind
  have npos : ∀ m : Int, 0 < (x - m * D) * (x - m * D) - Y → 0 < nrm (a - (m : Rat)) b c := by
    intro m h
    refine Decidable.byContradiction fun hn => ?_
    have h2 : 0 ≤ (-(nrm (a - (m : Rat)) b c)) * ((D : Rat) * (D : Rat)) := Rat.mul_nonneg (by grind) (by grind)
    have h3 := Rat.intCast_pos.2 h
    rw [← nn m] at h3
    grind
  have nneg : ∀ m : Int, (x - m * D) * (x - m * D) - Y < 0 → nrm (a - (m : Rat)) b c < 0 := by
    intro m h
    refine Decidable.byContradiction fun hn => ?_
    have h2 : 0 ≤ (nrm (a - (m : Rat)) b c) * ((D : Rat) * (D : Rat)) := Rat.mul_nonneg (by grind) (by grind)
    have h3 : (((x - m * D) * (x - m * D) - Y : Int) : Rat) < ((0 : Int) : Rat) := Rat.intCast_lt_intCast.2 h
    rw [← nn m] at h3
    have : ((0 : Int) : Rat) = 0 := rfl
    grind
  have nzero : ∀ m : Int, (x - m * D) * (x - m * D) - Y ≠ 0 := by
    intro m h
    have h3 := nn m
    rw [h] at h3
    have e0 : ((0 : Int) : Rat) = 0 := rfl
    rw [e0] at h3
    rcases Rat.mul_eq_zero.1 h3 with h4 | h4
    · exact hb (nrm_ne R h4).2
    · grind
  have sga : ∀ m : Int, (0 < x - m * D → sgQ (a - (m : Rat)) = 1) ∧ (x - m * D < 0 → sgQ (a - (m : Rat)) = -1) := by
    intro m
    have e : (a - (m : Rat)) * (D : Rat) = ((x - m * D : Int) : Rat) := by rw [Rat.intCast_sub, castQ_mul, ← hx]; grind
    constructor
    · intro h
      refine sgQ_pos ?_
      have h3 := Rat.intCast_pos.2 h
      rw [← e] at h3
      refine Decidable.byContradiction fun hn => ?_
      have : 0 ≤ (-(a - (m : Rat))) * (D : Rat) := Rat.mul_nonneg (by grind) (by grind)
      grind
    · intro h
      refine sgQ_neg' ?_
      have h3 : ((x - m * D : Int) : Rat) < ((0 : Int) : Rat) := Rat.intCast_lt_intCast.2 h
      rw [← e] at h3
      have e0 : ((0 : Int) : Rat) = 0 := rfl
      refine Decidable.byContradiction fun hn => ?_
      have : 0 ≤ (a - (m : Rat)) * (D : Rat) := Rat.mul_nonneg (by grind) (by grind)
      grind
  -- the quotient
  have hq : ∀ W : Int, dq (x + W) D * D ≤ x + W ∧ x + W < (dq (x + W) D + 1) * D := by
    intro W
    rw [dq_pos hD]
    exact ⟨Int.ediv_mul_le _ (by omega), Int.lt_ediv_add_one_mul_self _ hD⟩
  have sq_le : ∀ {u v : Int}, 0 ≤ u → u ≤ v → u * u ≤ v * v := by
    intro u v h1 h2
    exact Int.mul_le_mul h2 h2 h1 (by omega)
  have hsq : ∀ u : Int, u * u = (-u) * (-u) := fun u => (Int.neg_mul_neg u u).symm
  unfold IsFl
  by_cases hbn : b < 0
  · rw [if_pos hbn]
    obtain ⟨q1, q2⟩ := hq (-(w + 1))
    generalize dq (x + -(w + 1)) D = n at *
    have sb : sgQ b = -1 := sgQ_neg' hbn
    constructor
    · have t : w + 1 ≤ x - n * D := by omega
      have := sq_le (u := w + 1) (v := x - n * D) (by omega) t
      rw [sgN_pos (npos n (by omega)), (sga n).1 (by omega)]
      omega
    · have t : x - (n + 1) * D ≤ w := by omega
      have hz := nzero (n + 1)
      rcases (by omega : (x - (n + 1) * D) * (x - (n + 1) * D) - Y < 0 ∨ 0 < (x - (n + 1) * D) * (x - (n + 1) * D) - Y) with h | h
      · rw [sgN_neg (nneg _ h), sb]; omega
      · have hneg : x - (n + 1) * D < 0 := by
          refine Decidable.byContradiction fun hn => ?_
          have := sq_le (u := x - (n + 1) * D) (v := w) (by omega) t
          omega
        rw [sgN_pos (npos _ h), (sga _).2 hneg]; omega
  · rw [if_neg hbn]
    obtain ⟨q1, q2⟩ := hq w
    generalize dq (x + w) D = n at *
    have sb : sgQ b = 1 := sgQ_pos (by grind)
    constructor
    · have t : -w ≤ x - n * D := by omega
      have hz := nzero n
      rcases (by omega : (x - n * D) * (x - n * D) - Y < 0 ∨ 0 < (x - n * D) * (x - n * D) - Y) with h | h
      · rw [sgN_neg (nneg _ h), sb]; omega
      · have hpos : 0 < x - n * D := by
          refine Decidable.byContradiction fun hn => ?_
          have := sq_le (u := -(x - n * D)) (v := w) (by omega) (by omega)
          rw [← hsq] at this
          omega
        rw [sgN_pos (npos _ h), (sga _).1 hpos]; omega
    · have t : x - (n + 1) * D ≤ -(w + 1) := by omega
      have := sq_le (u := w + 1) (v := -(x - (n + 1) * D)) (by omega) (by omega)
      rw [← hsq] at this
      rw [sgN_pos (npos (n + 1) (by omega)), (sga _).2 (by omega)]
      omega
end Go.Proofs.YtifeacfljfmnpaaGreat
end

section
set_option maxRecDepth 100000
namespace Go.Proofs.YtifeacfljfmnpaaGreat
open Go.RowKit
def kInl (C : Cfg) (fn : Func) : Con := fun args G =>
  if args.all noPtr && (decide (args.length ≤ fn.ntmps) && decide (fn.results.toList.length ≤ 4)) then
    match funE C fn G args with
    | some (.leaf l) => some (toAV l)
    | _ => none
  else none
def kInlN (C : Cfg) (fn : Func) (args : List AV) (G : Asm) : Option BT :=
  match funE C fn G args with
  | some (.ite b _ _) => some b
  | _ => none
theorem toAV_nptr {l : List (Bool × List Chunk)} {x off : Nat} : toAV l ≠ .ptr x off := by
  unfold toAV
  split <;> (intro h; cases h)
theorem toAV_beta {E : Env} {β β' : Nat → Nat} {w : World} {l : List (Bool × List Chunk)} {v : Value} (h : (toAV l).holds E β w v) : (toAV l).holds E β' w v := by
  unfold toAV at *
  split at h <;> exact h
structure InlOK (P : Program) (l : List (Nat × Func)) : Prop where
  all : ∀ p ∈ l, P.funcs[p.1]? = some p.2 ∧ p.2.name ≠ "runtime.NumGoroutine" ∧ p.2.body.isNone = false
theorem InlOK.nil {P : Program} : InlOK P [] := ⟨fun _ h => by cases h⟩
theorem InlOK.cons {P : Program} {f : Nat} {fn : Func} {l : List (Nat × Func)} (h : P.funcs[f]? = some fn) (h1 : fn.name ≠ "runtime.NumGoroutine") (h2 : fn.body.isNone = false) (k : InlOK P l) : InlOK P ((f, fn) :: l) := ⟨fun d hd => by
  rcases List.mem_cons.1 hd with rfl | hd
  · exact ⟨h, h1, h2⟩
  · exact k.all d hd⟩
theorem kInl_ok {P : Program} (hm : P.follows .mixedOrders = true) {E : Env} {C : Cfg} (hC : CfgOK P E C) (hw : ∀ w, C.wok w) {f : Nat} {fn : Func} (hf : P.funcs[f]? = some fn) (h1 : fn.name ≠ "runtime.NumGoroutine") (h2 : fn.body.isNone = false) : ConOK P E f (kInl C fn) := by
  refine ⟨?_, ?_, fn, hf, h1, h2⟩
  · intro args G r h hG β w vs hv hlen
    unfold kInl at h
    split at h
    · rename_i hc
      simp only [Bool.and_eq_true, decide_eq_true_iff] at hc
      split at h
      · rename_i l hl
        injection h with h
        subst h
        refine (z5q hm hC hG hf hc.2.2 hl hc.2.1 hc.1 w vs hlen (fun i x hx => ⟨β, hv i x hx⟩) (fun w' _ => hw w')).mono ?_
        rintro e w' ⟨β', v, rfl, hh, ex⟩
        exact ⟨v, rfl, toAV_beta hh, ex⟩
      · cases h
    · cases h
  · intro args G r h x off
    unfold kInl at h
    split at h
    · split at h
      · injection h with h; subst h; exact toAV_nptr
      · cases h
    · cases h
def cfgI (C C0 : Cfg) (l : List (Nat × Func)) : Cfg :=
  { C with
    calls := fun f args M G => match findR l f with
      | some fn => kInl C0 fn args G
      | none => C.calls f args M G
    need := fun f args M G => match findR l f with
      | some fn => kInlN C0 fn args G
      | none => C.need f args M G }
theorem cfgI_ok {P : Program} (hm : P.follows .mixedOrders = true) {E : Env} {C C0 : Cfg} {l : List (Nat × Func)} (h : CfgOK P E C) (h0 : CfgOK P E C0) (hw : ∀ w, C0.wok w) (hl : InlOK P l) : CfgOK P E (cfgI C C0 l) := by
  refine ⟨h.zero, h.ag, h.fld, h.flds, h.bool, h.row, h.arr, ?_, ?_, ?_, h.slc, h.strT, h.cnv, h.apd, h.eq2, h.fty⟩
  · intro f args M G r hr hG β w vs hwk hv hlen hmem
    simp only [cfgI] at hr
    split at hr
    · rename_i fn hfn
      obtain ⟨k1, k2, k3⟩ := hl.all _ (findR_spec hfn)
      exact (kInl_ok hm h0 hw k1 k2 k3).calls args G r hr hG β w vs hv hlen
    · exact h.calls f args M G r hr hG β w vs hwk hv hlen hmem
  · intro f args M G r hr x off
    simp only [cfgI] at hr
    split at hr
    · rename_i fn hfn
      obtain ⟨k1, k2, k3⟩ := hl.all _ (findR_spec hfn)
      exact (kInl_ok hm h0 hw k1 k2 k3).nptr args G r hr x off
    · exact h.nptr f args M G r hr x off
  · intro f args M G r hr
    simp only [cfgI] at hr
    split at hr
    · rename_i fn hfn
      obtain ⟨k1, k2, k3⟩ := hl.all _ (findR_spec hfn)
      exact ⟨fn, k1, k2, k3⟩
    · exact h.body f args M G r hr
theorem TabOK.app {P : Program} {E : Env} {l m : List (Nat × Con)} (h : TabOK P E l) (k : TabOK P E m) : TabOK P E (l ++ m) := ⟨fun p hp => by
  rcases List.mem_append.1 hp with hp | hp
  · exact h.all p hp
  · exact k.all p hp⟩
def cfgT (tab : List (Nat × Con)) (l : List (Nat × Func)) : Cfg := cfgI (cfgOf tab) (cfgOf tab) l
def cfgT2 (tab : List (Nat × Con)) (l l2 : List (Nat × Func)) : Cfg := cfgI (cfgT tab l) (cfgT tab l) l2
def cfgT3 (tab : List (Nat × Con)) (l l2 l3 : List (Nat × Func)) : Cfg := cfgI (cfgT2 tab l l2) (cfgT2 tab l l2) l3
theorem cfgT_ok {E : Env} {tab : List (Nat × Con)} {l : List (Nat × Func)} (hm : Tryz.prog.follows .mixedOrders = true) (h : TabOK Tryz.prog E tab) (hl : InlOK Tryz.prog l) : CfgOK Tryz.prog E (cfgT tab l) := cfgI_ok hm (cfg_ok h) (cfg_ok h) (fun _ => trivial) hl
theorem cfgT2_ok {E : Env} {tab : List (Nat × Con)} {l l2 : List (Nat × Func)} (hm : Tryz.prog.follows .mixedOrders = true) (h : TabOK Tryz.prog E tab) (hl : InlOK Tryz.prog l) (hl2 : InlOK Tryz.prog l2) : CfgOK Tryz.prog E (cfgT2 tab l l2) := cfgI_ok hm (cfgT_ok hm h hl) (cfgT_ok hm h hl) (fun _ => trivial) hl2
theorem cfgT3_ok {E : Env} {tab : List (Nat × Con)} {l l2 l3 : List (Nat × Func)} (hm : Tryz.prog.follows .mixedOrders = true) (h : TabOK Tryz.prog E tab) (hl : InlOK Tryz.prog l) (hl2 : InlOK Tryz.prog l2) (hl3 : InlOK Tryz.prog l3) : CfgOK Tryz.prog E (cfgT3 tab l l2 l3) := cfgI_ok hm (cfgT2_ok hm h hl hl2) (cfgT2_ok hm h hl hl2) (fun _ => trivial) hl3
end Go.Proofs.YtifeacfljfmnpaaGreat
end

section
set_option maxRecDepth 100000
namespace Go.Proofs.YtifeacfljfmnpaaGreat
open Go.RowKit
def z16q (w : World) (v : Value) (a b c : Rat) : Prop := ∃ x y z : List Value, v = .agg (x ++ (y ++ z)).toArray ∧ IsRat w (.agg x.toArray) a ∧ IsRat w (.agg y.toArray) b ∧ IsRat w (.agg z.toArray) c
def LimR (m : Nat) (a b c : Rat) : Prop := LimQ m a ∧ LimQ m b ∧ LimQ m c
theorem LimQ.mono {l m : Nat} {q : Rat} (h : LimQ l q) (k : l ≤ m) : LimQ m q := ⟨h.1.mono k, h.2.mono k⟩
theorem LimR.mono {l m : Nat} {a b c : Rat} (h : LimR l a b c) (k : l ≤ m) : LimR m a b c := ⟨h.1.mono k, h.2.1.mono k, h.2.2.mono k⟩
def rt (A B C : IT2) (l : Nat) : List Chunk := [.int A.1 l, .int A.2 l, .int B.1 l, .int B.2 l, .int C.1 l, .int C.2 l]
theorem two_chunks {E : Env} {w : World} {A : IT2} {a : Rat} (hA : RepQ E A a) {l m : Nat} {cs : List Chunk} {vs : List Value} :
    chunks E w (.int A.1 l :: .int A.2 m :: cs) vs ↔ ∃ x r, vs = x ++ r ∧ (IsRat w (.agg x.toArray) a ∧ Lim l a.num ∧ Lim m (a.den : Int)) ∧ chunks E w cs r := by
  constructor
  · rintro ⟨u0, r0, rfl, ⟨x0, y0, rfl, i0, m0⟩, u1, r1, rfl, ⟨x1, y1, rfl, i1, m1⟩, h⟩
    rw [hA.1] at i0 m0
    rw [hA.2] at i1 m1
    exact ⟨[x0, y0, x1, y1], r1, rfl, ⟨⟨x0, y0, x1, y1, rfl, i0, i1⟩, m0, m1⟩, h⟩
  · rintro ⟨x, r, rfl, ⟨⟨x0, y0, x1, y1, hx, i0, i1⟩, m0, m1⟩, h⟩
    injection hx with hx
    have hx' : x = [x0, y0, x1, y1] := congrArg Array.toList hx
    subst hx'
    refine ⟨[x0, y0], [x1, y1] ++ r, rfl, ⟨x0, y0, rfl, ?_, ?_⟩, [x1, y1], r, rfl, ⟨x1, y1, rfl, ?_, ?_⟩, h⟩
    · rw [hA.1]; exact i0
    · rw [hA.1]; exact m0
    · rw [hA.2]; exact i1
    · rw [hA.2]; exact m1
theorem one_root {E : Env} {w : World} {A B C : IT2} {a b c : Rat} (hA : RepQ E A a) (hB : RepQ E B b) (hC : RepQ E C c) {l1 l2 l3 l4 l5 l6 : Nat} {v : Value} :
    one E w (true, [.int A.1 l1, .int A.2 l2, .int B.1 l3, .int B.2 l4, .int C.1 l5, .int C.2 l6]) v ↔ z16q w v a b c ∧ ((Lim l1 a.num ∧ Lim l2 (a.den : Int)) ∧ (Lim l3 b.num ∧ Lim l4 (b.den : Int)) ∧ (Lim l5 c.num ∧ Lim l6 (c.den : Int))) := by
  constructor
  · rintro ⟨vs, rfl, h⟩
    obtain ⟨x, r, rfl, ⟨h1, m1⟩, h⟩ := (two_chunks hA).1 h
    obtain ⟨y, r, rfl, ⟨h2, m2⟩, h⟩ := (two_chunks hB).1 h
    obtain ⟨z, r, rfl, ⟨h3, m3⟩, h⟩ := (two_chunks hC).1 h
    simp only [chunks] at h
    subst h
    rw [List.append_nil]
    exact ⟨⟨x, y, z, rfl, h1, h2, h3⟩, m1, m2, m3⟩
  · rintro ⟨⟨x, y, z, rfl, h1, h2, h3⟩, m1, m2, m3⟩
    exact ⟨x ++ (y ++ z), rfl, (two_chunks hA).2 ⟨x, y ++ z, rfl, ⟨h1, m1⟩, (two_chunks hB).2 ⟨y, z, rfl, ⟨h2, m2⟩, (two_chunks hC).2 ⟨z, [], by simp, ⟨h3, m3⟩, rfl⟩⟩⟩⟩
theorem one_rt {E : Env} {w : World} {A B C : IT2} {a b c : Rat} (hA : RepQ E A a) (hB : RepQ E B b) (hC : RepQ E C c) {l : Nat} {v : Value} : one E w (true, rt A B C l) v ↔ z16q w v a b c ∧ LimR l a b c := one_root hA hB hC
theorem one_q {E : Env} {w : World} {A : IT2} {a : Rat} (hA : RepQ E A a) {l m : Nat} {v : Value} : one E w (true, [.int A.1 l, .int A.2 m]) v ↔ IsRat w v a ∧ Lim l a.num ∧ Lim m (a.den : Int) := by
  constructor
  · rintro ⟨vs, rfl, h⟩
    obtain ⟨x, r, rfl, ⟨h1, m1⟩, h⟩ := (two_chunks hA).1 h
    simp only [chunks] at h
    subst h
    rw [List.append_nil]
    exact ⟨h1, m1⟩
  · rintro ⟨⟨x0, y0, x1, y1, rfl, i0, i1⟩, m1⟩
    exact ⟨[x0, y0, x1, y1], rfl, (two_chunks hA).2 ⟨[x0, y0, x1, y1], [], rfl, ⟨⟨x0, y0, x1, y1, rfl, i0, i1⟩, m1⟩, rfl⟩⟩
def rtOf : AV → Option ((IT2 × IT2 × IT2) × Nat)
  | .val true [.int x1 l1, .int x2 l2, .int x3 l3, .int x4 l4, .int x5 l5, .int x6 l6] =>
    if canon x1 x2 && (canon x3 x4 && canon x5 x6) then some (((x1, x2), (x3, x4), (x5, x6)), max l1 (max l2 (max l3 (max l4 (max l5 l6))))) else none
  | _ => none
theorem rtOf_spec {E : Env} (hE : QEnv E) {β : Nat → Nat} {w : World} {x : AV} {v : Value} {A B C : IT2} {m : Nat} (h : rtOf x = some ((A, B, C), m)) (hx : x.holds E β w v) :
    ∃ a b c, RepQ E A a ∧ RepQ E B b ∧ RepQ E C c ∧ z16q w v a b c ∧ LimR m a b c := by
  unfold rtOf at h
  split at h
  · rename_i x1 l1 x2 l2 x3 l3 x4 l4 x5 l5 x6 l6
    split at h
    · rename_i hc
      simp only [Bool.and_eq_true] at hc
      injection h with h
      injection h with h hm
      injection h with h1 h
      injection h with h2 h3
      subst h1 h2 h3 hm
      obtain ⟨a, a1, a2⟩ := canon_spec hE hc.1
      obtain ⟨b, b1, b2⟩ := canon_spec hE hc.2.1
      obtain ⟨c, c1, c2⟩ := canon_spec hE hc.2.2
      obtain ⟨hr, ⟨m1, m2⟩, ⟨m3, m4⟩, m5, m6⟩ := (one_root (A := (x1, x2)) (B := (x3, x4)) (C := (x5, x6)) ⟨a1, a2⟩ ⟨b1, b2⟩ ⟨c1, c2⟩).1 hx
      exact ⟨a, b, c, ⟨a1, a2⟩, ⟨b1, b2⟩, ⟨c1, c2⟩, hr, ⟨m1.mono (by omega), m2.mono (by omega)⟩, ⟨m3.mono (by omega), m4.mono (by omega)⟩, m5.mono (by omega), m6.mono (by omega)⟩
    · cases h
  · cases h
def qOf : AV → Option (IT2 × Nat)
  | .val true [.int x1 l1, .int x2 l2] => if canon x1 x2 then some ((x1, x2), max l1 l2) else none
  | _ => none
theorem qOf_spec {E : Env} (hE : QEnv E) {β : Nat → Nat} {w : World} {x : AV} {v : Value} {A : IT2} {m : Nat} (h : qOf x = some (A, m)) (hx : x.holds E β w v) : ∃ a, RepQ E A a ∧ IsRat w v a ∧ LimQ m a := by
  unfold qOf at h
  split at h
  · rename_i x1 l1 x2 l2
    split at h
    · rename_i hc
      injection h with h
      injection h with h1 hm
      subst h1 hm
      obtain ⟨a, a1, a2⟩ := canon_spec hE hc
      obtain ⟨hr, m1, m2⟩ := (one_q (A := (x1, x2)) ⟨a1, a2⟩).1 hx
      exact ⟨a, ⟨a1, a2⟩, hr, m1.mono (by omega), m2.mono (by omega)⟩
    · cases h
  · cases h
def rdT (B C : IT2) : BT := .eq (.a4 20 B.1 B.2 C.1 C.2) (.lit 1)
theorem rdT_den {E : Env} {B C : IT2} {b c : Rat} (hB : RepQ E B b) (hC : RepQ E C c) : (rdT B C).den E = Rdb b c := by
  have r : RepQ E (qop 10 B C) (ratF 10 b c) := rep_op (f := 10) (by omega) hB hC
  show ((qop 10 B C).1.den E == 1) = _
  rw [r.1]
  show ((if Rdb b c = true then (1 : Rat) else 0).num == 1) = _
  cases Rdb b c <;> rfl
theorem rdT_spec {E : Env} {G : Asm} (hG : G.holds E) {B C : IT2} {b c : Rat} (hB : RepQ E B b) (hC : RepQ E C c) (h : ((rdT B C).ev G == some true) = true) : Rd b c := by
  rw [beq_iff_eq] at h
  have := BT.ev_spec hG h
  rw [rdT_den hB hC] at this
  exact Rdb_iff.1 this
def nokT (B C B' C' : IT2) : BT := .and (.not (.eq B.1 (.lit 0))) (.and (.not (.eq B'.1 (.lit 0))) (.not (.and (.eq C.1 C'.1) (.eq C.2 C'.2))))
def Ok (b c b' c' : Rat) : Prop := b = 0 ∨ b' = 0 ∨ c = c'
def cmT (B C C' : IT2) : IT2 := qop 0 (qop 5 B C) (qop 6 B C')
def cm (b c c' : Rat) : Rat := rC b c + rN b c'
theorem cm_zero (c c' : Rat) : cm 0 c c' = c' := by unfold cm; rw [rC_zero, rN_zero]; grind
theorem cm_ne {b : Rat} (h : b ≠ 0) (c c' : Rat) : cm b c c' = c := by unfold cm; rw [rC_ne h, rN_ne h]; grind
theorem rep_rC {E : Env} {B C : IT2} {b c : Rat} (hB : RepQ E B b) (hC : RepQ E C c) : RepQ E (qop 5 B C) (rC b c) := rep_op (f := 5) (by omega) hB hC
theorem rep_rN {E : Env} {B C : IT2} {b c : Rat} (hB : RepQ E B b) (hC : RepQ E C c) : RepQ E (qop 6 B C) (rN b c) := rep_op (f := 6) (by omega) hB hC
theorem rep_sq2 {E : Env} {B C : IT2} {b c : Rat} (hB : RepQ E B b) (hC : RepQ E C c) : RepQ E (qop 7 B C) (sq2 b c) := rep_op (f := 7) (by omega) hB hC
theorem rep_cm {E : Env} {B C C' : IT2} {b c c' : Rat} (hB : RepQ E B b) (hC : RepQ E C c) (hC' : RepQ E C' c') : RepQ E (cmT B C C') (cm b c c') := rep_op (f := 0) (by omega) (rep_rC hB hC) (rep_rN hB hC')
theorem rep_add {E : Env} {p q : IT2} {a b : Rat} (hp : RepQ E p a) (hq : RepQ E q b) : RepQ E (qop 0 p q) (a + b) := rep_op (f := 0) (by omega) hp hq
theorem rep_sub {E : Env} {p q : IT2} {a b : Rat} (hp : RepQ E p a) (hq : RepQ E q b) : RepQ E (qop 1 p q) (a - b) := rep_op (f := 1) (by omega) hp hq
theorem rep_mul {E : Env} {p q : IT2} {a b : Rat} (hp : RepQ E p a) (hq : RepQ E q b) : RepQ E (qop 2 p q) (a * b) := rep_op (f := 2) (by omega) hp hq
def qng (p : IT2) : IT2 := (.a1 0 p.1, p.2)
theorem rep_ng {E : Env} {p : IT2} {a : Rat} (h : RepQ E p a) : RepQ E (qng p) (-a) := by
  constructor
  · show - p.1.den E = _
    rw [h.1, Rat.neg_num]
  · show p.2.den E = _
    rw [h.2, Rat.neg_den]
theorem rep_0 {E : Env} : RepQ E (.lit 0, .lit 1) (0 : Rat) := ⟨rfl, rfl⟩
theorem LimQ.zero {m : Nat} (h : 1 ≤ m) : LimQ m 0 := ⟨lim_zero, (lim1 (z := 1) (by decide)).mono h⟩
theorem LimQ.mulQ {m : Nat} {a b : Rat} (h : LimQ m a) (k : LimQ m b) : LimQ (4 * m + 1) (a * b) := by
  obtain ⟨h1, h2⟩ := LimQ.mul h.1 h.2 k.1 k.2
  exact ⟨h1.mono (by omega), h2.mono (by omega)⟩
theorem LimQ.negQ {m : Nat} {a : Rat} (h : LimQ m a) : LimQ m (-a) := by
  refine ⟨?_, ?_⟩
  · rw [Rat.neg_num]; exact h.1.natAbs_le (by omega)
  · rw [Rat.neg_den]; exact h.2
theorem LimQ.rC {m : Nat} {b c : Rat} (h : LimQ m c) (k : 1 ≤ m) : LimQ m (rC b c) := by
  unfold Proofs.YtifeacfljfmnpaaGreat.rC
  split
  · exact LimQ.zero k
  · exact h
end Go.Proofs.YtifeacfljfmnpaaGreat
end

section
set_option maxRecDepth 100000
namespace Go.Proofs.YtifeacfljfmnpaaGreat
structure SimOK (ln ld hn hd : Int) (r : Int × Int) : Prop where
  p1 : 0 < r.1
  p2 : 0 < r.2
  lo : ln * r.2 < r.1 * ld
  hi : r.1 * hd < hn * r.2
  least : ∀ n d : Int, 0 < d → ln * d < n * ld → n * hd < hn * d → r.1 ≤ n ∧ r.2 ≤ d
theorem pos_of_mul {a b : Int} (h : 0 < a * b) (hb : 0 < b) : 0 < a := by
  rcases Int.lt_trichotomy a 0 with h1 | h1 | h1
  · have := Int.mul_neg_of_neg_of_pos h1 hb; omega
  · rw [h1, Int.zero_mul] at h; omega
  · exact h1
theorem lt_of_mul {a b c : Int} (h : a * c < b * c) (hc : 0 < c) : a < b := by
  have : 0 < (b - a) * c := by rw [Int.sub_mul]; omega
  have := pos_of_mul this hc
  omega
theorem simS_ok : ∀ (k : Nat) (ln ld hn hd : Int), 0 ≤ ln → 0 < ld → 0 < hn → 0 ≤ hd → ln * hd < hn * ld → ld + hd < k → SimOK ln ld hn hd (simS k ln ld hn hd) := by
  intro k
  induction k with
  | zero => intro ln ld hn hd _ h2 _ h4 _ h6; exfalso; have : ((0 : Nat) : Int) = 0 := rfl; omega
  | succ k ih =>
    intro ln ld hn hd h1 h2 h3 h4 h5 h6
    obtain ⟨f, hf⟩ : ∃ f, f = ln / ld := ⟨_, rfl⟩
    have hf0 : 0 ≤ f := by rw [hf]; exact Int.ediv_nonneg h1 (by omega)
    have hr0 : 0 ≤ ln - f * ld := by
      have := Int.ediv_mul_le ln (show ld ≠ 0 by omega)
      rw [← hf] at this
      omega
    have hr1 : ln - f * ld < ld := by
      have := Int.lt_ediv_add_one_mul_self ln h2
      rw [← hf, Int.add_mul, Int.one_mul] at this
      omega
    unfold simS
    rw [← hf]
    by_cases hc : (f + 1) * hd < hn
    · rw [if_pos hc]
      refine ⟨by show 0 < f + 1; omega, by show (0 : Int) < 1; decide, ?_, ?_, ?_⟩
      · show ln * 1 < (f + 1) * ld
        rw [Int.mul_one, Int.add_mul, Int.one_mul]; omega
      · show (f + 1) * hd < hn * 1
        rw [Int.mul_one]; exact hc
      · intro n d hd0 ha hb
        refine ⟨?_, by show (1 : Int) ≤ d; omega⟩
        show f + 1 ≤ n
        have e1 : f * ld * d ≤ ln * d := Int.mul_le_mul_of_nonneg_right (by omega) (by omega)
        have e2 : f * d * ld < n * ld := by
          have : f * d * ld = f * ld * d := by grind
          omega
        have e3 := lt_of_mul e2 h2
        have e4 : f * 1 ≤ f * d := Int.mul_le_mul_of_nonneg_left (by omega) hf0
        omega
    · rw [if_neg hc]
      have hg1 : hn - f * hd ≤ hd := by
        have : (f + 1) * hd = f * hd + hd := by grind
        omega
      have hg0 : 0 < hn - f * hd := by
        have e1 : f * ld * hd ≤ ln * hd := Int.mul_le_mul_of_nonneg_right (by omega) h4
        have e2 : f * hd * ld < hn * ld := by
          have : f * hd * ld = f * ld * hd := by grind
          omega
        have := lt_of_mul e2 h2
        omega
      have i := ih hd (hn - f * hd) ld (ln - f * ld) h4 hg0 h2 hr0 (by grind) (by omega)
      obtain ⟨i1, i2, i3, i4, i5⟩ := i
      generalize simS k hd (hn - f * hd) ld (ln - f * ld) = r at *
      obtain ⟨p, q⟩ := r
      simp only at i1 i2 i3 i4 i5 ⊢
      have hfp : 0 ≤ f * p := Int.mul_nonneg hf0 (by omega)
      refine ⟨by show 0 < f * p + q; omega, i1, ?_, ?_, ?_⟩
      · show ln * p < (f * p + q) * ld
        grind
      · show (f * p + q) * hd < hn * p
        grind
      · intro n d hd0 ha hb
        have hm : 0 < n - f * d := by
          have e1 : 0 ≤ (ln - f * ld) * d := Int.mul_nonneg hr0 (by omega)
          have e2 : 0 < (n - f * d) * ld := by grind
          exact pos_of_mul e2 h2
        obtain ⟨j1, j2⟩ := i5 d (n - f * d) hm (by grind) (by grind)
        refine ⟨?_, j1⟩
        show f * p + q ≤ n
        have := Int.mul_le_mul_of_nonneg_left j1 hf0
        omega
theorem SimOK.coprime {ln ld hn hd : Int} {r : Int × Int} (h : SimOK ln ld hn hd r) : Nat.gcd r.1.natAbs r.2.natAbs = 1 := by
  obtain ⟨p, q⟩ := r
  obtain ⟨h1, h2, h3, h4, h5⟩ := h
  simp only at h1 h2 h3 h4 h5 ⊢
  obtain ⟨g, hg⟩ : ∃ g, g = Nat.gcd p.natAbs q.natAbs := ⟨_, rfl⟩
  have hgp : 0 < g := by rw [hg]; exact Nat.gcd_pos_of_pos_left _ (by omega)
  obtain ⟨u, hu⟩ := Nat.gcd_dvd_left p.natAbs q.natAbs
  obtain ⟨v, hv⟩ := Nat.gcd_dvd_right p.natAbs q.natAbs
  rw [← hg] at hu hv ⊢
  have hp : p = (g : Int) * (u : Int) := by rw [← Int.natCast_mul, ← hu]; omega
  have hq : q = (g : Int) * (v : Int) := by rw [← Int.natCast_mul, ← hv]; omega
  have hv0 : 0 < v := by
    rcases Nat.eq_zero_or_pos v with h0 | h0
    · rw [h0, Nat.mul_zero] at hv; omega
    · exact h0
  have hgI : (0 : Int) < (g : Int) := by omega
  have a1 : ln * (v : Int) < (u : Int) * ld := by
    refine lt_of_mul (c := (g : Int)) ?_ hgI
    have e1 : ln * (v : Int) * (g : Int) = ln * q := by rw [hq]; grind
    have e2 : (u : Int) * ld * (g : Int) = p * ld := by rw [hp]; grind
    omega
  have a2 : (u : Int) * hd < hn * (v : Int) := by
    refine lt_of_mul (c := (g : Int)) ?_ hgI
    have e1 : (u : Int) * hd * (g : Int) = p * hd := by rw [hp]; grind
    have e2 : hn * (v : Int) * (g : Int) = hn * q := by rw [hq]; grind
    omega
  have := (h5 u v (by omega) a1 a2).2
  have h7 : q.natAbs ≤ v := by omega
  rw [hv] at h7
  have h8 : 2 ≤ g → False := fun h => by
    have := Nat.mul_le_mul_right v h
    omega
  rcases Nat.lt_or_ge g 2 with h | h
  · omega
  · exact (h8 h).elim
end Go.Proofs.YtifeacfljfmnpaaGreat
end

section
set_option maxRecDepth 100000
namespace Go.Proofs.YtifeacfljfmnpaaGreat
open Go.RowKit
theorem rfloor_rat_calls (w : World) (v : Value) (a : Rat) (h : IsRat w v a) (l : LimQ 100000 a) : Calls Tryz.prog 102 #[v] w (Ret (fun v w' => IsInt w' v a.floor) w) := by
  refine (walkQ1 (T := .leaf [(true, [.int (.a2 4 (.var 0) (.var 1)) 100000])]) (tab := [(164, kDM)])
    (.cons (kDMg_ok (fun w v u a b h k l1 l2 => rdivMod_fn w v u a b h k l1 l2) ⟨_, Tryz.func164, by decide +kernel, by kernel_rfl⟩) .nil)
    Tryz.func102 (by kernel_rfl) (by decide +kernel) (by decide +kernel) h l).mono ?_
  rintro e w' ⟨β, u, rfl, hh, ex⟩
  refine ⟨u, rfl, ?_, ex⟩
  have k := (z10q.1 hh).1
  have e1 : (IT.a2 4 (.var 0) (.var 1)).den (qE [a]) = a.floor := by
    show dq a.num (a.den : Int) = _
    rw [dq_pos (by have := a.den_pos; omega), ← Rat.floor_def]
  rw [e1] at k
  exact k
end Go.Proofs.YtifeacfljfmnpaaGreat
end

section
set_option maxRecDepth 100000
namespace Go.Proofs.YtifeacfljfmnpaaGreat
open Go.RowKit
def kFlR : Con
  | [.val true [.int x l, .int y m]], _ => if canon x y && (ql l && ql m) then some (.val true [.int (.a2 4 x y) l]) else none
  | _, _ => none
theorem kFlR_ok {E : Env} (hE : QEnv E) : ConOK Tryz.prog E 102 kFlR := by
  refine ⟨?_, ?_, ⟨_, Tryz.func102, by decide +kernel, by kernel_rfl⟩⟩
  · intro args As r h hG β w vs hv hlen
    unfold kFlR at h
    split at h
    · split at h
      · rename_i hm
        simp only [ql, Bool.and_eq_true, decide_eq_true_iff] at hm
        obtain ⟨c1, b1, b2⟩ := hm
        injection h with h
        subst h
        obtain ⟨v, rfl, h1⟩ := args1 hv hlen
        obtain ⟨q, _, e1, e2, hq, m1, m2⟩ := one_ratQ hE c1 h1
        have hd : dq q.num (q.den : Int) = q.floor := by rw [dq_pos (by have := q.den_pos; omega), ← Rat.floor_def]
        refine (rfloor_rat_calls w v q hq ⟨m1.mono b1, m2.mono b2⟩).mono ?_
        rintro e w' ⟨u, rfl, hI, ex⟩
        refine ⟨_, rfl, z10q.2 ⟨?_, ?_⟩, ex⟩
        · show IsInt w' u (dq _ _)
          rw [e1, e2, hd]; exact hI
        · show Lim _ (dq _ _)
          rw [e1, e2]; exact m1.natAbs_le (dq_abs _ _)
      · cases h
    · cases h
  · intro args As r h x off
    unfold kFlR at h
    split at h
    · split at h
      · injection h with h; subst h; intro e; cases e
      · cases h
    · cases h
end Go.Proofs.YtifeacfljfmnpaaGreat
end

section
set_option maxRecDepth 100000
namespace Go.Proofs.YtifeacfljfmnpaaGreat
open Go.RowKit
noncomputable def tabB : List (Nat × Con) := (224, kSqI) :: (101, kSqRef) :: (102, kFlR) :: (209, kFlQ) :: (87, kIIb fun x y => .eq x y) :: (tabInt ++ (tabR2 ++ tabT))
theorem tabB_ok {E : Env} (hE : QEnv E) : TabOK Tryz.prog E tabB := by
  refine .cons kSqI_ok (.cons kSqRef_ok ?_)
  refine .cons (kFlR_ok hE) ?_ 
  exact .cons (kFlQ_ok hE) (.cons (kIIb_ok (fun x y => x == y) (fun _ _ => rfl) (fun w v1 v2 z1 z2 h1 h2 => (rsame_calls w v1 v2 z1 z2 h1 h2).mono (fun e w' h => ⟨by rw [h.1]; by_cases hz : z1 = z2 <;> simp [hz], h.2⟩)) ⟨_, Tryz.func87, by decide +kernel, by kernel_rfl⟩) (TabOK.app tabInt_ok (TabOK.app tabR2_ok (tabT_ok hE))))
noncomputable def pL1 : List (Nat × Func) := (244, Tryz.f244) :: (142, Tryz.f142) :: (212, Tryz.f212) :: (240, Tryz.f240) :: (203, Tryz.f203) :: (225, Tryz.f225) ::  (185, Tryz.f185) :: (186, Tryz.f186) :: []
noncomputable def pL2 : List (Nat × Func) := (213, Tryz.f213) :: (202, Tryz.f202) :: (210, Tryz.f210) :: (178, Tryz.f178) :: (133, Tryz.f133) :: []
noncomputable def pL3 : List (Nat × Func) := (158, Tryz.f158) ::  (179, Tryz.f179) :: []
theorem pL1_ok : InlOK Tryz.prog pL1 :=
  .cons Tryz.func244 (by decide +kernel) (by kernel_rfl) <|
  .cons Tryz.func142 (by decide +kernel) (by kernel_rfl) <|
  .cons Tryz.func212 (by decide +kernel) (by kernel_rfl) <|
  .cons Tryz.func240 (by decide +kernel) (by kernel_rfl) <|
  .cons Tryz.func203 (by decide +kernel) (by kernel_rfl) <|
  .cons Tryz.func225 (by decide +kernel) (by kernel_rfl) <|
  
  .cons Tryz.func185 (by decide +kernel) (by kernel_rfl) <|
  .cons Tryz.func186 (by decide +kernel) (by kernel_rfl) <| .nil
theorem pL2_ok : InlOK Tryz.prog pL2 :=
  .cons Tryz.func213 (by decide +kernel) (by kernel_rfl) <|
  .cons Tryz.func202 (by decide +kernel) (by kernel_rfl) <|
  .cons Tryz.func210 (by decide +kernel) (by kernel_rfl) <|
  .cons Tryz.func178 (by decide +kernel) (by kernel_rfl) <|
  .cons Tryz.func133 (by decide +kernel) (by kernel_rfl) <| .nil
theorem pL3_ok : InlOK Tryz.prog pL3 :=
  .cons Tryz.func158 (by decide +kernel) (by kernel_rfl) <|
  
  .cons Tryz.func179 (by decide +kernel) (by kernel_rfl) <| .nil
noncomputable def cR (tab : List (Nat × Con)) : Cfg := cfgT3 (tab ++ tabB) pL1 pL2 pL3
theorem cR_ok {E : Env} (hE : QEnv E) {tab : List (Nat × Con)} (h : TabOK Tryz.prog E tab) : CfgOK Tryz.prog E (cR tab) := cfgT3_ok mixed (TabOK.app h (tabB_ok hE)) pL1_ok pL2_ok pL3_ok
def aRl (i l : Nat) : AV := .val true (rt (qv i) (qv (i + 1)) (qv (i + 2)) l)
def aQl (i l : Nat) : AV := .val true [.int (qv i).1 l, .int (qv i).2 l]
def aR (i : Nat) : AV := aRl i 3000
theorem aRl_holds {l : List Rat} {β : Nat → Nat} {w : World} {v : Value} {i m : Nat} (h : z16q w v (l.getD i 0) (l.getD (i + 1) 0) (l.getD (i + 2) 0)) (k : LimR m (l.getD i 0) (l.getD (i + 1) 0) (l.getD (i + 2) 0)) : (aRl i m).holds (qE l) β w v := (one_rt rep_v rep_v rep_v).2 ⟨h, k⟩
theorem aQl_holds {l : List Rat} {β : Nat → Nat} {w : World} {v : Value} {i m : Nat} (h : IsRat w v (l.getD i 0)) (k : LimQ m (l.getD i 0)) : (aQl i m).holds (qE l) β w v := (one_q rep_v).2 ⟨h, k⟩
theorem aR_holds {l : List Rat} {β : Nat → Nat} {w : World} {v : Value} {i : Nat} (h : z16q w v (l.getD i 0) (l.getD (i + 1) 0) (l.getD (i + 2) 0)) (k : LimR 3000 (l.getD i 0) (l.getD (i + 1) 0) (l.getD (i + 2) 0)) : (aR i).holds (qE l) β w v := (one_rt rep_v rep_v rep_v).2 ⟨h, k⟩
theorem walk1 {f : Nat} {fn : Func} {tab : List (Nat × Con)} {T : Tree} {G : Asm} {x : AV} {l : List Rat} (hf : Tryz.prog.funcs[f]? = some fn) (h4 : fn.results.toList.length ≤ 4) (htab : TabOK Tryz.prog (qE l) tab) (hG : G.holds (qE l)) (hT : funE (cR tab) fn G [x] = some T) (hn : 1 ≤ fn.ntmps) (hnp : [x].all noPtr = true)
    (w : World) (v : Value) (hv : ∀ β, x.holds (qE l) β w v) : Calls Tryz.prog f #[v] w fun e w' => ∃ β y, e = .returned y ∧ (toAV (T.pick (qE l))).holds (qE l) β w' y ∧ Ext w w' := by
  refine z5q mixed (cR_ok (qE_ok _) htab) hG hf h4 hT hn hnp w [v] rfl ?_
  intro i y hy
  match i, hy with
  | 0, hy => injection hy with hy; subst hy; exact ⟨fun _ => 0, v, rfl, hv _⟩
theorem walk2 {f : Nat} {fn : Func} {tab : List (Nat × Con)} {T : Tree} {G : Asm} {x z : AV} {l : List Rat} (hf : Tryz.prog.funcs[f]? = some fn) (h4 : fn.results.toList.length ≤ 4) (htab : TabOK Tryz.prog (qE l) tab) (hG : G.holds (qE l)) (hT : funE (cR tab) fn G [x, z] = some T) (hn : 2 ≤ fn.ntmps) (hnp : [x, z].all noPtr = true)
    (w : World) (v u : Value) (hv : ∀ β, x.holds (qE l) β w v) (hu : ∀ β, z.holds (qE l) β w u) : Calls Tryz.prog f #[v, u] w fun e w' => ∃ β y, e = .returned y ∧ (toAV (T.pick (qE l))).holds (qE l) β w' y ∧ Ext w w' := by
  refine z5q mixed (cR_ok (qE_ok _) htab) hG hf h4 hT hn hnp w [v, u] rfl ?_
  intro i y hy
  match i, hy with
  | 0, hy => injection hy with hy; subst hy; exact ⟨fun _ => 0, v, rfl, hv _⟩
  | 1, hy => injection hy with hy; subst hy; exact ⟨fun _ => 0, u, rfl, hu _⟩
def q0 : IT2 := (.lit 0, .lit 1)
def zt (p : IT2) : BT := .eq (.a2 3 p.1 (.lit 0)) (.lit 0)
theorem zt_den {E : Env} {p : IT2} {q : Rat} (h : RepQ E p q) : (zt p).den E = decide (q = 0) := by
  show (cmpZ (p.1.den E) 0 == 0) = _
  rw [h.1, Bool.eq_iff_iff, beq_iff_eq, decide_eq_true_iff, ← Rat.num_eq_zero]
  rcases z2q q.num 0 with ⟨h, e⟩ | ⟨h, e⟩ | ⟨h, e⟩ <;> rw [e] <;> omega
def rt6 (A B C : IT2) (l m k : Nat) : List Chunk := [.int A.1 l, .int A.2 l, .int B.1 m, .int B.2 m, .int C.1 k, .int C.2 k]
def lf (A B C : IT2) (l m k : Nat) : Tree := .leaf [(true, rt6 A B C l m k)]
def lf2 (A B C : IT2) (l m k : Nat) : Tree := .leaf [(true, rt6 A B C l m k), (false, [.n .i64 (.lit 0)])]
def bad6 (z : Int) : List (Bool × List Chunk) := [(true, [.int (.lit 0) 0, .int (.lit 0) 0, .int (.lit 0) 0, .int (.lit 0) 0, .int (.lit 0) 0, .int (.lit 0) 0]), (false, [.n .i64 (.lit z)])]
theorem lf_out {E : Env} {β : Nat → Nat} {w : World} {v : Value} {A B C : IT2} {a b c : Rat} {l m k : Nat} (hA : RepQ E A a) (hB : RepQ E B b) (hC : RepQ E C c) (h : (toAV ((lf A B C l m k).pick E)).holds E β w v) : z16q w v a b c := ((one_root hA hB hC).1 h).1
theorem lf2_out {E : Env} {β : Nat → Nat} {w : World} {v : Value} {A B C : IT2} {a b c : Rat} {l m k : Nat} (hA : RepQ E A a) (hB : RepQ E B b) (hC : RepQ E C c) (h : (toAV ((lf2 A B C l m k).pick E)).holds E β w v) : ∃ x, v = .tuple #[x, .int .i64 0] ∧ z16q w x a b c := by
  obtain ⟨vs, rfl, u1, r1, rfl, k1, u2, r2, rfl, k2, hn⟩ := h
  simp only [tupAll] at hn
  subst hn
  have k2' := z9q.1 k2
  subst k2'
  exact ⟨u1, rfl, ((one_root hA hB hC).1 k1).1⟩
def Zero6 (w : World) (v : Value) : Prop := ∀ E, one E w (true, [.int (.lit 0) 0, .int (.lit 0) 0, .int (.lit 0) 0, .int (.lit 0) 0, .int (.lit 0) 0, .int (.lit 0) 0]) v
theorem zero6_of {E : Env} {w : World} {v : Value} (h : one E w (true, [.int (.lit 0) 0, .int (.lit 0) 0, .int (.lit 0) 0, .int (.lit 0) 0, .int (.lit 0) 0, .int (.lit 0) 0]) v) : Zero6 w v := fun _ => h
theorem bad6_out {E : Env} {β : Nat → Nat} {w : World} {v : Value} {z : Int} (h : (toAV ((Tree.leaf (bad6 z)).pick E)).holds E β w v) : ∃ x, v = .tuple #[x, .int .i64 z] ∧ Zero6 w x := by
  obtain ⟨vs, rfl, u1, r1, rfl, k1, u2, r2, rfl, k2, hn⟩ := h
  simp only [tupAll] at hn
  subst hn
  have k2' := z9q.1 k2
  subst k2'
  exact ⟨u1, rfl, zero6_of k1⟩
section
variable {w : World} {v u : Value} {a b c a' b' c' k : Rat}
theorem p_scale (h : z16q w v a b c) (hu : IsRat w u k) (l : LimR 20000 a b c) (lk : LimQ 20000 k) : Calls Tryz.prog 155 #[v, u] w (Ret (fun x w' => z16q w' x (a * k) (b * k) (rC (b * k) c)) w) := by
  refine (walk2 (l := [a, b, c, k]) (tab := []) (x := aRl 0 20000) (z := aQl 3 20000) (T := .ite (zt (qop 2 (qv 1) (qv 3))) (lf (qop 2 (qv 0) (qv 3)) q0 q0 80001 3 3) (lf (qop 2 (qv 0) (qv 3)) (qop 2 (qv 1) (qv 3)) (qv 2) 80001 80001 20000))
    Tryz.func155 (by decide +kernel) .nil z8q (by kernel_rfl) (by decide +kernel) rfl w v u (fun _ => aRl_holds h l) (fun _ => aQl_holds hu lk)).mono ?_
  rintro e w' ⟨β, y, rfl, hh, ex⟩
  have ra : RepQ (qE [a, b, c, k]) (qv 0) a := rep_v (i := 0)
  have rb : RepQ (qE [a, b, c, k]) (qv 1) b := rep_v (i := 1)
  have rc : RepQ (qE [a, b, c, k]) (qv 2) c := rep_v (i := 2)
  have rk : RepQ (qE [a, b, c, k]) (qv 3) k := rep_v (i := 3)
  refine ⟨y, rfl, ?_, ex⟩
  simp only [Tree.pick] at hh
  rw [zt_den (rep_mul rb rk)] at hh
  by_cases hz : b * k = 0
  · rw [decide_eq_true hz, if_pos rfl] at hh
    rw [hz, rC_zero]
    exact lf_out (rep_mul ra rk) rep_0 rep_0 hh
  · rw [decide_eq_false hz, if_neg (by decide)] at hh
    rw [rC_ne hz]
    exact lf_out (rep_mul ra rk) (rep_mul rb rk) rc hh
end
end Go.Proofs.YtifeacfljfmnpaaGreat
end

section
set_option maxRecDepth 100000
namespace Go.Proofs.YtifeacfljfmnpaaGreat
open Go.RowKit
def RetR (w : World) (ok : Prop) (err : Int) (p q r : Rat) (e : Ending) (w' : World) : Prop :=
  (ok → ∃ x, e = .returned (.tuple #[x, .int .i64 0]) ∧ z16q w' x p q r ∧ Ext w w') ∧ (¬ ok → ∃ x, e = .returned (.tuple #[x, .int .i64 err]) ∧ Zero6 w' x ∧ Ext w w')
theorem ite_pick {E : Env} {b : BT} {t e : Tree} {p : Bool} (h : b.den E = p) : (Tree.ite b t e).pick E = if p then t.pick E else e.pick E := by
  simp only [Tree.pick, h]
def endP (A B C : IT2) : Tree := .ite (zt B) (lf2 A q0 q0 12001 3 3) (lf2 A B C 12001 12001 3000)
theorem endP_out {E : Env} {β : Nat → Nat} {w : World} {v : Value} {A B C : IT2} {a b c : Rat} (hA : RepQ E A a) (hB : RepQ E B b) (hC : RepQ E C c) (h : (toAV ((endP A B C).pick E)).holds E β w v) : ∃ x, v = .tuple #[x, .int .i64 0] ∧ z16q w x a b (rC b c) := by
  unfold endP at h
  rw [ite_pick (zt_den hB)] at h
  by_cases hz : b = 0
  · rw [decide_eq_true hz, if_pos rfl] at h
    rw [hz, rC_zero]
    exact lf2_out hA rep_0 rep_0 h
  · rw [decide_eq_false hz, if_neg (by decide)] at h
    rw [rC_ne hz]
    exact lf2_out hA hB hC h
def eqPT : BT := .eq (.a2 3 (.var 4) (.var 10)) (.lit 0)
def eqPT2 : BT := .eq (.a2 3 (.var 5) (.var 11)) (.lit 0)
theorem cmp0 (x y : Int) : (cmpZ x y == 0) = decide (x = y) := by
  rw [Bool.eq_iff_iff, beq_iff_eq, decide_eq_true_iff]
  rcases z2q x y with ⟨h, e⟩ | ⟨h, e⟩ | ⟨h, e⟩ <;> rw [e] <;> omega
theorem rat_eq_parts {c c' : Rat} : c = c' ↔ c.num = c'.num ∧ (c.den : Int) = (c'.den : Int) := ⟨fun h => by subst h; exact ⟨rfl, rfl⟩, fun h => Rat.ext h.1 (by have := h.2; omega)⟩
def comP (x y : Tree) : Tree := .ite (zt (qv 1)) y (.ite (zt (qv 4)) x (.ite eqPT (.ite eqPT2 x (.leaf (bad6 1))) (.leaf (bad6 1))))
section
variable {a b c a' b' c' : Rat} {x y : Tree} {E : Env} {β : Nat → Nat} {w w' : World} {v : Value}
theorem rep6 : RepQ (qE [a, b, c, a', b', c']) (qv 0) a ∧ RepQ (qE [a, b, c, a', b', c']) (qv 1) b ∧ RepQ (qE [a, b, c, a', b', c']) (qv 2) c ∧ RepQ (qE [a, b, c, a', b', c']) (qv 3) a' ∧ RepQ (qE [a, b, c, a', b', c']) (qv 4) b' ∧ RepQ (qE [a, b, c, a', b', c']) (qv 5) c' :=
  ⟨rep_v (i := 0), rep_v (i := 1), rep_v (i := 2), rep_v (i := 3), rep_v (i := 4), rep_v (i := 5)⟩
theorem comP_out (h : (toAV ((comP x y).pick (qE [a, b, c, a', b', c']))).holds (qE [a, b, c, a', b', c']) β w' v) :
    (Ok b c b' c' ∧ ((b = 0 ∧ (toAV (y.pick (qE [a, b, c, a', b', c']))).holds (qE [a, b, c, a', b', c']) β w' v) ∨ (b ≠ 0 ∧ (toAV (x.pick (qE [a, b, c, a', b', c']))).holds (qE [a, b, c, a', b', c']) β w' v))) ∨ (¬ Ok b c b' c' ∧ ∃ z, v = .tuple #[z, .int .i64 1] ∧ Zero6 w' z) := by
  obtain ⟨ra, rb, rc, ra', rb', rc'⟩ := rep6 (a := a) (b := b) (c := c) (a' := a') (b' := b') (c' := c')
  have e1 : eqPT.den (qE [a, b, c, a', b', c']) = decide (c.num = c'.num) := cmp0 _ _
  have e2 : eqPT2.den (qE [a, b, c, a', b', c']) = decide ((c.den : Int) = (c'.den : Int)) := cmp0 _ _
  unfold comP at h
  rw [ite_pick (zt_den rb), ite_pick (zt_den rb'), ite_pick e1, ite_pick e2] at h
  unfold Ok
  by_cases hb : b = 0
  · rw [decide_eq_true hb, if_pos rfl] at h
    exact .inl ⟨.inl hb, .inl ⟨hb, h⟩⟩
  · rw [decide_eq_false hb, if_neg (by decide)] at h
    by_cases hb' : b' = 0
    · rw [decide_eq_true hb', if_pos rfl] at h
      exact .inl ⟨.inr (.inl hb'), .inr ⟨hb, h⟩⟩
    · rw [decide_eq_false hb', if_neg (by decide)] at h
      by_cases h1 : c.num = c'.num
      · rw [decide_eq_true h1, if_pos rfl] at h
        by_cases h2 : (c.den : Int) = (c'.den : Int)
        · rw [decide_eq_true h2, if_pos rfl] at h
          exact .inl ⟨.inr (.inr (rat_eq_parts.2 ⟨h1, h2⟩)), .inr ⟨hb, h⟩⟩
        · rw [decide_eq_false h2, if_neg (by decide)] at h
          refine .inr ⟨?_, bad6_out h⟩
          rintro (k | k | k)
          · exact hb k
          · exact hb' k
          · exact h2 (rat_eq_parts.1 k).2
      · rw [decide_eq_false h1, if_neg (by decide)] at h
        refine .inr ⟨?_, bad6_out h⟩
        rintro (k | k | k)
        · exact hb k
        · exact hb' k
        · exact h1 (rat_eq_parts.1 k).1
end
theorem RetR.of {w : World} {ok : Prop} {err : Int} {p q r : Rat} {v : Value} {w' : World} (ex : Ext w w') (h : (ok ∧ ∃ x, v = .tuple #[x, .int .i64 0] ∧ z16q w' x p q r) ∨ (¬ ok ∧ ∃ z, v = .tuple #[z, .int .i64 err] ∧ Zero6 w' z)) : RetR w ok err p q r (.returned v) w' := by
  rcases h with ⟨h, x, rfl, hx⟩ | ⟨h, x, rfl, hx⟩
  · exact ⟨fun _ => ⟨x, rfl, hx, ex⟩, fun k => absurd h k⟩
  · exact ⟨fun k => absurd k h, fun _ => ⟨x, rfl, hx, ex⟩⟩
section
variable {w : World} {v u : Value} {a b c a' b' c' k : Rat}
theorem Rd.c0 (R : Rd b c) (h : b ≠ 0) : c ≠ 0 := by
  rcases R with ⟨rfl, _⟩ | ⟨_, h1, _⟩
  · exact absurd rfl h
  · grind
theorem p_add (h : z16q w v a b c) (hu : z16q w u a' b' c') (l : LimR 3000 a b c) (l' : LimR 3000 a' b' c') : Calls Tryz.prog 146 #[v, u] w (RetR w (Ok b c b' c') 1 (a + a') (b + b') (rC (b + b') (cm b c c'))) := by
  refine (walk2 (l := [a, b, c, a', b', c']) (tab := []) (x := aR 0) (z := aR 3) (T := comP (endP (qop 0 (qv 0) (qv 3)) (qop 0 (qv 1) (qv 4)) (qv 2)) (endP (qop 0 (qv 0) (qv 3)) (qop 0 (qv 1) (qv 4)) (qv 5)))
    Tryz.func146 (by decide +kernel) .nil z8q (by kernel_rfl) (by decide +kernel) rfl w v u (fun _ => aR_holds h l) (fun _ => aR_holds hu l')).mono ?_
  rintro e w' ⟨β, y, rfl, hh, ex⟩
  obtain ⟨ra, rb, rc, ra', rb', rc'⟩ := rep6 (a := a) (b := b) (c := c) (a' := a') (b' := b') (c' := c')
  refine RetR.of ex ?_
  rcases comP_out hh with ⟨ho, ⟨hb, hh⟩ | ⟨hb, hh⟩⟩ | hno
  · refine .inl ⟨ho, ?_⟩
    rw [show cm b c c' = c' by rw [hb, cm_zero]]
    exact endP_out (rep_add ra ra') (rep_add rb rb') rc' hh
  · refine .inl ⟨ho, ?_⟩
    rw [cm_ne hb]
    exact endP_out (rep_add ra ra') (rep_add rb rb') rc hh
  · exact .inr hno
theorem p_neg (R : Rd b c) (h : z16q w v a b c) (l : LimR 3000 a b c) : Calls Tryz.prog 81 #[v] w (Ret (fun x w' => z16q w' x (-a) (-b) c) w) := by
  refine (walk1 (l := [a, b, c]) (tab := []) (x := aR 0) (T := .ite (zt (qng (qv 1))) (lf (qng (qv 0)) q0 q0 3000 3 3) (lf (qng (qv 0)) (qng (qv 1)) (qv 2) 3000 3000 3000))
    Tryz.func81 (by decide +kernel) .nil z8q (by kernel_rfl) (by decide +kernel) rfl w v (fun _ => aR_holds h l)).mono ?_
  rintro e w' ⟨β, y, rfl, hh, ex⟩
  have ra : RepQ (qE [a, b, c]) (qv 0) a := rep_v (i := 0)
  have rb : RepQ (qE [a, b, c]) (qv 1) b := rep_v (i := 1)
  have rc : RepQ (qE [a, b, c]) (qv 2) c := rep_v (i := 2)
  refine ⟨y, rfl, ?_, ex⟩
  rw [ite_pick (zt_den (rep_ng rb))] at hh
  by_cases hz : -b = 0
  · rw [decide_eq_true hz, if_pos rfl] at hh
    have hb : b = 0 := by grind
    have hc : c = 0 := by
      rcases R with ⟨_, h⟩ | ⟨h, _⟩
      · exact h
      · exact absurd hb h
    rw [hz, hc]
    exact lf_out (rep_ng ra) rep_0 rep_0 hh
  · rw [decide_eq_false hz, if_neg (by decide)] at hh
    exact lf_out (rep_ng ra) (rep_ng rb) rc hh
def lfN (t : IT) : Tree := .leaf [(false, [.n .i64 t])]
theorem lfN_out {E : Env} {β : Nat → Nat} {w : World} {v : Value} {t : IT} (h : (toAV ((lfN t).pick E)).holds E β w v) : v = .int .i64 (t.den E) := z9q.1 h
def sgt (p : IT2) : IT := .a2 3 p.1 (.lit 0)
theorem sgt_den {E : Env} {p : IT2} {q : Rat} (h : RepQ E p q) : (sgt p).den E = sgQ q := by
  show cmpZ (p.1.den E) 0 = _
  rw [h.1]; rfl
def sgL : IT := .a2 2 (.a2 2 (.a2 2 (.var 0) (.var 3)) (.a2 2 (.var 0) (.var 3))) (.var 5)
def sgR : IT := .a2 2 (.a2 2 (.a2 2 (.var 2) (.var 1)) (.a2 2 (.var 2) (.var 1))) (.var 4)
theorem sgLR (a b c : Rat) : cmpZ (sgL.den (qE [a, b, c])) (sgR.den (qE [a, b, c])) = sgQ (nrm a b c) := by
  show cmpZ (a.num * (b.den : Int) * (a.num * (b.den : Int)) * (c.den : Int)) (b.num * (a.den : Int) * (b.num * (a.den : Int)) * c.num) = _
  have num_eq : ∀ q : Rat, q * ((q.den : Int) : Rat) = (q.num : Rat) := by
    intro q
    have h := Rat.num_divInt_den q
    have hd : ((q.den : Int) : Rat) ≠ 0 := fun e => by
      have := Rat.intCast_eq_zero_iff.1 e
      have := q.den_pos
      omega
    have h2 : q = (q.num : Rat) / ((q.den : Int) : Rat) := by rw [← Rat.divInt_eq_div, h]
    have := Rat.div_mul_cancel (a := (q.num : Rat)) hd
    rw [← h2] at this
    exact this
  have pos : ∀ q : Rat, (0 : Rat) < ((q.den : Int) : Rat) := fun q => Rat.intCast_pos.2 (by have := q.den_pos; omega)
  have ea := num_eq a
  have eb := num_eq b
  have ec := num_eq c
  have pa := pos a
  have pb := pos b
  have pc := pos c
  have cast : ∀ x y : Int, cmpZ x y = sgQ ((x : Rat) - (y : Rat)) := by
    intro x y
    rw [← cmpQ_sub, Rat.num_intCast, Rat.den_intCast, Rat.num_intCast, Rat.den_intCast]
    have e1 : ((1 : Nat) : Int) = 1 := rfl
    rw [e1, Int.mul_one, Int.mul_one]
  rw [cast]
  simp only [castQ_mul]
  generalize ((a.den : Int) : Rat) = p at *
  generalize ((b.den : Int) : Rat) = q at *
  generalize ((c.den : Int) : Rat) = r at *
  rw [← ea, ← eb, ← ec]
  have e2 : a * p * q * (a * p * q) * r - b * q * p * (b * q * p) * (c * r) = nrm a b c * (p * q * (p * q) * r) := by unfold nrm; grind
  have hp := Rat.mul_pos (Rat.mul_pos (Rat.mul_pos pa pb) (Rat.mul_pos pa pb)) pc
  rw [e2, sgQ_mul, sgQ_pos hp, Int.mul_one]
theorem p_sign (R : Rd b c) (h : z16q w v a b c) (l : LimR 3000 a b c) : Calls Tryz.prog 147 #[v] w fun e w' => e = .returned (.int .i64 (sgN a b c)) ∧ Ext w w' := by
  refine (walk1 (l := [a, b, c]) (tab := []) (x := aR 0) (T := .ite (zt (qv 1)) (lfN (sgt (qv 0))) (.ite (.eq (sgt (qv 0)) (.a1 0 (sgt (qv 1)))) (lfN (.a2 2 (sgt (qv 0)) (.a2 3 sgL sgR))) (lfN (sgt (qv 1)))))
    Tryz.func147 (by decide +kernel) .nil z8q (by kernel_rfl) (by decide +kernel) rfl w v (fun _ => aR_holds h l)).mono ?_
  rintro e w' ⟨β, y, rfl, hh, ex⟩
  have ra : RepQ (qE [a, b, c]) (qv 0) a := rep_v (i := 0)
  have rb : RepQ (qE [a, b, c]) (qv 1) b := rep_v (i := 1)
  have e1 : (BT.eq (sgt (qv 0)) (.a1 0 (sgt (qv 1)))).den (qE [a, b, c]) = decide (sgQ a = - sgQ b) := by
    show ((sgt (qv 0)).den (qE [a, b, c]) == - (sgt (qv 1)).den (qE [a, b, c])) = _
    rw [sgt_den ra, sgt_den rb, Bool.eq_iff_iff, beq_iff_eq, decide_eq_true_iff]
  rw [ite_pick (zt_den rb), ite_pick e1] at hh
  refine ⟨?_, ex⟩
  rw [← sgS_sgN R]
  have c1 := sgQ_cases a
  have c2 := sgQ_cases b
  rw [sgS_sgN R]
  by_cases hb : b = 0
  · rw [decide_eq_true hb, if_pos rfl] at hh
    rw [lfN_out hh, sgt_den ra]
    have hc : c = 0 := by
      rcases R with ⟨_, h⟩ | ⟨h, _⟩
      · exact h
      · exact absurd hb h
    subst hb hc
    by_cases ha : a = 0
    · subst ha; rw [sgN_zero (by unfold nrm; grind)]; rfl
    · rw [sgN_pos (by have := sq_pos ha; unfold nrm; grind)]
  · rw [decide_eq_false hb, if_neg (by decide)] at hh
    have hne : nrm a b c ≠ 0 := fun e => hb (nrm_ne R e).2
    have hb' : sgQ b ≠ 0 := by rcases c2 with ⟨k, e⟩ | ⟨k, e⟩ | ⟨k, e⟩ <;> first | (rw [e]; decide) | grind
    by_cases hs : sgQ a = - sgQ b
    · rw [decide_eq_true hs, if_pos rfl] at hh
      have e2 : (IT.a2 2 (sgt (qv 0)) (.a2 3 sgL sgR)).den (qE [a, b, c]) = sgQ a * sgQ (nrm a b c) := by
        show (sgt (qv 0)).den _ * cmpZ (sgL.den (qE [a, b, c])) (sgR.den (qE [a, b, c])) = _
        rw [sgt_den ra, sgLR]
      rw [lfN_out hh, e2]
      rcases (by grind : nrm a b c < 0 ∨ 0 < nrm a b c) with n | n
      · rw [sgN_neg n, sgQ_neg' n]
        congr 2; omega
      · rw [sgN_pos n, sgQ_pos n, Int.mul_one]
    · rw [decide_eq_false hs, if_neg (by decide)] at hh
      rw [lfN_out hh, sgt_den rb]
      rcases (by grind : nrm a b c < 0 ∨ 0 < nrm a b c) with n | n
      · rw [sgN_neg n]
      · rw [sgN_pos n]
        have ha : a ≠ 0 := by
          intro ha
          subst ha
          have := Rd.c0 R hb
          rcases R with ⟨h, _⟩ | ⟨_, hc, _⟩
          · exact absurd h hb
          · have := Rat.mul_pos (sq_pos hb) hc
            unfold nrm at n
            grind
        congr 2
        rcases c1 with ⟨k, e⟩ | ⟨k, e⟩ | ⟨k, e⟩
        · omega
        · exact absurd k ha
        · omega
theorem r_sign (R : Rd b c) (h : z16q w v a b c) (l : LimR 3000 a b c) : Calls Tryz.prog 59 #[v] w fun e w' => e = .returned (.int .i64 (sgN a b c)) ∧ Ext w w' := by
  refine (walk1 (l := [a, b, c]) (tab := []) (x := aR 0) (T := .ite (.eq (sgt (qv 0)) (sgt (qv 1))) (lfN (sgt (qv 0))) (.ite (zt (qv 1)) (lfN (sgt (qv 0))) (.ite (zt (qv 0)) (lfN (sgt (qv 1))) (.ite (.lt (.lit 0) (sgt (qop 1 (qop 2 (qv 0) (qv 0)) (qop 2 (qop 2 (qv 1) (qv 1)) (qv 2))))) (lfN (sgt (qv 0))) (lfN (sgt (qv 1)))))))
    Tryz.func59 (by decide +kernel) .nil z8q (by kernel_rfl) (by decide +kernel) rfl w v (fun _ => aR_holds h l)).mono ?_
  rintro e w' ⟨β, y, rfl, hh, ex⟩
  have ra : RepQ (qE [a, b, c]) (qv 0) a := rep_v (i := 0)
  have rb : RepQ (qE [a, b, c]) (qv 1) b := rep_v (i := 1)
  have rc : RepQ (qE [a, b, c]) (qv 2) c := rep_v (i := 2)
  have e1 : (BT.eq (sgt (qv 0)) (sgt (qv 1))).den (qE [a, b, c]) = decide (sgQ a = sgQ b) := by
    show ((sgt (qv 0)).den (qE [a, b, c]) == (sgt (qv 1)).den (qE [a, b, c])) = _
    rw [sgt_den ra, sgt_den rb, Bool.eq_iff_iff, beq_iff_eq, decide_eq_true_iff]
  have e2 : (BT.lt (.lit 0) (sgt (qop 1 (qop 2 (qv 0) (qv 0)) (qop 2 (qop 2 (qv 1) (qv 1)) (qv 2))))).den (qE [a, b, c]) = decide (0 < nrm a b c) := by
    show decide (0 < (sgt _).den (qE [a, b, c])) = _
    rw [sgt_den (rep_sub (rep_mul ra ra) (rep_mul (rep_mul rb rb) rc)), Bool.eq_iff_iff, decide_eq_true_iff, decide_eq_true_iff]
    show 0 < sgQ (nrm a b c) ↔ _
    rcases sgQ_cases (nrm a b c) with ⟨k, e⟩ | ⟨k, e⟩ | ⟨k, e⟩ <;> rw [e] <;> constructor <;> intro j <;> first | omega | grind
  rw [ite_pick e1, ite_pick (zt_den rb), ite_pick (zt_den ra), ite_pick e2] at hh
  refine ⟨?_, ex⟩
  have c1 := sgQ_cases a
  have c2 := sgQ_cases b
  have s0 : b = 0 → sgN a b c = sgQ a := by
    intro hb
    have hc : c = 0 := by
      rcases R with ⟨_, h⟩ | ⟨h, _⟩
      · exact h
      · exact absurd hb h
    subst hb hc
    by_cases ha : a = 0
    · subst ha; rw [sgN_zero (by unfold nrm; grind)]; rfl
    · rw [sgN_pos (by have := sq_pos ha; unfold nrm; grind)]
  by_cases hab : sgQ a = sgQ b
  · rw [decide_eq_true hab, if_pos rfl] at hh
    rw [lfN_out hh, sgt_den ra]
    by_cases hb : b = 0
    · rw [s0 hb]
    · have hne : nrm a b c ≠ 0 := fun e => hb (nrm_ne R e).2
      rcases (by grind : nrm a b c < 0 ∨ 0 < nrm a b c) with n | n
      · rw [sgN_neg n, hab]
      · rw [sgN_pos n]
  · rw [decide_eq_false hab, if_neg (by decide)] at hh
    by_cases hb : b = 0
    · rw [decide_eq_true hb, if_pos rfl] at hh
      rw [lfN_out hh, sgt_den ra, s0 hb]
    · rw [decide_eq_false hb, if_neg (by decide)] at hh
      have hne : nrm a b c ≠ 0 := fun e => hb (nrm_ne R e).2
      by_cases ha : a = 0
      · rw [decide_eq_true ha, if_pos rfl] at hh
        rw [lfN_out hh, sgt_den rb]
        have n : nrm a b c < 0 := by
          rcases R with ⟨h, _⟩ | ⟨_, hc, _⟩
          · exact absurd h hb
          · have := Rat.mul_pos (sq_pos hb) hc
            unfold nrm
            rw [ha]
            grind
        rw [sgN_neg n]
      · rw [decide_eq_false ha, if_neg (by decide)] at hh
        by_cases n : 0 < nrm a b c
        · rw [decide_eq_true n, if_pos rfl] at hh
          rw [lfN_out hh, sgt_den ra, sgN_pos n]
        · rw [decide_eq_false n, if_neg (by decide)] at hh
          rw [lfN_out hh, sgt_den rb, sgN_neg (by grind)]
end
end Go.Proofs.YtifeacfljfmnpaaGreat
end

section
set_option maxRecDepth 100000
namespace Go.Proofs.YtifeacfljfmnpaaGreat
open Go.RowKit
def rdA (rd : Bool) (G : Asm) (B C : IT2) : Bool := !rd || (rdT B C).ev G == some true
theorem rdA_spec {E : Env} {G : Asm} (hG : G.holds E) {B C : IT2} {b c : Rat} (hB : RepQ E B b) (hC : RepQ E C c) {rd : Bool} (h : rdA rd G B C = true) : rd = true → Rd b c := by
  intro hr
  subst hr
  exact rdT_spec hG hB hC (by simpa [rdA] using h)
def kRSc (rd : Bool) : Con
  | [x, y], G => match rtOf x, qOf y with
    | some ((A, B, C), m), some (K, j) => if rdA rd G B C && (decide (m ≤ 20000) && decide (j ≤ 20000)) then some (.val true (rt (qop 2 A K) (qop 2 B K) (qop 5 (qop 2 B K) C) (4 * max m j + 1))) else none
    | _, _ => none
  | _, _ => none
theorem kRSc_ok {E : Env} (hE : QEnv E) {f : Nat} {rd : Bool} (hc : ∀ (w : World) (v u : Value) (a b c k : Rat), (rd = true → Rd b c) → z16q w v a b c → IsRat w u k → LimR 20000 a b c → LimQ 20000 k → Calls Tryz.prog f #[v, u] w (Ret (fun x w' => z16q w' x (a * k) (b * k) (rC (b * k) c)) w))
    (hb : ∃ fn, Tryz.prog.funcs[f]? = some fn ∧ fn.name ≠ "runtime.NumGoroutine" ∧ fn.body.isNone = false) : ConOK Tryz.prog E f (kRSc rd) := by
  refine ⟨?_, ?_, hb⟩
  · intro args G r h hG β w vs hv hlen
    unfold kRSc at h
    split at h
    · split at h
      · rename_i x y A B C m K j hx hy
        split at h
        · rename_i hcd
          simp only [Bool.and_eq_true, decide_eq_true_iff] at hcd
          injection h with h
          subst h
          obtain ⟨v, u, rfl, h1, h2⟩ := args2 hv hlen
          obtain ⟨a, b, c, ra, rb, rc, ir, lr⟩ := rtOf_spec hE hx h1
          obtain ⟨k, rk, iq, lq⟩ := qOf_spec hE hy h2
          refine (hc w v u a b c k (rdA_spec hG rb rc hcd.1) ir iq (lr.mono hcd.2.1) (lq.mono hcd.2.2)).mono ?_
          rintro e w' ⟨x', rfl, hr, ex⟩
          have lr' := lr.mono (Nat.le_max_left m j)
          have lq' := lq.mono (Nat.le_max_right m j)
          exact ⟨x', rfl, (one_rt (rep_mul ra rk) (rep_mul rb rk) (rep_rC (rep_mul rb rk) rc)).2 ⟨hr, lr'.1.mulQ lq', lr'.2.1.mulQ lq', LimQ.rC (lr'.2.2.mono (by omega)) (by omega)⟩, ex⟩
        · cases h
      · cases h
    · cases h
  · intro args G r h x off
    unfold kRSc at h
    split at h
    · split at h
      · split at h
        · injection h with h; subst h; intro e; cases e
        · cases h
      · cases h
    · cases h
def kRNg (rd : Bool) : Con
  | [x], G => match rtOf x with
    | some ((A, B, C), m) => if rdA rd G B C && decide (m ≤ 3000) then some (.val true (rt (qng A) (qng B) C m)) else none
    | _ => none
  | _, _ => none
def sgnT (A B C : IT2) : IT := (qop 8 A (qop 7 B C)).1
theorem sgnT_den {E : Env} {A B C : IT2} {a b c : Rat} (hA : RepQ E A a) (hB : RepQ E B b) (hC : RepQ E C c) (R : Rd b c) : (sgnT A B C).den E = sgN a b c := by
  have r : RepQ E (qop 8 A (qop 7 B C)) (ratF 8 a (sq2 b c)) := rep_op (f := 8) (by omega) hA (rep_sq2 hB hC)
  show (qop 8 A (qop 7 B C)).1.den E = _
  rw [r.1]
  show ((sgS a (sq2 b c) : Int) : Rat).num = _
  rw [Rat.num_intCast, sgS_sgN R]
def kRSg : Con
  | [x], G => match rtOf x with
    | some ((A, B, C), m) => if rdA true G B C && decide (m ≤ 3000) then some (.val false [.n .i64 (sgnT A B C)]) else none
    | _ => none
  | _, _ => none
theorem kRSg_ok {E : Env} (hE : QEnv E) {f : Nat} (hc : ∀ (w : World) (v : Value) (a b c : Rat), Rd b c → z16q w v a b c → LimR 3000 a b c → Calls Tryz.prog f #[v] w fun e w' => e = .returned (.int .i64 (sgN a b c)) ∧ Ext w w')
    (hb : ∃ fn, Tryz.prog.funcs[f]? = some fn ∧ fn.name ≠ "runtime.NumGoroutine" ∧ fn.body.isNone = false) : ConOK Tryz.prog E f kRSg := by
  refine ⟨?_, ?_, hb⟩
  · intro args G r h hG β w vs hv hlen
    unfold kRSg at h
    split at h
    · split at h
      · rename_i x A B C m hx
        split at h
        · rename_i hcd
          simp only [Bool.and_eq_true, decide_eq_true_iff] at hcd
          injection h with h
          subst h
          obtain ⟨v, rfl, h1⟩ := args1 hv hlen
          obtain ⟨a, b, c, ra, rb, rc, ir, lr⟩ := rtOf_spec hE hx h1
          have R := rdA_spec hG rb rc hcd.1 rfl
          refine (hc w v a b c R ir (lr.mono hcd.2)).mono ?_
          rintro e w' ⟨rfl, ex⟩
          exact ⟨_, rfl, z9q.2 (by rw [sgnT_den ra rb rc R]), ex⟩
        · cases h
      · cases h
    · cases h
  · intro args G r h x off
    unfold kRSg at h
    split at h
    · split at h
      · split at h
        · injection h with h; subst h; intro e; cases e
        · cases h
      · cases h
    · cases h
end Go.Proofs.YtifeacfljfmnpaaGreat
end

section
set_option maxRecDepth 100000
namespace Go.Proofs.YtifeacfljfmnpaaGreat
open Go.RowKit
section
variable {a b c a' b' c' : Rat} {x x' y : Tree} {β : Nat → Nat} {w w' : World} {v u : Value}
end
theorem rep_dv {E : Env} {p q : IT2} {a b : Rat} (hp : RepQ E p a) (hq : RepQ E q b) : RepQ E (qop 11 p q) (a / b) := rep_op (f := 11) (by omega) hp hq
end Go.Proofs.YtifeacfljfmnpaaGreat
end

section
set_option maxRecDepth 100000
namespace Go.Proofs.YtifeacfljfmnpaaGreat
open Go.RowKit
def nrmT (A B C : IT2) : IT2 := qop 1 (qop 2 A A) (qop 2 (qop 2 B B) C)
theorem rep_nrm {E : Env} {A B C : IT2} {a b c : Rat} (ra : RepQ E A a) (rb : RepQ E B b) (rc : RepQ E C c) : RepQ E (nrmT A B C) (nrm a b c) := rep_sub (rep_mul ra ra) (rep_mul (rep_mul rb rb) rc)
theorem eq0_den {E : Env} {p : IT2} {q : Rat} (h : RepQ E p q) : (BT.eq p.1 (.lit 0)).den E = decide (q = 0) := by
  show (p.1.den E == 0) = _
  rw [h.1, Bool.eq_iff_iff, beq_iff_eq, decide_eq_true_iff, Rat.num_eq_zero]
theorem sgN_eq0 {a b c : Rat} (R : Rd b c) : sgN a b c = 0 ↔ nrm a b c = 0 := by
  constructor
  · intro h
    refine Decidable.byContradiction fun hn => ?_
    rcases (by grind : nrm a b c < 0 ∨ 0 < nrm a b c) with n | n
    · rw [sgN_neg n] at h
      rcases sgQ_cases b with ⟨_, e⟩ | ⟨k, _⟩ | ⟨_, e⟩
      · omega
      · rcases R with ⟨_, hc⟩ | ⟨hb, _⟩
        · unfold nrm at n
          rw [k] at n
          have := sq_nonneg a
          grind
        · exact hb k
      · omega
    · rw [sgN_pos n] at h
      rcases sgQ_cases a with ⟨_, e⟩ | ⟨k, _⟩ | ⟨_, e⟩
      · omega
      · rcases R with ⟨hb, hc⟩ | ⟨hb, hc, _⟩
        · subst k hb hc; unfold nrm at n; grind
        · have := Rat.mul_pos (sq_pos hb) hc
          unfold nrm at n
          rw [k] at n
          grind
      · omega
  · intro h; exact sgN_zero h
section
variable {w : World} {v u : Value} {a b c : Rat}
theorem rep3 : RepQ (qE [a, b, c]) (qv 0) a ∧ RepQ (qE [a, b, c]) (qv 1) b ∧ RepQ (qE [a, b, c]) (qv 2) c := ⟨rep_v (i := 0), rep_v (i := 1), rep_v (i := 2)⟩
def flN (a b c : Rat) : Int := flS a (sq2 b c)
theorem num_den (q : Rat) : q * ((q.den : Int) : Rat) = (q.num : Rat) := by
  have h := Rat.num_divInt_den q
  have hd : ((q.den : Int) : Rat) ≠ 0 := fun e => by
    have := Rat.intCast_eq_zero_iff.1 e
    have := q.den_pos
    omega
  have h2 : q = (q.num : Rat) / ((q.den : Int) : Rat) := by rw [← Rat.divInt_eq_div, h]
  have := Rat.div_mul_cancel (a := (q.num : Rat)) hd
  rw [← h2] at this
  exact this
theorem den_posI (q : Rat) : (0 : Int) < (q.den : Int) := by have := q.den_pos; omega
theorem flN_spec (R : Rd b c) : IsFl a b c (flN a b c) := by
  unfold flN flS
  rcases R with ⟨rfl, rfl⟩ | ⟨hb, hc, hs⟩
  · have e : sq2 0 0 = 0 := by unfold sq2; rw [if_neg (by decide)]; grind
    rw [e, if_pos (show (0 : Rat).num = 0 from rfl), dq_pos (den_posI a), ← Rat.floor_def]
    exact IsFl.zero
  · have hbc := Rat.mul_pos (sq_pos hb) hc
    have hnz : (sq2 b c).num ≠ 0 := by
      rw [ne_eq, Rat.num_eq_zero]
      unfold sq2
      split <;> grind
    rw [if_neg hnz]
    have hn := num_pos_iff b
    have hbn : (sq2 b c).num < 0 ↔ b < 0 := by
      have h1 := num_pos_iff (sq2 b c)
      have h2 := num_pos_iff (b * b * c)
      have hn2 : b.num = 0 ↔ b = 0 := Rat.num_eq_zero
      unfold sq2 at *
      by_cases h : b.num < 0
      · rw [if_pos h] at *
        rw [Rat.neg_num]
        have := h2.2 hbc
        constructor
        · intro _; grind
        · intro _; omega
      · rw [if_neg h] at *
        have := h2.2 hbc
        constructor
        · intro k; omega
        · intro k; grind
    have habs : ((sq2 b c).num.natAbs : Int) = (b * b * c).num ∧ ((sq2 b c).den : Int) = ((b * b * c).den : Int) := by
      have := (num_pos_iff (b * b * c)).2 hbc
      unfold sq2
      split
      · rw [Rat.neg_num, Rat.neg_den]; omega
      · exact ⟨by omega, rfl⟩
    rw [habs.1, habs.2]
    have e : (if (sq2 b c).num < 0 then -(isq ((b * b * c).num * ((b * b * c).den : Int) * ((a.den : Int) * (a.den : Int))) + 1) else isq ((b * b * c).num * ((b * b * c).den : Int) * ((a.den : Int) * (a.den : Int)))) = (if b < 0 then -(isq ((b * b * c).num * ((b * b * c).den : Int) * ((a.den : Int) * (a.den : Int))) + 1) else isq ((b * b * c).num * ((b * b * c).den : Int) * ((a.den : Int) * (a.den : Int)))) := by
      by_cases h : b < 0
      · rw [if_pos h, if_pos (hbn.2 h)]
      · rw [if_neg h, if_neg (fun k => h (hbn.1 k))]
    rw [e]
    have ea := num_den a
    have es := num_den (b * b * c)
    refine fl_spec hb hc hs (Int.mul_pos (den_posI a) (den_posI _)) ?_ ?_
    · simp only [castQ_mul]
      rw [← ea]; grind
    · simp only [castQ_mul]
      rw [← es]; grind
def flX : IT := .a2 2 (.var 0) (.a2 2 (.var 3) (.var 5))
def flD : IT := .a2 2 (.var 1) (.a2 2 (.var 3) (.var 5))
def flY : IT := .a2 2 (.a2 2 (.a2 2 (.var 2) (.var 1)) (.a2 2 (.var 2) (.var 1))) (.a2 2 (.var 4) (.var 5))
def lfI (t : IT) (l : Nat) : Tree := .leaf [(true, [.int t l])]
theorem lfI_out {E : Env} {β : Nat → Nat} {w : World} {v : Value} {t : IT} {l : Nat} (h : (toAV ((lfI t l).pick E)).holds E β w v) : IsInt w v (t.den E) ∧ Lim l (t.den E) := z10q.1 h
theorem ltz_den {E : Env} {p : IT2} {q : Rat} (h : RepQ E p q) : (BT.lt (sgt p) (.lit 0)).den E = decide (q < 0) := by
  show decide ((sgt p).den E < 0) = _
  rw [sgt_den h, Bool.eq_iff_iff, decide_eq_true_iff, decide_eq_true_iff]
  rcases sgQ_cases q with ⟨k, e⟩ | ⟨k, e⟩ | ⟨k, e⟩ <;> rw [e] <;> constructor <;> intro j <;> first | omega | grind
theorem fl0 (R : Rd b c) (hb : b = 0) : flN a b c = a.floor := by
  have hc : c = 0 := by
    rcases R with ⟨_, hc⟩ | ⟨hb', _⟩
    · exact hc
    · exact absurd hb hb'
  subst hb hc
  exact (flN_spec R).unique R IsFl.zero
theorem p_floor (R : Rd b c) (h : z16q w v a b c) (l : LimR 400 a b c) : Calls Tryz.prog 154 #[v] w (Ret (fun x w' => IsInt w' x (flN a b c) ∧ Lim 9000 (flN a b c)) w) := by
  obtain ⟨ra, rb, rc⟩ := rep3 (a := a) (b := b) (c := c)
  refine (walk1 (l := [a, b, c]) (tab := []) (x := aRl 0 400) (T := .ite (zt (qv 1)) (lfI (.a2 4 (.var 0) (.var 1)) 400) (.ite (.lt (sgt (qv 1)) (.lit 0)) (lfI (.a2 4 (.a2 0 flX (.a2 1 (.lit (-1)) (.a1 2 flY))) flD) 2402) (lfI (.a2 4 (.a2 0 flX (.a1 2 flY)) flD) 2401)))
    Tryz.func154 (by decide +kernel) .nil z8q (by kernel_rfl) (by decide +kernel) rfl w v (fun _ => aRl_holds h l)).mono ?_
  rintro e w' ⟨β, y, rfl, hh, ex⟩
  refine ⟨y, rfl, ?_, ex⟩
  rw [ite_pick (zt_den rb), ite_pick (ltz_den rb)] at hh
  by_cases hb : b = 0
  · rw [decide_eq_true hb, if_pos rfl] at hh
    obtain ⟨k1, k2⟩ := lfI_out hh
    have e1 : (IT.a2 4 (.var 0) (.var 1)).den (qE [a, b, c]) = flN a b c := by
      rw [fl0 R hb]
      show dq a.num (a.den : Int) = _
      rw [dq_pos (den_posI a), ← Rat.floor_def]
    rw [e1] at k1 k2
    exact ⟨k1, k2.mono (by omega)⟩
  · rw [decide_eq_false hb, if_neg (by decide)] at hh
    obtain ⟨hc, hs⟩ : 0 < c ∧ ∀ q : Rat, q * q ≠ c := by
      rcases R with ⟨hb', _⟩ | ⟨_, h⟩
      · exact absurd hb' hb
      · exact h
    have ea := num_den a
    have eb := num_den b
    have ec := num_den c
    have key := fl_spec (a := a) (b := b) (c := c) (x := a.num * ((b.den : Int) * (c.den : Int))) (D := (a.den : Int) * ((b.den : Int) * (c.den : Int))) (Y := b.num * (a.den : Int) * (b.num * (a.den : Int)) * (c.num * (c.den : Int))) hb hc hs (Int.mul_pos (den_posI a) (Int.mul_pos (den_posI b) (den_posI c)))
      (by simp only [castQ_mul]; rw [← ea]; grind) (by simp only [castQ_mul]; rw [← eb, ← ec]; grind)
    have hu := key.unique R (flN_spec R)
    by_cases hn : b < 0
    · rw [decide_eq_true hn, if_pos rfl] at hh
      obtain ⟨k1, k2⟩ := lfI_out hh
      rw [if_pos hn] at hu
      have e1 : (IT.a2 4 (.a2 0 flX (.a2 1 (.lit (-1)) (.a1 2 flY))) flD).den (qE [a, b, c]) = flN a b c := by
        rw [← hu]
        show dq (a.num * ((b.den : Int) * (c.den : Int)) + (-1 - isq (b.num * (a.den : Int) * (b.num * (a.den : Int)) * (c.num * (c.den : Int))))) ((a.den : Int) * ((b.den : Int) * (c.den : Int))) = _
        congr 2
        omega
      rw [e1] at k1 k2
      exact ⟨k1, k2.mono (by omega)⟩
    · rw [decide_eq_false hn, if_neg (by decide)] at hh
      obtain ⟨k1, k2⟩ := lfI_out hh
      rw [if_neg hn] at hu
      have e1 : (IT.a2 4 (.a2 0 flX (.a1 2 flY)) flD).den (qE [a, b, c]) = flN a b c := hu
      rw [e1] at k1 k2
      exact ⟨k1, k2.mono (by omega)⟩
end
end Go.Proofs.YtifeacfljfmnpaaGreat
end

section
set_option maxRecDepth 100000
namespace Go.Proofs.YtifeacfljfmnpaaGreat
open Go.RowKit
def kRIv : Con
  | [x], G => match rtOf x with
    | some ((A, B, C), m) => if rdA true G B C && decide (m ≤ 300) then
        match (BT.eq (nrmT A B C).1 (.lit 0)).ev G with
        | some false => some (.tup [(true, rt (qop 11 A (nrmT A B C)) (qng (qop 11 B (nrmT A B C))) C (58 * m + 19)), (false, [.n .i64 (.lit 0)])])
        | some true => some (.tup (bad6 6))
        | none => none
      else none
    | _ => none
  | _, _ => none
theorem LimQ.nrm {m : Nat} {a b c : Rat} (l : LimR m a b c) : LimQ (28 * m + 9) (nrm a b c) := by
  have h1 := l.1.mulQ l.1
  have h2 := l.2.1.mulQ l.2.1
  obtain ⟨h3, h4⟩ := LimQ.mul h2.1 h2.2 l.2.2.1 l.2.2.2
  obtain ⟨h5, h6⟩ := LimQ.sub h1.1 h1.2 h3 h4
  exact ⟨h5.mono (by omega), h6.mono (by omega)⟩
theorem LimQ.divQ {l m : Nat} {a b : Rat} (h : LimQ l a) (k : LimQ m b) (hb : b ≠ 0) : LimQ (2 * l + 2 * m + 1) (a / b) := by
  obtain ⟨m1, m2⟩ := LimQ.div h.1 h.2 k.1 k.2
  have e2 : divD a b = ((a / b).den : Int) := by unfold divD; rw [if_neg hb]
  rw [e2] at m2
  exact ⟨m1.mono (by omega), m2.mono (by omega)⟩
theorem kRIv_ok {E : Env} (hE : QEnv E) {f : Nat} (hc : ∀ (w : World) (v : Value) (a b c : Rat), Rd b c → z16q w v a b c → LimR 300 a b c → Calls Tryz.prog f #[v] w (RetR w (nrm a b c ≠ 0) 6 (a / nrm a b c) (-(b / nrm a b c)) c))
    (hb : ∃ fn, Tryz.prog.funcs[f]? = some fn ∧ fn.name ≠ "runtime.NumGoroutine" ∧ fn.body.isNone = false) : ConOK Tryz.prog E f kRIv := by
  refine ⟨?_, ?_, hb⟩
  · intro args G r h hG β w vs hv hlen
    unfold kRIv at h
    split at h
    · split at h
      · rename_i x A B C m hx
        split at h
        · rename_i hcd
          simp only [Bool.and_eq_true, decide_eq_true_iff] at hcd
          obtain ⟨v, rfl, h1⟩ := args1 hv hlen
          obtain ⟨a, b, c, ra, rb, rc, ir, lr⟩ := rtOf_spec hE hx h1
          have R := rdA_spec hG rb rc hcd.1 rfl
          have key := hc w v a b c R ir (lr.mono hcd.2)
          have rn := rep_nrm ra rb rc
          split at h
          · rename_i ho
            have hz := BT.ev_spec hG ho
            rw [eq0_den rn, decide_eq_false_iff_not] at hz
            injection h with h
            subst h
            refine key.mono ?_
            rintro e w' ⟨k1, _⟩
            obtain ⟨x', rfl, hr, ex⟩ := k1 hz
            have ln := LimQ.nrm lr
            exact ⟨_, rfl, ⟨[x', .int .i64 0], rfl, x', _, rfl, (one_rt (rep_dv ra rn) (rep_ng (rep_dv rb rn)) rc).2 ⟨hr, (lr.1.divQ ln hz).mono (by omega), ((lr.2.1.divQ ln hz).negQ).mono (by omega), lr.2.2.mono (by omega)⟩, _, _, rfl, z9q.2 rfl, rfl⟩, ex⟩
          · rename_i ho
            have hz := BT.ev_spec hG ho
            rw [eq0_den rn, decide_eq_true_iff] at hz
            injection h with h
            subst h
            refine key.mono ?_
            rintro e w' ⟨_, k1⟩
            obtain ⟨x', rfl, hr, ex⟩ := k1 (fun k => k hz)
            exact ⟨_, rfl, ⟨[x', .int .i64 6], rfl, x', _, rfl, hr E, _, _, rfl, z9q.2 rfl, rfl⟩, ex⟩
          · cases h
        · cases h
      · cases h
    · cases h
  · intro args G r h x off
    unfold kRIv at h
    split at h
    · split at h
      · split at h
        · split at h
          · injection h with h; subst h; intro e; cases e
          · injection h with h; subst h; intro e; cases e
          · cases h
        · cases h
      · cases h
    · cases h
def floT (A B C : IT2) : IT := (qop 9 A (qop 7 B C)).1
theorem floT_den {E : Env} {A B C : IT2} {a b c : Rat} (hA : RepQ E A a) (hB : RepQ E B b) (hC : RepQ E C c) : (floT A B C).den E = flN a b c := by
  have r : RepQ E (qop 9 A (qop 7 B C)) (ratF 9 a (sq2 b c)) := rep_op (f := 9) (by omega) hA (rep_sq2 hB hC)
  show (qop 9 A (qop 7 B C)).1.den E = _
  rw [r.1]
  show ((flS a (sq2 b c) : Int) : Rat).num = _
  rw [Rat.num_intCast]; rfl
def sqT (x : IT) : BT := .and (.eq (.a1 3 x) (.lit 0)) (.eq (.a2 2 (.a1 2 x) (.a1 2 x)) x)
theorem sqT_den {E : Env} {x : IT} : (sqT x).den E = sqB (x.den E) := by
  show (isqE (x.den E) == 0 && (isq (x.den E) * isq (x.den E) == x.den E)) = _
  unfold sqB
  congr 1
  rw [Bool.eq_iff_iff, beq_iff_eq, beq_iff_eq]
  rcases z2q (isq (x.den E) * isq (x.den E)) (x.den E) with ⟨h, e⟩ | ⟨h, e⟩ | ⟨h, e⟩ <;> rw [e] <;> omega
def kSqQ : Con
  | [.val true [.int x l, .int y m]], G => if decide (l ≤ 100000) && decide (m ≤ 100000) then
      match (BT.and (sqT x) (sqT y)).ev G with
      | some true => some (.tup [(true, [.int (IT.a1 2 x).fold l, .int (IT.a1 2 y).fold m]), (false, [.b (.lit true)])])
      | some false => some (.tup [(true, [.int (.lit 0) 0, .int (.lit 0) 0]), (false, [.b (.lit false)])])
      | none => none
    else none
  | _, _ => none
theorem kSqQ_ok {E : Env} {f : Nat} (hc : ∀ (w : World) (v : Value) (n d : Int), IsPair w v n d → Lim 100000 n → Lim 100000 d → Calls Tryz.prog f #[v] w (RetSqQ n d w))
    (hb : ∃ fn, Tryz.prog.funcs[f]? = some fn ∧ fn.name ≠ "runtime.NumGoroutine" ∧ fn.body.isNone = false) : ConOK Tryz.prog E f kSqQ := by
  refine ⟨?_, ?_, hb⟩
  · intro args G r h hG β w vs hv hlen
    unfold kSqQ at h
    split at h
    · rename_i x l y m
      split at h
      · rename_i hcd
        simp only [Bool.and_eq_true, decide_eq_true_iff] at hcd
        obtain ⟨v, rfl, h1⟩ := args1 hv hlen
        obtain ⟨p1, a1, a2⟩ := one_pair.1 h1
        have key := hc w v _ _ p1 (a1.mono hcd.1) (a2.mono hcd.2)
        have ed : (BT.and (sqT x) (sqT y)).den E = (sqB (x.den E) && sqB (y.den E)) := by
          show ((sqT x).den E && (sqT y).den E) = _
          rw [sqT_den, sqT_den]
        split at h
        · rename_i ho
          have hs := BT.ev_spec hG ho
          rw [ed] at hs
          injection h with h
          subst h
          refine key.mono ?_
          rintro e w' ⟨u, rfl, hp, ex⟩
          unfold sqN at hp
          rw [hs] at hp ⊢
          rw [if_pos rfl, if_pos rfl] at hp
          refine ⟨_, rfl, ⟨[u, .bool true], rfl, u, _, rfl, one_pair.2 ?_, _, _, rfl, z11q.2 rfl, rfl⟩, ex⟩
          rw [IT.fold_den, IT.fold_den]
          exact ⟨hp, isq_lim a1, isq_lim a2⟩
        · rename_i ho
          have hs := BT.ev_spec hG ho
          rw [ed] at hs
          injection h with h
          subst h
          refine key.mono ?_
          rintro e w' ⟨u, rfl, hp, ex⟩
          unfold sqN at hp
          rw [hs] at hp ⊢
          rw [if_neg (by decide), if_neg (by decide)] at hp
          exact ⟨_, rfl, ⟨[u, .bool false], rfl, u, _, rfl, one_pair.2 ⟨hp, lim_zero, lim_zero⟩, _, _, rfl, z11q.2 rfl, rfl⟩, ex⟩
        · cases h
      · cases h
    · cases h
  · intro args G r h x off
    unfold kSqQ at h
    split at h
    · split at h
      · split at h
        · injection h with h; subst h; intro e; cases e
        · injection h with h; subst h; intro e; cases e
        · cases h
      · cases h
    · cases h
end Go.Proofs.YtifeacfljfmnpaaGreat
end

section
set_option maxRecDepth 100000
namespace Go.Proofs.YtifeacfljfmnpaaGreat
open Go.RowKit
abbrev RI := Bool × List Nat
def smN (n : Nat) (p q : RI) : Bool := decide (p.2.length ≤ n) && decide (q.2.length ≤ n) && okQ p.1 p.2 q.1 q.2
def rq (p q : RI) : Rat := Rat.divInt (sgn p.1 (val p.2)) (sgn q.1 (val q.2))
theorem smN_rat {n : Nat} {w : World} {v : Value} {p q : RI} (h : RawQ w v p.1 p.2 q.1 q.2) (hs : smN n p q = true) : IsRat w v (rq p q) ∧ LimQ n (rq p q) := by
  obtain ⟨s1, xs1⟩ := p
  obtain ⟨s2, xs2⟩ := q
  unfold smN okQ at hs
  simp only [Bool.and_eq_true, decide_eq_true_iff] at hs
  obtain ⟨⟨c1, c2⟩, ⟨⟨b1, b2⟩, b3⟩, b4⟩ := hs
  have hp := okQ_pair h b1 b2
  have m1 : Lim n (sgn s1 (val xs1)) := by obtain ⟨a, b, c, d, rfl, h1, h2⟩ := h; exact ok_lim h1 b1 c1
  have m2 : Lim n (sgn s2 (val xs2)) := by obtain ⟨a, b, c, d, rfl, h1, h2⟩ := h; exact ok_lim h2 b2 c2
  have hq : (rq (s1, xs1) (s2, xs2)).num = sgn s1 (val xs1) ∧ ((rq (s1, xs1) (s2, xs2)).den : Int) = sgn s2 (val xs2) := by
    unfold rq
    simp only
    generalize sgn s1 (val xs1) = n at *
    generalize sgn s2 (val xs2) = d at *
    have hd : ((d.natAbs : Nat) : Int) = d := by omega
    have e : Rat.divInt n d = ⟨n, d.natAbs, by omega, b4⟩ := by
      rw [Rat.mk_eq_divInt, hd]
    rw [e]
    exact ⟨rfl, hd⟩
  refine ⟨?_, ?_⟩
  · show IsPair w v (rq (s1, xs1) (s2, xs2)).num ((rq (s1, xs1) (s2, xs2)).den : Int)
    rw [hq.1, hq.2]; exact hp
  · refine ⟨?_, ?_⟩
    · rw [hq.1]; exact m1
    · rw [hq.2]; exact m2
def kRVN (n : Nat) : Con
  | [.val true [.raw i, .raw j]], G => if i % 2 == 0 && (j == i + 1 && (decide (n ≤ 100000) && (G.find (.le (.rlen i) (.lit (n : Int))) == some true && G.find (.le (.rlen j) (.lit (n : Int))) == some true))) then some (.val false [.b (.var (i / 2))]) else none
  | _, _ => none
theorem kRVN_ok {n : Nat} {E : Env} (hE : VEnv E) {f : Nat} (hc : ∀ (w : World) (v : Value) (s1 s2 : Bool) (xs1 xs2 : List Nat), RawQ w v s1 xs1 s2 xs2 → xs1.length ≤ 100000 → xs2.length ≤ 100000 → Calls Tryz.prog f #[v] w fun e w' => e = .returned (.bool (okQ s1 xs1 s2 xs2)) ∧ Ext w w')
    (hb : ∃ fn, Tryz.prog.funcs[f]? = some fn ∧ fn.name ≠ "runtime.NumGoroutine" ∧ fn.body.isNone = false) : ConOK Tryz.prog E f (kRVN n) := by
  refine ⟨?_, ?_, hb⟩
  · intro args As r h hG β w vs hv hlen
    unfold kRVN at h
    split at h
    · rename_i i j
      split at h
      · rename_i hlo
        injection h with h
        subst h
        simp only [Bool.and_eq_true, beq_iff_eq, decide_eq_true_iff] at hlo
        obtain ⟨hi, rfl, hn, b1, b2⟩ := hlo
        have c1 := of_decide_eq_true (Asm.find_spec hG b1)
        have c2 := of_decide_eq_true (Asm.find_spec hG b2)
        simp only [IT.den] at c1 c2
        obtain ⟨v, rfl, h1⟩ := args1 hv hlen
        refine (hc w v _ _ _ _ (one_raw2 h1) (by omega) (by omega)).mono ?_
        rintro e w' ⟨rfl, ex⟩
        exact ⟨_, rfl, z11q.2 (by rw [← hE i hi]; rfl), ex⟩
      · cases h
    · cases h
  · intro args As r h x off
    unfold kRVN at h
    split at h
    · split at h
      · injection h with h; subst h; intro e; cases e
      · cases h
    · cases h
theorem two_raws {E : Env} {w : World} {i j : Nat} {cs : List Chunk} {vs : List Value} :
    chunks E w (.raw i :: .raw j :: cs) vs ↔ ∃ x r, vs = x ++ r ∧ RawQ w (.agg x.toArray) (E.r i).1 (E.r i).2 (E.r j).1 (E.r j).2 ∧ chunks E w cs r := by
  constructor
  · rintro ⟨u0, r0, rfl, ⟨x0, y0, rfl, i0⟩, u1, r1, rfl, ⟨x1, y1, rfl, i1⟩, h⟩
    exact ⟨[x0, y0, x1, y1], r1, rfl, ⟨x0, y0, x1, y1, rfl, i0, i1⟩, h⟩
  · rintro ⟨x, r, rfl, ⟨x0, y0, x1, y1, hx, i0, i1⟩, h⟩
    injection hx with hx
    have hx' : x = [x0, y0, x1, y1] := congrArg Array.toList hx
    subst hx'
    exact ⟨[x0, y0], [x1, y1] ++ r, rfl, ⟨x0, y0, rfl, i0⟩, [x1, y1], r, rfl, ⟨x1, y1, rfl, i1⟩, h⟩
def kVl : Con
  | [x], _ => match qOf x with
    | some (_, m) => if decide (m ≤ 100000) then some (.val false [.b (.lit true)]) else none
    | none => none
  | _, _ => none
theorem rat_raw {w : World} {v : Value} {q : Rat} (h : IsRat w v q) : RawQ w v (decide (q.num < 0)) (limbs q.num.natAbs) (decide ((q.den : Int) < 0)) (limbs (q.den : Int).natAbs) ∧ okQ (decide (q.num < 0)) (limbs q.num.natAbs) (decide ((q.den : Int) < 0)) (limbs (q.den : Int).natAbs) = true := by
  obtain ⟨x0, x1, x2, x3, rfl, i1, i2⟩ := h
  obtain ⟨k1, k2⟩ := int_raw i1
  obtain ⟨k3, k4⟩ := int_raw i2
  refine ⟨⟨_, _, _, _, rfl, k1, k3⟩, ?_⟩
  have e3 : sgn (decide (q.num < 0)) (val (limbs q.num.natAbs)) = q.num := by rw [z1q]; exact sgn_self q.num
  have e4 : sgn (decide ((q.den : Int) < 0)) (val (limbs (q.den : Int).natAbs)) = (q.den : Int) := by rw [z1q]; exact sgn_self (q.den : Int)
  unfold okQ
  rw [k2, k4, e3, e4, decide_eq_true (show 0 < (q.den : Int) by have := q.den_pos; omega)]
  rw [decide_eq_true (show Nat.gcd q.num.natAbs (q.den : Int).natAbs = 1 from q.reduced)]
  rfl
theorem kVl_ok {E : Env} (hE : QEnv E) {f : Nat} (hc : ∀ (w : World) (v : Value) (s1 s2 : Bool) (xs1 xs2 : List Nat), RawQ w v s1 xs1 s2 xs2 → xs1.length ≤ 100000 → xs2.length ≤ 100000 → Calls Tryz.prog f #[v] w fun e w' => e = .returned (.bool (okQ s1 xs1 s2 xs2)) ∧ Ext w w')
    (hb : ∃ fn, Tryz.prog.funcs[f]? = some fn ∧ fn.name ≠ "runtime.NumGoroutine" ∧ fn.body.isNone = false) : ConOK Tryz.prog E f kVl := by
  refine ⟨?_, ?_, hb⟩
  · intro args As r h hG β w vs hv hlen
    unfold kVl at h
    split at h
    · split at h
      · rename_i x A m hx
        split at h
        · rename_i hm
          rw [decide_eq_true_iff] at hm
          injection h with h
          subst h
          obtain ⟨v, rfl, h1⟩ := args1 hv hlen
          obtain ⟨a, ra, ia, la⟩ := qOf_spec hE hx h1
          obtain ⟨k1, k2⟩ := rat_raw ia
          refine (hc w v _ _ _ _ k1 (Nat.le_trans la.1 hm) (Nat.le_trans la.2 hm)).mono ?_
          rintro e w' ⟨rfl, ex⟩
          exact ⟨_, rfl, z11q.2 (by rw [k2]; rfl), ex⟩
        · cases h
      · cases h
    · cases h
  · intro args As r h x off
    unfold kVl at h
    split at h
    · split at h
      · split at h
        · injection h with h; subst h; intro e; cases e
        · cases h
      · cases h
    · cases h
end Go.Proofs.YtifeacfljfmnpaaGreat
end

section
set_option maxRecDepth 100000
namespace Go.Proofs.YtifeacfljfmnpaaGreat
open Go.ChangeShapes Go.WideShapes Go.ChangeAt Go.RowKit Go.Joins
theorem open_two {H : Type} {enc : TypeId × Value → H} {W : World} {base : Nat} {spare : Nat → Bool} {held : Bool} {v0 v1 : Value} {y : DataW H × List MemPlace} {n : Nat}
    (h : DataW.trod enc Tryz.prog W base spare held n 24 [v0, v1] = some y) : ∃ neg xs, Raw W (.agg #[v0, v1]) neg xs := by
  obtain ⟨y0, y1, n, hx, _, h0, h1⟩ := trod_struct2 Tryz.underlying24 h
  have cb : Tryz.prog.cellsOf 4 = 1 := by kernel_rfl
  have cs : Tryz.prog.cellsOf 22 = 1 := by kernel_rfl
  exact open_cells (v0 := v0) (v1 := v1) (by simpa [cb] using h0) (by simpa [cs] using h1)
theorem open_rat4 {H : Type} {enc : TypeId × Value → H} {W : World} {base : Nat} {spare : Nat → Bool} {held : Bool} {c0 c1 c2 c3 : Value} {y : DataW H × List MemPlace} {n : Nat}
    (h : DataW.trod enc Tryz.prog W base spare held n 26 [c0, c1, c2, c3] = some y) : ∃ p q : RI, RawQ W (.agg #[c0, c1, c2, c3]) p.1 p.2 q.1 q.2 := by
  have k2 : Tryz.prog.cellsOf 24 = 2 := by kernel_rfl
  obtain ⟨y0, y1, n, hx, _, h0, h1⟩ := trod_struct2 Tryz.underlying26 h
  obtain ⟨s1, xs1, w1⟩ := open_two (v0 := c0) (v1 := c1) (by simpa [Value.cells, k2] using h0)
  obtain ⟨s2, xs2, w2⟩ := open_two (v0 := c2) (v1 := c3) (by simpa [Value.cells, k2] using h1)
  exact ⟨(s1, xs1), (s2, xs2), c0, c1, c2, c3, rfl, w1, w2⟩
theorem arr4 {cs : Array Value} (h : cs.size = 4) : ∃ c0 c1 c2 c3, cs = #[c0, c1, c2, c3] := by
  obtain ⟨l⟩ := cs
  have h' : l.length = 4 := h
  match l, h' with
  | [c0, c1, c2, c3], _ => exact ⟨c0, c1, c2, c3, rfl⟩
theorem open_rq {H : Type} {enc : TypeId × Value → H} {W : World} {b0 base : Nat} {spare : Nat → Bool} {held : Bool} {r : Reach} {v : Value} {d : DataW H} {p : List MemPlace}
    (hv : Value.okWide Tryz.prog W r b0 26 v) (h : DataW.Trod enc Tryz.prog W base spare held 26 v d p) : ∃ p q : RI, RawQ W v p.1 p.2 q.1 q.2 := by
  obtain ⟨cs, rfl, hsz⟩ := okWide_struct Tryz.underlying26 hv
  have c4 : Tryz.prog.cellsOf 26 = 4 := by kernel_rfl
  obtain ⟨c0, c1, c2, c3, rfl⟩ := arr4 (hsz.trans c4)
  obtain ⟨fuel, hf⟩ := h
  exact open_rat4 (by simpa [Value.cells] using hf)
end Go.Proofs.YtifeacfljfmnpaaGreat
end

section
set_option maxRecDepth 100000
namespace Go.Proofs.YtifeacfljfmnpaaGreat
abbrev Sq := Nat → Rat
def Null (f : Sq) : Prop := ∀ e : Rat, 0 < e → ∃ K, ∀ k, K ≤ k → -e ≤ f k ∧ f k ≤ e
def PosS (f : Sq) : Prop := ∃ e : Rat, 0 < e ∧ ∃ K, ∀ k, K ≤ k → e ≤ f k
def Bdd (f : Sq) : Prop := ∃ b : Rat, 0 < b ∧ ∀ k, -b ≤ f k ∧ f k ≤ b
def HasSg (f : Sq) (s : Int) : Prop := (s = 1 ∧ PosS f) ∨ (s = 0 ∧ Null f) ∨ (s = -1 ∧ PosS fun k => - f k)
theorem le_tot (a b : Rat) : a ≤ b ∨ b ≤ a := Rat.le_total
theorem mul_le {a b x y : Rat} (ha : 0 ≤ a) (hx : a ≤ x) (hb : 0 ≤ b) (hy : b ≤ y) : a * b ≤ x * y := by
  have h1 : 0 ≤ (x - a) * y := Rat.mul_nonneg (by grind) (by grind)
  have h2 : 0 ≤ a * (y - b) := Rat.mul_nonneg ha (by grind)
  grind
theorem half_pos {e : Rat} (h : 0 < e) : 0 < e / 2 := by grind
theorem null_congr {f g : Sq} (h : ∀ k, f k = g k) (n : Null f) : Null g := by
  obtain rfl : f = g := funext h
  exact n
theorem pos_congr {f g : Sq} (h : ∀ k, f k = g k) (n : PosS f) : PosS g := by
  obtain rfl : f = g := funext h
  exact n
theorem HasSg.of_eq {f g : Sq} {s : Int} (n : HasSg f s) (h : ∀ k, f k = g k) : HasSg g s := by
  obtain rfl : f = g := funext h
  exact n
theorem null_add {f g : Sq} (h : Null f) (k : Null g) : Null fun n => f n + g n := by
  intro e he
  obtain ⟨K, hK⟩ := h (e / 2) (half_pos he)
  obtain ⟨L, hL⟩ := k (e / 2) (half_pos he)
  refine ⟨max K L, fun n hn => ?_⟩
  have := hK n (by omega)
  have := hL n (by omega)
  grind
theorem null_neg {f : Sq} (h : Null f) : Null fun n => - f n := by
  intro e he
  obtain ⟨K, hK⟩ := h e he
  exact ⟨K, fun n hn => by have := hK n hn; grind⟩
theorem abs_mul_le {b e x y : Rat} (_ : 0 < b) (_ : 0 < e) (h1 : -b ≤ x) (h2 : x ≤ b) (h3 : -e ≤ y) (h4 : y ≤ e) : -(b * e) ≤ x * y ∧ x * y ≤ b * e := by
  have k1 : 0 ≤ (b - x) * (e + y) := Rat.mul_nonneg (by grind) (by grind)
  have k2 : 0 ≤ (b + x) * (e - y) := Rat.mul_nonneg (by grind) (by grind)
  have k3 : 0 ≤ (b - x) * (e - y) := Rat.mul_nonneg (by grind) (by grind)
  have k4 : 0 ≤ (b + x) * (e + y) := Rat.mul_nonneg (by grind) (by grind)
  grind
theorem div_pos' {e b : Rat} (he : 0 < e) (hb : 0 < b) : 0 < e / b := by
  rw [Rat.div_def]
  exact Rat.mul_pos he (Rat.inv_pos.2 hb)
theorem mul_div' {e b : Rat} (hb : 0 < b) : b * (e / b) = e := by
  have : b ≠ 0 := by grind
  grind
theorem null_mul {f g : Sq} (h : Bdd f) (k : Null g) : Null fun n => f n * g n := by
  intro e he
  obtain ⟨b, hb, hf⟩ := h
  obtain ⟨K, hK⟩ := k (e / b) (div_pos' he hb)
  refine ⟨K, fun n hn => ?_⟩
  have h1 := hK n hn
  have h2 := hf n
  have := abs_mul_le hb (div_pos' he hb) h2.1 h2.2 h1.1 h1.2
  rw [mul_div' hb] at this
  exact this
theorem null_zero : Null fun _ => 0 := fun e he => ⟨0, fun n _ => by grind⟩
theorem bdd_const (c : Rat) : Bdd fun _ => c := by
  rcases le_tot 0 c with h | h
  · exact ⟨c + 1, by grind, fun k => by grind⟩
  · exact ⟨1 - c, by grind, fun k => by grind⟩
theorem bdd_add {f g : Sq} (h : Bdd f) (k : Bdd g) : Bdd fun n => f n + g n := by
  obtain ⟨b, hb, h⟩ := h
  obtain ⟨c, hc, k⟩ := k
  exact ⟨b + c, by grind, fun n => by have := h n; have := k n; grind⟩
theorem bdd_neg {f : Sq} (h : Bdd f) : Bdd fun n => - f n := by
  obtain ⟨b, hb, h⟩ := h
  exact ⟨b, hb, fun n => by have := h n; grind⟩
theorem bdd_mul {f g : Sq} (h : Bdd f) (k : Bdd g) : Bdd fun n => f n * g n := by
  obtain ⟨b, hb, h⟩ := h
  obtain ⟨c, hc, k⟩ := k
  exact ⟨b * c, Rat.mul_pos hb hc, fun n => abs_mul_le hb hc (h n).1 (h n).2 (k n).1 (k n).2⟩
theorem bdd_congr {f g : Sq} (h : ∀ k, f k = g k) (n : Bdd f) : Bdd g := by
  obtain rfl : f = g := funext h
  exact n
theorem bdd_sub {f g : Sq} (h : Bdd f) (k : Bdd g) : Bdd fun n => f n - g n := bdd_congr (fun n => by grind) (bdd_add h (bdd_neg k))
theorem pos_add_null {f g : Sq} (h : PosS f) (k : Null g) : PosS fun n => f n + g n := by
  obtain ⟨e, he, K, hK⟩ := h
  obtain ⟨L, hL⟩ := k (e / 2) (half_pos he)
  refine ⟨e / 2, half_pos he, max K L, fun n hn => ?_⟩
  have := hK n (by omega)
  have := hL n (by omega)
  grind
theorem pos_add {f g : Sq} (h : PosS f) (k : PosS g) : PosS fun n => f n + g n := by
  obtain ⟨e, he, K, hK⟩ := h
  obtain ⟨e', he', L, hL⟩ := k
  refine ⟨e + e', by grind, max K L, fun n hn => ?_⟩
  have := hK n (by omega)
  have := hL n (by omega)
  grind
theorem pos_mul {f g : Sq} (h : PosS f) (k : PosS g) : PosS fun n => f n * g n := by
  obtain ⟨e, he, K, hK⟩ := h
  obtain ⟨e', he', L, hL⟩ := k
  refine ⟨e * e', Rat.mul_pos he he', max K L, fun n hn => ?_⟩
  exact mul_le (by grind) (hK n (by omega)) (by grind) (hL n (by omega))
theorem not_pos_null {f : Sq} (h : PosS f) (k : Null f) : False := by
  obtain ⟨e, he, K, hK⟩ := h
  obtain ⟨L, hL⟩ := k (e / 2) (half_pos he)
  have := hK (max K L) (by omega)
  have := hL (max K L) (by omega)
  grind
theorem not_pos_neg {f : Sq} (h : PosS f) (k : PosS fun n => - f n) : False := by
  obtain ⟨e, he, K, hK⟩ := h
  obtain ⟨e', he', L, hL⟩ := k
  have := hK (max K L) (by omega)
  have := hL (max K L) (by omega)
  grind
theorem not_negp_null {f : Sq} (h : PosS fun n => - f n) (k : Null f) : False := not_pos_null h (null_neg k)
theorem HasSg.unique {f : Sq} {s t : Int} (h : HasSg f s) (k : HasSg f t) : s = t := by
  rcases h with ⟨rfl, h⟩ | ⟨rfl, h⟩ | ⟨rfl, h⟩ <;> rcases k with ⟨rfl, k⟩ | ⟨rfl, k⟩ | ⟨rfl, k⟩ <;> first | rfl | exact (not_pos_null h k).elim | exact (not_pos_null k h).elim | exact (not_pos_neg h k).elim | exact (not_pos_neg k h).elim | exact (not_negp_null h k).elim | exact (not_negp_null k h).elim
theorem HasSg.neg {f : Sq} {s : Int} (h : HasSg f s) : HasSg (fun n => - f n) (-s) := by
  rcases h with ⟨rfl, h⟩ | ⟨rfl, h⟩ | ⟨rfl, h⟩
  · exact .inr (.inr ⟨rfl, pos_congr (fun k => by grind) h⟩)
  · exact .inr (.inl ⟨rfl, null_neg h⟩)
  · exact .inl ⟨rfl, h⟩
theorem HasSg.add_null {f g : Sq} {s : Int} (h : HasSg f s) (k : Null g) : HasSg (fun n => f n + g n) s := by
  rcases h with ⟨rfl, h⟩ | ⟨rfl, h⟩ | ⟨rfl, h⟩
  · exact .inl ⟨rfl, pos_add_null h k⟩
  · exact .inr (.inl ⟨rfl, null_add h k⟩)
  · exact .inr (.inr ⟨rfl, pos_congr (fun n => by grind) (pos_add_null h (null_neg k))⟩)
theorem HasSg.near {f g : Sq} {s : Int} (h : HasSg f s) (k : Null fun n => g n - f n) : HasSg g s := (h.add_null k).of_eq fun n => by grind
theorem HasSg.mul {f g : Sq} {s t : Int} (h : HasSg f s) (k : HasSg g t) (bf : Bdd f) (bg : Bdd g) : HasSg (fun n => f n * g n) (s * t) := by
  rcases h with ⟨rfl, h⟩ | ⟨rfl, h⟩ | ⟨rfl, h⟩
  · rcases k with ⟨rfl, k⟩ | ⟨rfl, k⟩ | ⟨rfl, k⟩
    · exact .inl ⟨rfl, pos_mul h k⟩
    · exact .inr (.inl ⟨rfl, null_mul bf k⟩)
    · exact .inr (.inr ⟨rfl, pos_congr (fun n => by grind) (pos_mul h k)⟩)
  · exact .inr (.inl ⟨by omega, null_congr (fun n => by grind) (null_mul bg h)⟩)
  · rcases k with ⟨rfl, k⟩ | ⟨rfl, k⟩ | ⟨rfl, k⟩
    · exact .inr (.inr ⟨rfl, pos_congr (fun n => by grind) (pos_mul h k)⟩)
    · exact .inr (.inl ⟨rfl, null_mul bf k⟩)
    · exact .inl ⟨rfl, pos_congr (fun n => by grind) (pos_mul h k)⟩
theorem pos_cancel {u v : Sq} (bu : Bdd u) (hu : PosS u) (h : PosS fun n => u n * v n) : PosS v := by
  obtain ⟨b, hb, hB⟩ := bu
  obtain ⟨e, he, K, hK⟩ := hu
  obtain ⟨e', he', L, hL⟩ := h
  refine ⟨e' / b, div_pos' he' hb, max K L, fun n hn => ?_⟩
  have h1 := hK n (by omega)
  have h2 : e' ≤ u n * v n := hL n (by omega)
  have h3 := hB n
  rcases le_tot (e' / b) (v n) with h | h
  · exact h
  · -- v n ≤ e'/b; u v ≥ e'
    have hv : 0 < v n := by
      rcases le_tot (v n) 0 with q | q
      · have : 0 ≤ u n * (- v n) := Rat.mul_nonneg (by grind) (by grind)
        grind
      · by_cases q0 : v n = 0
        · rw [q0] at h2; grind
        · grind
    have h5 : 0 ≤ (b - u n) * v n := Rat.mul_nonneg (by grind) (by grind)
    have h6 : b * (e' / b) = e' := mul_div' hb
    have h7 : 0 ≤ b * v n - b * (e' / b) := by grind
    by_cases q : v n = e' / b
    · grind
    · have : 0 < b * (e' / b - v n) := Rat.mul_pos hb (by grind)
      grind
theorem null_cancel {u v : Sq} (hu : PosS u) (h : Null fun n => u n * v n) : Null v := by
  obtain ⟨e, he, K, hK⟩ := hu
  intro d hd
  obtain ⟨L, hL⟩ := h (e * d) (Rat.mul_pos he hd)
  refine ⟨max K L, fun n hn => ?_⟩
  have h1 := hK n (by omega)
  have h2 := hL n (by omega)
  constructor
  · rcases le_tot (-d) (v n) with q | q
    · exact q
    · by_cases q0 : v n = -d
      · grind
      · have k1 : 0 < e * (-d - v n) := Rat.mul_pos he (by grind)
        have k2 : 0 ≤ (u n - e) * (- v n) := Rat.mul_nonneg (by grind) (by grind)
        grind
  · rcases le_tot (v n) d with q | q
    · exact q
    · by_cases q0 : v n = d
      · grind
      · have k1 : 0 < e * (v n - d) := Rat.mul_pos he (by grind)
        have k2 : 0 ≤ (u n - e) * (v n) := Rat.mul_nonneg (by grind) (by grind)
        grind
theorem HasSg.cancel {u v : Sq} {s : Int} (bu : Bdd u) (hu : PosS u) (h : HasSg (fun n => u n * v n) s) : HasSg v s := by
  rcases h with ⟨rfl, h⟩ | ⟨rfl, h⟩ | ⟨rfl, h⟩
  · exact .inl ⟨rfl, pos_cancel bu hu h⟩
  · exact .inr (.inl ⟨rfl, null_cancel hu h⟩)
  · exact .inr (.inr ⟨rfl, pos_cancel bu hu (pos_congr (fun n => by grind) h)⟩)
def sumSg (s t d : Int) : Int := if s = 0 then t else if t = 0 then s else if s = t then s else s * d
theorem HasSg.sum {f g : Sq} {s t d : Int} (h : HasSg f s) (k : HasSg g t) (bf : Bdd f) (bg : Bdd g) (hd : HasSg (fun n => f n * f n - g n * g n) d) : HasSg (fun n => f n + g n) (sumSg s t d) := by
  unfold sumSg
  rcases h with ⟨rfl, h⟩ | ⟨rfl, h⟩ | ⟨rfl, h⟩
  · rcases k with ⟨rfl, k⟩ | ⟨rfl, k⟩ | ⟨rfl, k⟩
    · exact .inl ⟨rfl, pos_add h k⟩
    · exact .inl ⟨rfl, pos_add_null h k⟩
    · rw [if_neg (by decide), if_neg (by decide), if_neg (by decide), Int.one_mul]
      refine HasSg.cancel (u := fun n => f n - g n) (bdd_sub bf bg) (pos_congr (fun n => by grind) (pos_add h k)) (hd.of_eq fun n => by grind)
  · rw [if_pos rfl]
    exact (k.add_null h).of_eq fun n => by grind
  · rcases k with ⟨rfl, k⟩ | ⟨rfl, k⟩ | ⟨rfl, k⟩
    · rw [if_neg (by decide), if_neg (by decide), if_neg (by decide)]
      have := HasSg.cancel (u := fun n => g n - f n) (v := fun n => f n + g n) (s := -d) (bdd_sub bg bf) (pos_congr (fun n => by grind) (pos_add h k)) (hd.neg.of_eq fun n => by grind)
      rw [show -1 * d = -d by omega]
      exact this
    · exact .inr (.inr ⟨rfl, pos_congr (fun n => by grind) (pos_add_null h (null_neg k))⟩)
    · exact .inr (.inr ⟨rfl, pos_congr (fun n => by grind) (pos_add h k)⟩)
def sgQ' (a : Rat) : Int := if 0 < a then 1 else if a = 0 then 0 else -1
theorem hasSg_const (a : Rat) : HasSg (fun _ => a) (sgQ' a) := by
  unfold sgQ'
  split
  · rename_i h; exact .inl ⟨rfl, a, h, 0, fun _ _ => by grind⟩
  · split
    · rename_i h; subst h; exact .inr (.inl ⟨rfl, null_zero⟩)
    · exact .inr (.inr ⟨rfl, -a, by grind, 0, fun _ _ => by grind⟩)
structure IsRt (c : Rat) (m : Sq) : Prop where
  nn : ∀ k, 0 ≤ m k
  le : ∀ k, m k * m k ≤ c
  lim : Null fun k => c - m k * m k
  low : ∀ (j : Nat), (j : Rat) * (j : Rat) ≤ c * (65536 * 65536) → ∀ k, (j : Rat) ≤ m k * 65536
theorem nat_sqrt (n : Nat) : ∃ t : Nat, t * t ≤ n ∧ n < (t + 1) * (t + 1) := by
  induction n with
  | zero => exact ⟨0, by omega, by omega⟩
  | succ n ih =>
    obtain ⟨t, h1, h2⟩ := ih
    by_cases h : n + 1 < (t + 1) * (t + 1)
    · exact ⟨t, by omega, h⟩
    · refine ⟨t + 1, by omega, ?_⟩
      have : (t + 1 + 1) * (t + 1 + 1) = (t + 1) * (t + 1) + 2 * t + 3 := by
        simp only [Nat.add_mul, Nat.mul_add]; omega
      omega
theorem rt_sq_mono {x y : Rat} (_ : 0 ≤ x) (hy : 0 ≤ y) (h : x * x < y * y) : x < y := by
  rcases le_tot y x with q | q
  · have := mul_le hy q hy q
    grind
  · by_cases e : x = y
    · subst e; grind
    · grind
theorem mul_den' (e : Rat) : e * (e.den : Rat) = (e.num : Rat) := by
  have h : (e.den : Rat) ≠ 0 := by
    have := e.den_pos
    intro h
    have h' : ((e.den : Nat) : Rat) = ((0 : Nat) : Rat) := h
    have := Rat.natCast_inj.1 h'
    omega
  have := Rat.num_divInt_den e
  rw [Rat.divInt_eq_div] at this
  have h2 : ((e.den : Int) : Rat) = (e.den : Rat) := Rat.intCast_natCast _
  rw [h2] at this
  have h3 : (e.den : Rat) * ((e.num : Rat) / (e.den : Rat)) = (e.num : Rat) := by grind
  rw [this] at h3
  grind
theorem num_pos' {e : Rat} (h : 0 < e) : 0 < e.num := by
  have h1 := Rat.num_nonneg.2 (show (0 : Rat) ≤ e by grind)
  by_cases q : e.num = 0
  · rw [Rat.num_eq_zero] at q; grind
  · omega
theorem exists_unit {e : Rat} (he : 0 < e) : ∃ K : Nat, ∀ k : Nat, K ≤ k → 1 / ((k : Rat) + 1) ≤ e := by
  refine ⟨e.den, fun k hk => ?_⟩
  have h1 : (0 : Rat) < (k : Rat) + 1 := by
    have : (0 : Rat) ≤ (k : Rat) := Rat.natCast_nonneg
    grind
  have h2 : 1 ≤ e * (e.den : Rat) := by
    have hn : 0 < e.num := num_pos' he
    rw [mul_den' e]
    have : ((1 : Int) : Rat) ≤ (e.num : Rat) := Rat.intCast_le_intCast.2 (by omega)
    exact this
  have h3 : (e.den : Rat) ≤ (k : Rat) := Rat.natCast_le_natCast.2 hk
  have h4 : 0 ≤ e * ((k : Rat) - (e.den : Rat)) := Rat.mul_nonneg (by grind) (by grind)
  have h5 : ((k : Rat) + 1) * (1 / ((k : Rat) + 1)) = 1 := mul_div' h1
  rcases le_tot (1 / ((k : Rat) + 1)) e with q | q
  · exact q
  · have : 0 ≤ ((k : Rat) + 1) * (1 / ((k : Rat) + 1) - e) := Rat.mul_nonneg (by grind) (by grind)
    grind
theorem hlp1 {u v d w e : Rat} (hu : 0 < u) (hd : 0 < d) (a1 : u * v = 1) (a2 : d * w = e) (h : v ≤ w) : d ≤ e * u := by
  have : 0 ≤ (d * u) * (w - v) := Rat.mul_nonneg (Rat.mul_nonneg (by grind) (by grind)) (by grind)
  have e1 : (d * u) * (w - v) = (d * w) * u - d * (u * v) := by grind
  rw [e1, a1, a2] at this
  grind
theorem hlp2 {u c m e : Rat} (_ : 0 < e) (hu : 1 ≤ u) (h5 : 0 ≤ m) (g1 : 2 * c + 3 ≤ e * u) (g2 : m ≤ c + 1) (h1 : c * (65536 * u * (65536 * u)) < (65536 * u * m + 1) * (65536 * u * m + 1)) : c - m * m ≤ e := by
  rcases le_tot (c - m * m) e with q | q
  · exact q
  · have b3 : 0 ≤ (u * u) * (c - m * m - e) := Rat.mul_nonneg (Rat.mul_nonneg (by grind) (by grind)) (by grind)
    have b4 : 0 ≤ u * (c + 1 - m) := Rat.mul_nonneg (by grind) (by grind)
    have b5 : 0 ≤ u * (e * u - (2 * c + 3)) := Rat.mul_nonneg (by grind) (by grind)
    have b6 : c * (65536 * u * (65536 * u)) = 4294967296 * (c * (u * u)) := by grind
    have b7 : (65536 * u * m + 1) * (65536 * u * m + 1) = 4294967296 * (u * u * (m * m)) + 131072 * (u * m) + 1 := by grind
    have b8 : 0 ≤ u * m := Rat.mul_nonneg (by grind) h5
    have b9 : 0 < u * u := Rat.mul_pos (by grind) (by grind)
    rw [b6, b7] at h1
    grind
theorem exists_rt {c : Rat} (hc : 0 ≤ c) : ∃ m, IsRt c m := by
  have hD : ∀ k : Nat, (0 : Rat) < 65536 * ((k : Rat) + 1) := fun k => by
    have : (0 : Rat) ≤ (k : Rat) := Rat.natCast_nonneg
    grind
  have key : ∀ k : Nat, ∃ t : Nat, (t : Rat) * (t : Rat) ≤ c * ((65536 * ((k : Rat) + 1)) * (65536 * ((k : Rat) + 1))) ∧ c * ((65536 * ((k : Rat) + 1)) * (65536 * ((k : Rat) + 1))) < ((t : Rat) + 1) * ((t : Rat) + 1) := by
    intro k
    have hx : 0 ≤ c * ((65536 * ((k : Rat) + 1)) * (65536 * ((k : Rat) + 1))) := Rat.mul_nonneg hc (Rat.mul_nonneg (by have := hD k; grind) (by have := hD k; grind))
    generalize c * ((65536 * ((k : Rat) + 1)) * (65536 * ((k : Rat) + 1))) = x at hx
    obtain ⟨t, h1, h2⟩ := nat_sqrt x.floor.toNat
    have hf : 0 ≤ x.floor := Rat.le_floor_iff.2 (by simpa using hx)
    refine ⟨t, ?_, ?_⟩
    · have : ((t * t : Nat) : Int) ≤ x.floor := by omega
      have := Rat.le_floor_iff.1 this
      simpa [Rat.intCast_natCast] using this
    · have : x.floor < (((t + 1) * (t + 1) : Nat) : Int) := by omega
      have := Rat.floor_lt_iff.1 this
      simpa [Rat.intCast_natCast] using this
  obtain ⟨t, ht⟩ : ∃ t : Nat → Nat, ∀ k, (t k : Rat) * (t k : Rat) ≤ c * ((65536 * ((k : Rat) + 1)) * (65536 * ((k : Rat) + 1))) ∧ c * ((65536 * ((k : Rat) + 1)) * (65536 * ((k : Rat) + 1))) < ((t k : Rat) + 1) * ((t k : Rat) + 1) :=
    ⟨fun k => (key k).choose, fun k => (key k).choose_spec⟩
  have hm : ∀ k : Nat, (65536 * ((k : Rat) + 1)) * ((t k : Rat) / (65536 * ((k : Rat) + 1))) = (t k : Rat) := fun k => mul_div' (hD k)
  have hnn : ∀ k : Nat, 0 ≤ (t k : Rat) / (65536 * ((k : Rat) + 1)) := by
    intro k
    rw [Rat.div_def]
    exact Rat.mul_nonneg Rat.natCast_nonneg (by have := Rat.inv_pos.2 (hD k); grind)
  have hle : ∀ k : Nat, (t k : Rat) / (65536 * ((k : Rat) + 1)) * ((t k : Rat) / (65536 * ((k : Rat) + 1))) ≤ c := by
    intro k
    have h1 := (ht k).1
    have h2 := hm k
    have h3 := hD k
    generalize (t k : Rat) / (65536 * ((k : Rat) + 1)) = m at *
    generalize 65536 * ((k : Rat) + 1) = D at *
    rw [← h2] at h1
    rcases le_tot (m * m) c with q | q
    · exact q
    · by_cases e : m * m = c
      · rw [e]; exact Rat.le_refl
      · have : 0 < D * D * (m * m - c) := Rat.mul_pos (Rat.mul_pos h3 h3) (by grind)
        grind
  refine ⟨fun k => (t k : Rat) / (65536 * ((k : Rat) + 1)), hnn, hle, ?_, ?_⟩
  · intro e he
    have hc3 : (0 : Rat) < 2 * c + 3 := by grind
    obtain ⟨K, hK⟩ := exists_unit (div_pos' he hc3)
    refine ⟨K, fun k hk => ?_⟩
    have h1 := (ht k).2
    have h2 := hm k
    have h4 := hle k
    have h5 := hnn k
    have h6 := hK k hk
    have hk1 : (0 : Rat) < (k : Rat) + 1 := by have := hD k; grind
    have hk2 : (1 : Rat) ≤ (k : Rat) + 1 := by
      have : (0 : Rat) ≤ (k : Rat) := Rat.natCast_nonneg
      grind
    show -e ≤ c - (t k : Rat) / (65536 * ((k : Rat) + 1)) * ((t k : Rat) / (65536 * ((k : Rat) + 1))) ∧ c - (t k : Rat) / (65536 * ((k : Rat) + 1)) * ((t k : Rat) / (65536 * ((k : Rat) + 1))) ≤ e
    generalize (t k : Rat) / (65536 * ((k : Rat) + 1)) = m at *
    have g1 : 2 * c + 3 ≤ e * ((k : Rat) + 1) := hlp1 hk1 hc3 (mul_div' hk1) (mul_div' hc3) h6
    generalize (k : Rat) + 1 = u at *
    have g2 : m ≤ c + 1 := by
      rcases le_tot m (c + 1) with q | q
      · exact q
      · have := mul_le (show 0 ≤ c + 1 by grind) q (show 0 ≤ c + 1 by grind) q
        have : 0 ≤ c * c := Rat.mul_nonneg hc hc
        grind
    rw [← h2] at h1
    refine ⟨by grind, hlp2 he hk2 h5 g1 g2 h1⟩
  · intro j hj k
    have h1 := (ht k).2
    have h2 := hm k
    have hk1 : (0 : Rat) < (k : Rat) + 1 := by have := hD k; grind
    have g1 : (j : Rat) * ((k : Rat) + 1) < (t k : Rat) + 1 := by
      refine rt_sq_mono ?_ ?_ ?_
      · exact Rat.mul_nonneg Rat.natCast_nonneg (by grind)
      · have : (0 : Rat) ≤ (t k : Rat) := Rat.natCast_nonneg
        grind
      · have : 0 ≤ (((k : Rat) + 1) * ((k : Rat) + 1)) * (c * (65536 * 65536) - (j : Rat) * (j : Rat)) := Rat.mul_nonneg (Rat.mul_nonneg (by grind) (by grind)) (by grind)
        grind
    have g2 : j * (k + 1) < t k + 1 := by
      have : ((j * (k + 1) : Nat) : Rat) < ((t k + 1 : Nat) : Rat) := by simpa using g1
      exact Rat.natCast_lt_natCast.1 this
    have g3 : (j : Rat) * ((k : Rat) + 1) ≤ (t k : Rat) := by
      have : ((j * (k + 1) : Nat) : Rat) ≤ ((t k : Nat) : Rat) := Rat.natCast_le_natCast.2 (by omega)
      simpa using this
    show (j : Rat) ≤ (t k : Rat) / (65536 * ((k : Rat) + 1)) * 65536
    generalize (t k : Rat) / (65536 * ((k : Rat) + 1)) = m at *
    rw [← h2] at g3
    rcases le_tot (j : Rat) (m * 65536) with q | q
    · exact q
    · have : 0 ≤ ((k : Rat) + 1) * ((j : Rat) - m * 65536) := Rat.mul_nonneg (by grind) (by grind)
      by_cases e : (j : Rat) = m * 65536
      · grind
      · have : 0 < ((k : Rat) + 1) * ((j : Rat) - m * 65536) := Rat.mul_pos hk1 (by grind)
        grind
theorem IsRt.bdd {c : Rat} {m : Sq} (hc : 0 ≤ c) (h : IsRt c m) : Bdd m := by
  refine ⟨c + 1, by grind, fun k => ⟨by have := h.nn k; grind, ?_⟩⟩
  have := h.le k
  rcases le_tot (m k) (c + 1) with q | q
  · exact q
  · have := mul_le (show 0 ≤ c + 1 by grind) q (show 0 ≤ c + 1 by grind) q
    have : 0 ≤ c * c := Rat.mul_nonneg hc hc
    grind
theorem IsRt.zero {m : Sq} (h : IsRt 0 m) : ∀ k, m k = 0 := by
  intro k
  have h1 := h.le k
  have h2 := h.nn k
  by_cases e : m k = 0
  · exact e
  · have : 0 < m k * m k := Rat.mul_pos (by grind) (by grind)
    grind
theorem IsRt.pos {c : Rat} {m : Sq} (hc : 0 < c) (h : IsRt c m) : PosS m := by
  have h1 : PosS fun k => m k * m k := by
    have := pos_add_null (f := fun _ => c) ⟨c, hc, 0, fun _ _ => Rat.le_refl⟩ (null_neg h.lim)
    exact pos_congr (fun k => by grind) this
  obtain ⟨e, he, K, hK⟩ := h1
  refine ⟨e / (c + 1), div_pos' he (by grind), K, fun k hk => ?_⟩
  have h2 := hK k hk
  have h3 := h.nn k
  have h4 : m k ≤ c + 1 := by
    have := h.le k
    rcases le_tot (m k) (c + 1) with q | q
    · exact q
    · have := mul_le (show 0 ≤ c + 1 by grind) q (show 0 ≤ c + 1 by grind) q
      have : 0 < c * c := Rat.mul_pos hc hc
      grind
  have h5 : (c + 1) * (e / (c + 1)) = e := mul_div' (by grind)
  have h6 : 0 ≤ m k * (c + 1 - m k) := Rat.mul_nonneg h3 (by grind)
  rcases le_tot (e / (c + 1)) (m k) with q | q
  · exact q
  · by_cases e0 : e / (c + 1) = m k
    · grind
    · have : 0 < (c + 1) * (e / (c + 1) - m k) := Rat.mul_pos (by grind) (by grind)
      grind
theorem IsRt.sg {c : Rat} {m : Sq} (hc : 0 ≤ c) (h : IsRt c m) : HasSg m (sgQ' c) := by
  unfold sgQ'
  split
  · rename_i q; exact .inl ⟨rfl, h.pos q⟩
  · split
    · rename_i q
      subst q
      exact .inr (.inl ⟨rfl, null_congr (fun k => (h.zero k).symm) null_zero⟩)
    · grind
end Go.Proofs.YtifeacfljfmnpaaGreat
end

section
set_option maxRecDepth 100000
namespace Go.Proofs.YtifeacfljfmnpaaGreat
theorem sgQ'_pos {a : Rat} (h : 0 < a) : sgQ' a = 1 := if_pos h
theorem sgQ'_zero : sgQ' 0 = 0 := rfl
theorem sgQ'_neg {a : Rat} (h : a < 0) : sgQ' a = -1 := by
  unfold sgQ'
  rw [if_neg (by grind), if_neg (by grind)]
def sg2 (a b m : Rat) : Int := sumSg (sgQ' a) (sgQ' b * sgQ' m) (sgQ' (a * a - b * b * m))
def sg4 (A B C D M N : Rat) : Int := sumSg (sg2 A B M) (sg2 C D M * sgQ' N) (sg2 (A * A + B * B * M - N * (C * C + D * D * M)) ((A * B - N * (C * D)) + (A * B - N * (C * D))) M)
theorem sqv2 {a b M : Rat} {m : Sq} (hM : 0 ≤ M) (h : IsRt M m) : HasSg (fun k => a + b * m k) (sg2 a b M) := by
  refine HasSg.sum (f := fun _ => a) (g := fun k => b * m k) (hasSg_const a) (HasSg.mul (f := fun _ => b) (hasSg_const b) (h.sg hM) (bdd_const b) (h.bdd hM)) (bdd_const a) (bdd_mul (bdd_const b) (h.bdd hM)) ?_
  refine (hasSg_const (a * a - b * b * M)).near ?_
  refine null_congr (fun k => ?_) (null_mul (bdd_const (b * b)) h.lim)
  grind
theorem bdd2 {a b M : Rat} {m : Sq} (hM : 0 ≤ M) (h : IsRt M m) : Bdd (fun k => a + b * m k) := bdd_add (f := fun _ => a) (bdd_const a) (bdd_mul (f := fun _ => b) (bdd_const b) (h.bdd hM))
theorem sqv4 {A B C D M N : Rat} {m n : Sq} (hM : 0 ≤ M) (hN : 0 ≤ N) (h : IsRt M m) (k : IsRt N n) : HasSg (fun i => (A + B * m i) + (C + D * m i) * n i) (sg4 A B C D M N) := by
  have b1 : Bdd fun i => A + B * m i := bdd2 hM h
  have b2 : Bdd fun i => C + D * m i := bdd2 hM h
  refine HasSg.sum (f := fun i => A + B * m i) (g := fun i => (C + D * m i) * n i) (sqv2 hM h) (HasSg.mul (f := fun i => C + D * m i) (sqv2 hM h) (k.sg hN) b2 (k.bdd hN)) b1 (bdd_mul b2 (k.bdd hN)) ?_
  refine (sqv2 (a := A * A + B * B * M - N * (C * C + D * D * M)) (b := (A * B - N * (C * D)) + (A * B - N * (C * D))) hM h).near ?_
  have n1 := null_mul (f := fun _ => N * (D * D) - B * B) (bdd_const _) h.lim
  have n2 := null_mul (f := fun i => (C + D * m i) * (C + D * m i)) (bdd_mul b2 b2) k.lim
  refine null_congr (fun i => ?_) (null_add n1 n2)
  grind
def IvIn (l h : Int) (f : Sq) : Prop := ∀ k, (l : Rat) ≤ f k * 65536 ∧ f k * 65536 ≤ (h : Rat)
theorem IvIn.add {l h l' h' : Int} {f g : Sq} (a : IvIn l h f) (b : IvIn l' h' g) : IvIn (l + l') (h + h') fun k => f k + g k := fun k => by
  have := a k
  have := b k
  rw [Rat.intCast_add, Rat.intCast_add]
  grind
theorem IvIn.neg {l h : Int} {f : Sq} (a : IvIn l h f) : IvIn (-h) (-l) fun k => - f k := fun k => by
  have := a k
  rw [Rat.intCast_neg, Rat.intCast_neg]
  grind
theorem mul_between {a b c d x y : Rat} (h1 : a ≤ x) (h2 : x ≤ b) (h3 : c ≤ y) (h4 : y ≤ d) {lo : Rat} (l1 : lo ≤ a * c) (l2 : lo ≤ a * d) (l3 : lo ≤ b * c) (l4 : lo ≤ b * d) : lo ≤ x * y := by
  have hy : lo ≤ x * c ∧ lo ≤ x * d := by
    constructor
    · rcases le_tot 0 c with q | q
      · have : 0 ≤ (x - a) * c := Rat.mul_nonneg (by grind) q
        grind
      · have : 0 ≤ (b - x) * (-c) := Rat.mul_nonneg (by grind) (by grind)
        grind
    · rcases le_tot 0 d with q | q
      · have : 0 ≤ (x - a) * d := Rat.mul_nonneg (by grind) q
        grind
      · have : 0 ≤ (b - x) * (-d) := Rat.mul_nonneg (by grind) (by grind)
        grind
  rcases le_tot 0 x with q | q
  · have : 0 ≤ (y - c) * x := Rat.mul_nonneg (by grind) q
    grind
  · have : 0 ≤ (d - y) * (-x) := Rat.mul_nonneg (by grind) (by grind)
    grind
def fl16 (p : Int) : Int := p / 65536
def cl16 (p : Int) : Int := -((-p) / 65536)
theorem fl16_le (p : Int) : (fl16 p : Rat) * 65536 ≤ (p : Rat) := by
  have : fl16 p * 65536 ≤ p := by unfold fl16; omega
  have h := Rat.intCast_le_intCast.2 this
  rw [Rat.intCast_mul] at h
  exact h
theorem le_cl16 (p : Int) : (p : Rat) ≤ (cl16 p : Rat) * 65536 := by
  have : p ≤ cl16 p * 65536 := by unfold cl16; omega
  have h := Rat.intCast_le_intCast.2 this
  rw [Rat.intCast_mul] at h
  exact h
def mulLo (a b c d : Int) : Int := min (min (fl16 (a * c)) (fl16 (a * d))) (min (fl16 (b * c)) (fl16 (b * d)))
def mulHi (a b c d : Int) : Int := max (max (cl16 (a * c)) (cl16 (a * d))) (max (cl16 (b * c)) (cl16 (b * d)))
theorem mulLo_spec {a b c d p : Int} {q : Rat} (h : mulLo a b c d ≤ fl16 p) (hq : q = (p : Rat)) : (mulLo a b c d : Rat) * 65536 ≤ q := by
  have h1 := fl16_le p
  have h2 := Rat.intCast_le_intCast.2 h
  grind
theorem mulHi_spec {a b c d p : Int} {q : Rat} (h : cl16 p ≤ mulHi a b c d) (hq : q = (p : Rat)) : q ≤ (mulHi a b c d : Rat) * 65536 := by
  have h1 := le_cl16 p
  have h2 := Rat.intCast_le_intCast.2 h
  grind
theorem mulLo_le (a b c d : Int) : mulLo a b c d ≤ fl16 (a * c) ∧ mulLo a b c d ≤ fl16 (a * d) ∧ mulLo a b c d ≤ fl16 (b * c) ∧ mulLo a b c d ≤ fl16 (b * d) := by
  unfold mulLo; omega
theorem le_mulHi (a b c d : Int) : cl16 (a * c) ≤ mulHi a b c d ∧ cl16 (a * d) ≤ mulHi a b c d ∧ cl16 (b * c) ≤ mulHi a b c d ∧ cl16 (b * d) ≤ mulHi a b c d := by
  unfold mulHi; omega
theorem IvIn.mul {a b c d : Int} {f g : Sq} (h : IvIn a b f) (k : IvIn c d g) : IvIn (mulLo a b c d) (mulHi a b c d) fun i => f i * g i := fun i => by
  obtain ⟨h1, h2⟩ := h i
  obtain ⟨k1, k2⟩ := k i
  obtain ⟨l1, l2, l3, l4⟩ := mulLo_le a b c d
  obtain ⟨u1, u2, u3, u4⟩ := le_mulHi a b c d
  have e1 := mul_between h1 h2 k1 k2 (mulLo_spec l1 (Rat.intCast_mul a c).symm) (mulLo_spec l2 (Rat.intCast_mul a d).symm) (mulLo_spec l3 (Rat.intCast_mul b c).symm) (mulLo_spec l4 (Rat.intCast_mul b d).symm)
  have e2 := mul_between (a := -(b : Rat)) (b := -(a : Rat)) (x := -(f i * 65536)) (lo := -((mulHi a b c d : Rat) * 65536)) (by grind) (by grind) k1 k2 (by have := mulHi_spec u3 (Rat.intCast_mul b c).symm; grind) (by have := mulHi_spec u4 (Rat.intCast_mul b d).symm; grind) (by have := mulHi_spec u1 (Rat.intCast_mul a c).symm; grind) (by have := mulHi_spec u2 (Rat.intCast_mul a d).symm; grind)
  constructor <;> grind
theorem IvIn.sqrt {l h lo hi : Int} {C : Rat} {m : Sq} (_ : 0 ≤ C) (hm : IsRt C m) (hc : IvIn l h fun _ => C) (h0 : 0 ≤ lo) (h1 : lo * lo ≤ max 0 l * 65536) (h2 : 0 ≤ hi) (h3 : h * 65536 ≤ hi * hi) : IvIn lo hi m := fun k => by
  have hC := hc 0
  constructor
  · obtain ⟨j, rfl⟩ := Int.eq_ofNat_of_zero_le h0
    have := hm.low j ?_ k
    · exact this
    · rcases Int.le_total 0 l with q | q
      · rw [Int.max_eq_right q] at h1
        have h1' := Rat.intCast_le_intCast.2 h1
        rw [Rat.intCast_mul, Rat.intCast_mul] at h1'
        have e : ((j : Int) : Rat) = (j : Rat) := rfl
        rw [e] at h1'
        have e2 : ((65536 : Int) : Rat) = 65536 := rfl
        rw [e2] at h1'
        grind
      · rw [Int.max_eq_left q] at h1
        have h1' := Rat.intCast_le_intCast.2 h1
        rw [Rat.intCast_mul] at h1'
        have e : ((j : Int) : Rat) = (j : Rat) := rfl
        rw [e] at h1'
        have e2 : ((0 * 65536 : Int) : Rat) = 0 := rfl
        rw [e2] at h1'
        grind
  · have h3' := Rat.intCast_le_intCast.2 h3
    rw [Rat.intCast_mul, Rat.intCast_mul] at h3'
    have e2 : ((65536 : Int) : Rat) = 65536 := rfl
    rw [e2] at h3'
    have h2' := Rat.intCast_le_intCast.2 h2
    have e0 : ((0 : Int) : Rat) = 0 := rfl
    rw [e0] at h2'
    have g := hm.le k
    have g0 := hm.nn k
    rcases le_tot (m k * 65536) (hi : Rat) with q | q
    · exact q
    · by_cases e : m k * 65536 = (hi : Rat)
      · grind
      · have : 0 < (m k * 65536 - (hi : Rat)) * (m k * 65536 - (hi : Rat)) := Rat.mul_pos (by grind) (by grind)
        have : 0 ≤ (hi : Rat) * (m k * 65536 - (hi : Rat)) := Rat.mul_nonneg h2' (by grind)
        grind
def ivSg (l h : Int) : Option Int := if 0 < l then some 1 else if h < 0 then some (-1) else if l = 0 ∧ h = 0 then some 0 else none
theorem ivSg_spec {l h s : Int} {f : Sq} (hs : ivSg l h = some s) (hf : IvIn l h f) : HasSg f s := by
  unfold ivSg at hs
  split at hs
  · rename_i q
    injection hs with hs
    subst hs
    have q' := Rat.intCast_le_intCast.2 (show 1 ≤ l by omega)
    have e1 : ((1 : Int) : Rat) = 1 := rfl
    rw [e1] at q'
    exact .inl ⟨rfl, 1 / 65536, by grind, 0, fun k _ => by have := hf k; grind⟩
  · split at hs
    · rename_i q
      injection hs with hs
      subst hs
      have q' := Rat.intCast_le_intCast.2 (show h ≤ -1 by omega)
      have e1 : ((-1 : Int) : Rat) = -1 := rfl
      rw [e1] at q'
      exact .inr (.inr ⟨rfl, 1 / 65536, by grind, 0, fun k _ => by have := hf k; grind⟩)
    · split at hs
      · rename_i q
        injection hs with hs
        subst hs
        obtain ⟨rfl, rfl⟩ := q
        refine .inr (.inl ⟨rfl, null_congr (fun k => ?_) null_zero⟩)
        have := hf k
        have e0 : ((0 : Int) : Rat) = 0 := rfl
        rw [e0] at this
        grind
      · cases hs
def flR (a : Rat) : Int := (a * 65536).floor
def clR (a : Rat) : Int := -(-(a * 65536)).floor
theorem IvIn.const (a : Rat) : IvIn (flR a) (clR a) fun _ => a := fun _ => by
  have h1 := Rat.floor_le (a * 65536)
  have h2 := Rat.floor_le (-(a * 65536))
  unfold flR clR
  rw [Rat.intCast_neg]
  constructor
  · exact h1
  · grind
end Go.Proofs.YtifeacfljfmnpaaGreat
end

section
set_option maxRecDepth 100000
namespace Go.Proofs.YtifeacfljfmnpaaGreat
theorem sgQ'_scale {k a : Rat} (h : 0 < k) : sgQ' (k * a) = sgQ' a := by
  unfold sgQ'
  by_cases h1 : 0 < a
  · rw [if_pos h1, if_pos (Rat.mul_pos h h1)]
  · by_cases h2 : a = 0
    · subst h2
      rw [Rat.mul_zero]
    · have h3 : 0 < k * (-a) := Rat.mul_pos h (by grind)
      rw [if_neg h1, if_neg h2, if_neg (by grind), if_neg (by grind)]
theorem sgQ'_mul (a b : Rat) : sgQ' (a * b) = sgQ' a * sgQ' b := by
  by_cases h1 : 0 < a
  · rw [sgQ'_scale h1, sgQ'_pos h1, Int.one_mul]
  · by_cases h2 : a = 0
    · subst h2
      rw [Rat.zero_mul, sgQ'_zero, Int.zero_mul]
    · have h3 : 0 < -a := by grind
      have e : a * b = (-a) * (-b) := by grind
      rw [e, sgQ'_scale h3, sgQ'_neg (a := a) (by grind)]
      by_cases k1 : 0 < b
      · rw [sgQ'_pos k1, sgQ'_neg (by grind)]; rfl
      · by_cases k2 : b = 0
        · subst k2; rfl
        · rw [sgQ'_neg (a := b) (by grind), sgQ'_pos (by grind)]; rfl
theorem sg2_scale {k a b m : Rat} (h : 0 < k) : sg2 (k * a) (k * b) m = sg2 a b m := by
  unfold sg2
  rw [sgQ'_scale h, sgQ'_scale h]
  have e : k * a * (k * a) - k * b * (k * b) * m = (k * k) * (a * a - b * b * m) := by grind
  rw [e, sgQ'_scale (Rat.mul_pos h h)]
theorem sgQ'_range (a : Rat) : sgQ' a = 1 ∨ sgQ' a = 0 ∨ sgQ' a = -1 := by
  unfold sgQ'
  split
  · exact .inl rfl
  · split
    · exact .inr (.inl rfl)
    · exact .inr (.inr rfl)
theorem sumSg_range {s t d : Int} (hs : s = 1 ∨ s = 0 ∨ s = -1) (ht : t = 1 ∨ t = 0 ∨ t = -1) (hd : d = 1 ∨ d = 0 ∨ d = -1) : sumSg s t d = 1 ∨ sumSg s t d = 0 ∨ sumSg s t d = -1 := by
  unfold sumSg
  rcases hs with rfl | rfl | rfl <;> rcases ht with rfl | rfl | rfl <;> rcases hd with rfl | rfl | rfl <;> decide
theorem mul_range {s t : Int} (hs : s = 1 ∨ s = 0 ∨ s = -1) (ht : t = 1 ∨ t = 0 ∨ t = -1) : s * t = 1 ∨ s * t = 0 ∨ s * t = -1 := by
  rcases hs with rfl | rfl | rfl <;> rcases ht with rfl | rfl | rfl <;> decide
theorem sg2_range (a b m : Rat) : sg2 a b m = 1 ∨ sg2 a b m = 0 ∨ sg2 a b m = -1 := sumSg_range (sgQ'_range a) (mul_range (sgQ'_range b) (sgQ'_range m)) (sgQ'_range _)
theorem sg4_range (A B C D M N : Rat) : sg4 A B C D M N = 1 ∨ sg4 A B C D M N = 0 ∨ sg4 A B C D M N = -1 := sumSg_range (sg2_range _ _ _) (mul_range (sg2_range _ _ _) (sgQ'_range _)) (sg2_range _ _ _)
theorem sg4_scaled {A B C D M N L mD nD a b c d mN nN : Rat} (hL : 0 < L) (hm : 0 < mD) (hn : 0 < nD) (ha : a = A * L) (hb : b = B * L) (hc : c = C * L) (hd : d = D * L) (hM : mN = M * mD) (hN : nN = N * nD) :
    sg4 A B C D M N = sumSg (sg2 a b M) (sg2 c d M * sgQ' N) (sg2 ((a * a * mD + b * b * mN) * nD - (c * c * mD + d * d * mN) * nN) ((a * b * mD * nD - c * d * mD * nN) + (a * b * mD * nD - c * d * mD * nN)) M) := by
  unfold sg4
  have e1 : sg2 a b M = sg2 A B M := by rw [ha, hb, Rat.mul_comm A, Rat.mul_comm B]; exact sg2_scale hL
  have e2 : sg2 c d M = sg2 C D M := by rw [hc, hd, Rat.mul_comm C, Rat.mul_comm D]; exact sg2_scale hL
  have hk : 0 < L * L * (mD * nD) := Rat.mul_pos (Rat.mul_pos hL hL) (Rat.mul_pos hm hn)
  have e3 : (a * a * mD + b * b * mN) * nD - (c * c * mD + d * d * mN) * nN = (L * L * (mD * nD)) * (A * A + B * B * M - N * (C * C + D * D * M)) := by subst ha hb hc hd hM hN; grind
  have e4 : (a * b * mD * nD - c * d * mD * nN) + (a * b * mD * nD - c * d * mD * nN) = (L * L * (mD * nD)) * ((A * B - N * (C * D)) + (A * B - N * (C * D))) := by subst ha hb hc hd hM hN; grind
  rw [e1, e2, e3, e4, sg2_scale hk]
end Go.Proofs.YtifeacfljfmnpaaGreat
end

section
set_option maxRecDepth 100000
namespace Go.Proofs.YtifeacfljfmnpaaGreat
open Go.RowKit
end Go.Proofs.YtifeacfljfmnpaaGreat
end

section
set_option maxRecDepth 100000
namespace Go.Proofs.YtifeacfljfmnpaaGreat
open Go.RowKit
end Go.Proofs.YtifeacfljfmnpaaGreat
end

section
set_option maxRecDepth 100000
namespace Go.Proofs.YtifeacfljfmnpaaGreat
open Go.RowKit
end Go.Proofs.YtifeacfljfmnpaaGreat
end

section
set_option maxRecDepth 100000
namespace Go.Proofs.YtifeacfljfmnpaaGreat
open Go.RowKit
theorem limbs_top9 {n : Nat} (h : (limbs n).length = 3) : n = val ((limbs n).take 2) + 1000000000000000000 * (limbs n).getD 2 0 ∧ val ((limbs n).take 2) < 1000000000000000000 := by
  have h1 := val_split (limbs n) 2 (by omega)
  rw [z1q, val_drop _ 2 (by omega)] at h1
  have h2 : (limbs n).drop (2 + 1) = [] := List.drop_of_length_le (by omega)
  rw [h2] at h1
  have h3 := val_lt ((z6q n).take 2)
  rw [List.length_take, h] at h3
  simp only [val] at h1
  have e : 1000000000 ^ min 2 3 = 1000000000000000000 := rfl
  rw [e] at h3
  omega
theorem big_len {n : Nat} (h : 10000000000000000000 ≤ n) : 3 < (limbs n).length ∨ ((limbs n).length = 3 ∧ 9 < (limbs n).getD 2 0) := by
  rcases Nat.lt_or_ge 3 (limbs n).length with h1 | h1
  · exact .inl h1
  · right
    have h3 : (limbs n).length = 3 := by
      rcases Nat.lt_or_ge (limbs n).length 3 with h2 | h2
      · have := z4q (n := n) (k := 2) (by omega); omega
      · omega
    obtain ⟨h4, h5⟩ := limbs_top9 h3
    exact ⟨h3, by omega⟩
theorem small_len {n : Nat} (h : n < 10000000000000000000) : (limbs n).length ≤ 3 ∧ ((limbs n).length = 3 → (limbs n).getD 2 0 ≤ 9) := by
  refine ⟨limbs_len_le (by omega), fun h3 => ?_⟩
  obtain ⟨h4, h5⟩ := limbs_top9 h3
  omega
theorem neg_conv (n : Nat) (h0 : 0 < n) (h : n ≤ 9223372036854775808) : wrap64 (IntKind.u64.wrap (-(n : Int))) = -(n : Int) := by
  simp only [wrap64, IntKind.wrap_u64]
  omega
theorem wrap64_small {m : Int} (n : Nat) (h : (n : Int) = m) (k : m ≤ 9223372036854775807) : wrap64 m = m := by
  simp only [wrap64]
  omega
theorem ret2 {a b : Int} {c d : Bool} (h : a = b) (k : c = d) : Ending.returned (.tuple #[.int .i64 a, .bool c]) = .returned (.tuple #[.int .i64 b, .bool d]) := by rw [h, k]

set_option maxRecDepth 100000 in
set_option maxHeartbeats 1600000 in
theorem int64_calls (w : World) (v : Value) (z : Int) (h : IsInt w v z) :
    Calls Tryz.prog 229 #[v] w fun e w' => e = .returned (.tuple #[.int .i64 (i64v z), .bool (i64ok z)]) ∧ Ext w w' := by
  obtain ⟨ao, cap, s, n, rfl, h1, h2, h3, H4, H5, H6⟩ := h.open_
  obtain ⟨W, hW, eW, c0, c1⟩ := box1 w (.bool s) (.slice ao (limbs n).length cap) 24
  by_cases hb : 10000000000000000000 ≤ n
  · have HO := Lib.hid (i64_out (z := z) (by have := H4.out; omega))
    rcases big_len hb with hl | ⟨hl, ht⟩
    · have hlI : decide ((3 : Int) < ((limbs n).length : Int)) = true := decide_eq_true (by omega)
      clear hb hl
      go_enter Tryz.func229, Tryz.ntmps229
      go_wp2
      go_ret2
      exact ⟨ret2 HO.out.1.symm HO.out.2.symm, eW⟩
    · obtain ⟨b1, o1, rfl, hx⟩ := (h3.ext eW).at_ (by omega)
      have hc := hx 2 (by omega)
      clear hx
      generalize (limbs n).getD 2 0 = t at *
      have htI : (9 : Int) < (t : Int) := by omega
      generalize (limbs n).length = L at *
      subst hl
      clear hb ht
      go_enter Tryz.func229, Tryz.ntmps229
      go_wp2
      go_ret2
      exact ⟨ret2 HO.out.1.symm HO.out.2.symm, eW⟩
  · obtain ⟨hl, ht⟩ := small_len (n := n) (by omega)
    have hv := valueOf_calls W ao (limbs n) cap h1 h2 (h3.ext eW) (by rw [z1q]; omega)
    rw [z1q] at hv
    have HV := Lib.hid hv
    have hfin : Hid ((∃ L : Nat, L = (limbs n).length ∧ L ≤ 3 ∧ (L = 3 → ∃ b1 o1 t, ao = some ⟨b1, o1, none⟩ ∧ W.cell? ⟨b1, o1 + 2, none⟩ = some (.int .u32 ((t : Nat) : Int)) ∧ t ≤ 9))) := by
      refine ⟨_, rfl, hl, fun h' => ?_⟩
      obtain ⟨b1, o1, rfl, hx⟩ := (h3.ext eW).at_ (by omega)
      exact ⟨b1, o1, _, rfl, hx 2 (by omega), ht h'⟩
    obtain ⟨L, hL, hL3, hLt⟩ := hfin.out
    rw [← hL] at HV
    rw [← hL] at hW c1
    have HLE := Lib.hid (show (Value.slice ao (limbs n).length cap) = .slice ao L cap by rw [hL])
    have HN := Lib.hid (show n < 10000000000000000000 by omega)
    have hz : z = sgn s n := H5.out
    clear hv hl ht h1 h2 h3 hb hfin h
    rw [HLE.out]
    clear hL HLE
    have hgo : ∀ (P : Prop), True := fun _ => trivial
    have HZ := Lib.hid hz
    clear hz hgo
    rcases Nat.lt_or_ge L 3 with hl | hl
    · have hlI : (L : Int) < 3 := by omega
      clear hLt hl hL3
      cases s
      by_cases hn : n ≤ 9223372036854775807
      · have HI := Lib.hid (i64_in (z := z) (by rw [HZ.out]; simp only [sgn]; simp; try omega) (by rw [HZ.out]; simp only [sgn]; simp; try omega))
        have hnI : (n : Int) ≤ 9223372036854775807 := by omega
        have HE : Hid (z = n) := HZ.out
        clear hn
        go_enter Tryz.func229, Tryz.ntmps229
        go_wp2_with fail
        refine HV.out.mono ?_
        rintro e w' ⟨rfl, rfl⟩
        generalize hm : (n : Int) = m at hnI ⊢
        have HM := Lib.hid hm
        clear hm
        go_wp2
        go_ret2
        exact ⟨ret2 (by rw [HI.out.1, HE.out, HM.out]; exact wrap64_small n HM.out hnI) HI.out.2.symm, eW⟩
      · have HI := Lib.hid (i64_out (z := z) (.inr (by rw [HZ.out]; simp only [sgn]; simp; try omega)))
        have hnI : (9223372036854775807 : Int) < n := by omega
        clear hn
        go_enter Tryz.func229, Tryz.ntmps229
        go_wp2_with fail
        refine HV.out.mono ?_
        rintro e w' ⟨rfl, rfl⟩
        generalize hm : (n : Int) = m at hnI ⊢
        have HM := Lib.hid hm
        clear hm
        go_wp2
        go_ret2
        exact ⟨ret2 HI.out.1.symm HI.out.2.symm, eW⟩
      by_cases hn : n ≤ 9223372036854775808
      · have HI := Lib.hid (i64_in (z := z) (by rw [HZ.out]; simp only [sgn]; simp; try omega) (by rw [HZ.out]; simp only [sgn]; simp; try omega))
        have hnI : decide ((n : Int) ≤ 9223372036854775808) = true := decide_eq_true (by omega)
        have HE : Hid (z = -n) := HZ.out
        have HP := Lib.hid (H6.out rfl)
        have HB := Lib.hid hn
        clear hn
        go_enter Tryz.func229, Tryz.ntmps229
        go_wp2_with fail
        refine HV.out.mono ?_
        rintro e w' ⟨rfl, rfl⟩
        go_wp2
        go_ret2
        exact ⟨ret2 (by rw [HI.out.1, HE.out]; exact neg_conv n HP.out HB.out) HI.out.2.symm, eW⟩
      · have HI := Lib.hid (i64_out (z := z) (.inl (by rw [HZ.out]; simp only [sgn]; simp; try omega)))
        have hnI : decide ((n : Int) ≤ 9223372036854775808) = false := decide_eq_false (by omega)
        clear hn
        go_enter Tryz.func229, Tryz.ntmps229
        go_wp2_with fail
        refine HV.out.mono ?_
        rintro e w' ⟨rfl, rfl⟩
        go_wp2
        go_ret2
        exact ⟨ret2 HI.out.1.symm HI.out.2.symm, eW⟩
    · obtain ⟨b1, o1, t, rfl, hc, htt⟩ := hLt (by omega)
      obtain rfl : L = 3 := by omega
      have htI : (t : Int) ≤ 9 := by omega
      clear hLt hl hL3 htt
      cases s
      by_cases hn : n ≤ 9223372036854775807
      · have HI := Lib.hid (i64_in (z := z) (by rw [HZ.out]; simp only [sgn]; simp; try omega) (by rw [HZ.out]; simp only [sgn]; simp; try omega))
        have hnI : (n : Int) ≤ 9223372036854775807 := by omega
        have HE : Hid (z = n) := HZ.out
        clear hn
        go_enter Tryz.func229, Tryz.ntmps229
        go_wp2_with fail
        refine HV.out.mono ?_
        rintro e w' ⟨rfl, rfl⟩
        generalize hm : (n : Int) = m at hnI ⊢
        have HM := Lib.hid hm
        clear hm
        go_wp2
        go_ret2
        exact ⟨ret2 (by rw [HI.out.1, HE.out, HM.out]; exact wrap64_small n HM.out hnI) HI.out.2.symm, eW⟩
      · have HI := Lib.hid (i64_out (z := z) (.inr (by rw [HZ.out]; simp only [sgn]; simp; try omega)))
        have hnI : (9223372036854775807 : Int) < n := by omega
        clear hn
        go_enter Tryz.func229, Tryz.ntmps229
        go_wp2_with fail
        refine HV.out.mono ?_
        rintro e w' ⟨rfl, rfl⟩
        generalize hm : (n : Int) = m at hnI ⊢
        have HM := Lib.hid hm
        clear hm
        go_wp2
        go_ret2
        exact ⟨ret2 HI.out.1.symm HI.out.2.symm, eW⟩
      by_cases hn : n ≤ 9223372036854775808
      · have HI := Lib.hid (i64_in (z := z) (by rw [HZ.out]; simp only [sgn]; simp; try omega) (by rw [HZ.out]; simp only [sgn]; simp; try omega))
        have hnI : decide ((n : Int) ≤ 9223372036854775808) = true := decide_eq_true (by omega)
        have HE : Hid (z = -n) := HZ.out
        have HP := Lib.hid (H6.out rfl)
        have HB := Lib.hid hn
        clear hn
        go_enter Tryz.func229, Tryz.ntmps229
        go_wp2_with fail
        refine HV.out.mono ?_
        rintro e w' ⟨rfl, rfl⟩
        go_wp2
        go_ret2
        exact ⟨ret2 (by rw [HI.out.1, HE.out]; exact neg_conv n HP.out HB.out) HI.out.2.symm, eW⟩
      · have HI := Lib.hid (i64_out (z := z) (.inl (by rw [HZ.out]; simp only [sgn]; simp; try omega)))
        have hnI : decide ((n : Int) ≤ 9223372036854775808) = false := decide_eq_false (by omega)
        clear hn
        go_enter Tryz.func229, Tryz.ntmps229
        go_wp2_with fail
        refine HV.out.mono ?_
        rintro e w' ⟨rfl, rfl⟩
        go_wp2
        go_ret2
        exact ⟨ret2 HI.out.1.symm HI.out.2.symm, eW⟩

end Go.Proofs.YtifeacfljfmnpaaGreat
end

section
set_option maxRecDepth 100000
namespace Go.Proofs.YtifeacfljfmnpaaGreat
open Go.RowKit
def u64T (G : Asm) (t : IT) : Bool :=
  match t.cl with
  | some z => decide (0 ≤ z) && decide (z < 18446744073709551616)
  | none => match t with
    | .a1 21 _ => true
    | t => G.find (.le (.lit 0) t) == some true && G.find (.le t (.lit 18446744073709551615)) == some true
theorem u64T_spec {E : Env} {G : Asm} (hG : G.holds E) {t : IT} (h : u64T G t = true) : 0 ≤ t.den E ∧ t.den E < 18446744073709551616 := by
  unfold u64T at h
  split at h
  · rename_i z hz
    rw [Bool.and_eq_true, decide_eq_true_iff, decide_eq_true_iff] at h
    rw [IT.cl_spec hz]
    exact h
  · split at h
    · rename_i x _
      show 0 ≤ IntKind.u64.wrap (x.den E) ∧ IntKind.u64.wrap (x.den E) < 18446744073709551616
      rw [IntKind.wrap_u64]
      omega
    · rw [Bool.and_eq_true, beq_iff_eq, beq_iff_eq] at h
      have f1 := of_decide_eq_true (Asm.find_spec hG h.1)
      have f2 := of_decide_eq_true (Asm.find_spec hG h.2)
      simp only [IT.den] at f1 f2
      omega
def kMul64 : Con
  | [.val false [.n .u64 a], .val false [.n .u64 b]], G => if u64T G a && u64T G b then some (.tup [(false, [.n .u64 (IT.a2 19 a b).fold]), (false, [.n .u64 (IT.a1 21 (.a2 2 a b)).fold])]) else none
  | _, _ => none
theorem kMul64_ok {E : Env} : ConOK Tryz.prog E 231 kMul64 := by
  refine ⟨?_, ?_, ⟨_, Tryz.func231, by decide +kernel, by kernel_rfl⟩⟩
  · intro args G r h hG β w vs hv hlen
    unfold kMul64 at h
    split at h
    · rename_i a b
      split at h
      · rename_i hc
        rw [Bool.and_eq_true] at hc
        obtain ⟨a1, a2⟩ := u64T_spec hG hc.1
        obtain ⟨b1, b2⟩ := u64T_spec hG hc.2
        injection h with h
        subst h
        obtain ⟨v, u, rfl, h1, h2⟩ := args2 hv hlen
        have h1' := z9q.1 h1
        have h2' := z9q.1 h2
        obtain ⟨x, hx⟩ : ∃ x : Nat, a.den E = (x : Int) := ⟨(a.den E).toNat, by omega⟩
        obtain ⟨y, hy⟩ : ∃ y : Nat, b.den E = (y : Int) := ⟨(b.den E).toNat, by omega⟩
        rw [hx] at h1'
        rw [hy] at h2'
        subst h1' h2'
        refine (mul64_calls w x y (by omega) (by omega)).mono ?_
        rintro e w' ⟨rfl, rfl⟩
        refine ⟨_, rfl, ⟨[_, _], rfl, _, _, rfl, z9q.2 ?_, _, _, rfl, z9q.2 ?_, rfl⟩, Ext.refl _⟩
        · rw [IT.fold_den]
          show _ = Value.int .u64 (a.den E * b.den E / 18446744073709551616)
          rw [hx, hy, Int.natCast_ediv, Int.natCast_mul]; rfl
        · rw [IT.fold_den]
          show _ = Value.int .u64 (IntKind.u64.wrap (a.den E * b.den E))
          rw [hx, hy, IntKind.wrap_u64, Int.natCast_emod, Int.natCast_mul]; rfl
      · cases h
    · cases h
  · intro args G r h x off
    unfold kMul64 at h
    split at h
    · split at h
      · injection h with h; subst h; intro e; cases e
      · cases h
    · cases h
def i64R (x : IT) : BT := .and (.le (.lit (-9223372036854775808)) x) (.le x (.lit 9223372036854775807))
def kI64 : Con
  | [.val true [.int x _]], G => match (i64R x.fold).ev G with
    | some true => some (.tup [(false, [.n .i64 x.fold]), (false, [.b (.lit true)])])
    | some false => some (.tup [(false, [.n .i64 (.lit 0)]), (false, [.b (.lit false)])])
    | none => none
  | _, _ => none
theorem kI64_ok {E : Env} {f : Nat} (hc : ∀ (w : World) (v : Value) (z : Int), IsInt w v z → Calls Tryz.prog f #[v] w fun e w' => e = .returned (.tuple #[.int .i64 (i64v z), .bool (i64ok z)]) ∧ Ext w w')
    (hb : ∃ fn, Tryz.prog.funcs[f]? = some fn ∧ fn.name ≠ "runtime.NumGoroutine" ∧ fn.body.isNone = false) : ConOK Tryz.prog E f kI64 := by
  refine ⟨?_, ?_, hb⟩
  · intro args G r h hG β w vs hv hlen
    unfold kI64 at h
    split at h
    · rename_i x l
      have hev : ∀ b, (i64R x.fold).ev G = some b → i64ok (x.den E) = b := by
        intro b hb
        have := BT.ev_spec hG hb
        rw [← this]
        show _ = (decide (-9223372036854775808 ≤ x.fold.den E) && decide (x.fold.den E ≤ 9223372036854775807))
        rw [IT.fold_den]
        unfold i64ok
        rw [Bool.decide_and]
      obtain ⟨v, u, rfl⟩ : ∃ v, ∃ _u : Unit, vs = [v] := by
        match vs, hlen with
        | [v], _ => exact ⟨v, (), rfl⟩
      obtain ⟨v', hv', h1⟩ := hv 0 _ rfl
      injection hv' with hv'
      subst hv'
      obtain ⟨i1, _⟩ := z10q.1 h1
      split at h
      · rename_i ho
        injection h with h
        subst h
        have hk := hev _ ho
        refine (hc w v _ i1).mono ?_
        rintro e w' ⟨rfl, ex⟩
        refine ⟨_, rfl, ⟨[_, _], rfl, _, _, rfl, z9q.2 ?_, _, _, rfl, z11q.2 (by rw [hk]; rfl), rfl⟩, ex⟩
        rw [IT.fold_den]
        unfold i64v
        rw [if_pos (of_decide_eq_true hk)]
      · rename_i ho
        injection h with h
        subst h
        have hk := hev _ ho
        refine (hc w v _ i1).mono ?_
        rintro e w' ⟨rfl, ex⟩
        refine ⟨_, rfl, ⟨[_, _], rfl, _, _, rfl, z9q.2 ?_, _, _, rfl, z11q.2 (by rw [hk]; rfl), rfl⟩, ex⟩
        unfold i64v
        rw [if_neg (of_decide_eq_false hk)]; rfl
      · cases h
    · cases h
  · intro args G r h x off
    unfold kI64 at h
    split at h
    · split at h
      · injection h with h; subst h; intro e; cases e
      · injection h with h; subst h; intro e; cases e
      · cases h
    · cases h
end Go.Proofs.YtifeacfljfmnpaaGreat
end

section
set_option maxRecDepth 100000
namespace Go.Proofs.YtifeacfljfmnpaaGreat
open Go.RowKit
theorem mathSqrt_calls (w : World) (x r : Nat) (h : FloatKind.f64.format.sqrt x = some r) : Calls Tryz.prog 254 #[.float .f64 x] w fun e w' => e = .returned (.float .f64 r) ∧ Ext w w' := by
  go_enter Tryz.func254, Tryz.ntmps254
  go_wp2_with fail
  rw [run_callFunc_extern Tryz.func265 (by kernel_rfl) (by kernel_rfl) (by kernel_rfl) (show Extern.find Tryz.f265 = some Extern.MathSqrt.sqrt by kernel_rfl)]
  have hr : (Extern.MathSqrt.sqrt #[.float .f64 x]).run Tryz.prog w = .ok (.float .f64 r) w := by
    change Sem.run _ (match FloatKind.f64.format.sqrt x with | some r => (pure (.float .f64 r) : Sem Value) | none => do pure (.float .f64 (← choose (.nanBits .f64 x x)))) w = _
    rw [h]
    rfl
  rw [hr]
  simp only [Result.andThen, Oper.upon_value]
  go_wp2
  go_ret
  exact ⟨rfl, Ext.refl w⟩
end Go.Proofs.YtifeacfljfmnpaaGreat
end

section
set_option maxRecDepth 100000
namespace Go.Proofs.YtifeacfljfmnpaaGreat
open Go.RowKit
end Go.Proofs.YtifeacfljfmnpaaGreat
end

section
set_option maxRecDepth 100000
namespace Go.Proofs.YtifeacfljfmnpaaGreat
open Go.RowKit
end Go.Proofs.YtifeacfljfmnpaaGreat
end

section
set_option maxRecDepth 100000
namespace Go.Proofs.YtifeacfljfmnpaaGreat
open Go.RowKit
end Go.Proofs.YtifeacfljfmnpaaGreat
end

section
set_option maxRecDepth 100000
namespace Go.Proofs.YtifeacfljfmnpaaGreat
open Go.RowKit
def allT : Tree → Bool
  | .leaf [(false, [.b (.lit true)])] => true
  | .leaf _ => false
  | .ite _ x y => allT x && allT y
theorem allT_out {E : Env} {β : Nat → Nat} {w : World} {v : Value} : ∀ {T : Tree}, allT T = true → (toAV (T.pick E)).holds E β w v → v = .bool true := by
  intro T
  induction T with
  | leaf l =>
    intro h hh
    unfold allT at h
    split at h
    · rename_i e
      injection e with e
      subst e
      exact z11q.1 hh
    · cases h
    · rename_i e
      cases e
  | ite b x y ihx ihy =>
    intro h hh
    simp only [allT, Bool.and_eq_true] at h
    simp only [Tree.pick] at hh
    split at hh
    · exact ihx h.1 hh
    · exact ihy h.2 hh
def okTr : Option Tree → Bool
  | some T => allT T
  | none => false
theorem okTr_spec {o : Option Tree} (h : okTr o = true) : ∃ T, o = some T ∧ allT T = true := by
  cases o with
  | none => cases h
  | some T => exact ⟨T, rfl, h⟩
def IsT (w : World) (e : Ending) (w' : World) : Prop := e = .returned (.bool true) ∧ Ext w w'
def aIv (i : Nat) : AV := .val true [.n .i64 (.var (2 * i)), .n .i64 (.var (2 * i + 2))]
theorem qE_int {l : List Rat} {i : Nat} {x : Int} (h : l.getD i 0 = (x : Rat)) : (qE l).i (2 * i) = x := by
  show (if 2 * i % 2 = 0 then (l.getD (2 * i / 2) 0).num else _) = x
  rw [if_pos (by omega), show 2 * i / 2 = i by omega, h, Rat.num_intCast]
theorem aIv_holds {l : List Rat} {β : Nat → Nat} {w : World} {i : Nat} {x y : Int} (hx : l.getD i 0 = (x : Rat)) (hy : l.getD (i + 1) 0 = (y : Rat)) : (aIv i).holds (qE l) β w (.agg #[.int .i64 x, .int .i64 y]) := by
  refine ⟨[_, _], rfl, [_], _, rfl, ?_, [_], [], rfl, ?_, rfl⟩
  · show [Value.int .i64 x] = [Value.int .i64 ((qE l).i (2 * i))]
    rw [qE_int hx]
  · show [Value.int .i64 y] = [Value.int .i64 ((qE l).i (2 * (i + 1)))]
    rw [qE_int hy]
end Go.Proofs.YtifeacfljfmnpaaGreat
end

section
set_option maxRecDepth 100000
namespace Go.Proofs.YtifeacfljfmnpaaGreat
open Go.RowKit
def lM : IT := .lit (-2305843009213693952)
def lP : IT := .lit 2305843009213693952
def gR (t : IT) : Asm := [(.le (.lit (-9223372036854775808)) t, true), (.le t (.lit 9223372036854775807), true)]
def sS0 : IT := .a2 0 (.var 0) (.var 4)
def sS1 : IT := .a2 0 (.var 2) (.var 6)
theorem asm_app {E : Env} {G H : Asm} (h : G.holds E) (k : H.holds E) : Asm.holds E (G ++ H) := fun p hp => by
  rcases List.mem_append.1 hp with hp | hp
  · exact h p hp
  · exact k p hp
theorem asm_c {E : Env} {t : BT} {b : Bool} {G : Asm} (h : t.den E = b) (k : G.holds E) : Asm.holds E ((t, b) :: G) := fun p hp => by
  rcases List.mem_cons.1 hp with rfl | hp
  · exact h
  · exact k p hp
theorem gR_ok {E : Env} {t : IT} (h : -9223372036854775808 ≤ t.den E ∧ t.den E ≤ 9223372036854775807) : Asm.holds E (gR t) := asm_c (decide_eq_true h.1) (asm_c (decide_eq_true h.2) z8q)
def Prp (x y : Int) : Prop := x ≤ y ∧ -2305843009213693952 ≤ x ∧ y ≤ 2305843009213693952
end Go.Proofs.YtifeacfljfmnpaaGreat
end

section
set_option maxRecDepth 100000
namespace Go.Proofs.YtifeacfljfmnpaaGreat
open Go.RowKit
def twoW (hi lo : IT) : IT := .a2 0 (.a2 17 hi (.lit 64)) lo
def kDiv64 : Con
  | [.val false [.n .u64 hi], .val false [.n .u64 lo], .val false [.n .u64 y]], G => if u64T G hi && (u64T G lo && (u64T G y && (BT.lt hi y).ev G == some true)) then
      some (.tup [(false, [.n .u64 (IT.a2 16 (twoW hi lo) y).fold]), (false, [.n .u64 (IT.a2 15 (twoW hi lo) y).fold])]) else none
  | _, _ => none
theorem kDiv64_ok {E : Env} : ConOK Tryz.prog E 233 kDiv64 := by
  refine ⟨?_, ?_, ⟨_, Tryz.func233, by decide +kernel, by kernel_rfl⟩⟩
  · intro args G r h hG β w vs hv hlen
    unfold kDiv64 at h
    split at h
    · rename_i a b c
      split at h
      · rename_i hc
        simp only [Bool.and_eq_true, beq_iff_eq] at hc
        obtain ⟨c1, c2, c3, c4⟩ := hc
        obtain ⟨a1, a2⟩ := u64T_spec hG c1
        obtain ⟨b1, b2⟩ := u64T_spec hG c2
        obtain ⟨y1, y2⟩ := u64T_spec hG c3
        have hlt : a.den E < c.den E := of_decide_eq_true (BT.ev_spec hG c4)
        injection h with h
        subst h
        obtain ⟨v1, h1, g1⟩ := hv 0 _ rfl
        obtain ⟨v2, h2, g2⟩ := hv 1 _ rfl
        obtain ⟨v3, h3, g3⟩ := hv 2 _ rfl
        obtain rfl : vs = [v1, v2, v3] := by
          match vs, hlen, h1, h2, h3 with
          | [p, q, r], _, h1, h2, h3 =>
            injection h1 with h1; injection h2 with h2; injection h3 with h3
            subst h1 h2 h3; rfl
        have g1' := z9q.1 g1
        have g2' := z9q.1 g2
        have g3' := z9q.1 g3
        obtain ⟨x, hx⟩ : ∃ x : Nat, a.den E = (x : Int) := ⟨(a.den E).toNat, by omega⟩
        obtain ⟨l, hl⟩ : ∃ l : Nat, b.den E = (l : Int) := ⟨(b.den E).toNat, by omega⟩
        obtain ⟨y, hy⟩ : ∃ y : Nat, c.den E = (y : Int) := ⟨(c.den E).toNat, by omega⟩
        rw [hx] at g1'
        rw [hl] at g2'
        rw [hy] at g3'
        subst g1' g2' g3'
        have hw : (twoW a b).den E = ((x * 18446744073709551616 + l : Nat) : Int) := by
          show a.den E * 2 ^ (Int.toNat 64) + b.den E = _
          rw [hx, hl]
          have : (2 : Int) ^ (Int.toNat 64) = 18446744073709551616 := rfl
          rw [this]
          omega
        refine (div64_any w x l y (by omega) (by omega) (by omega)).mono ?_
        rintro e w' ⟨rfl, he⟩
        refine ⟨_, rfl, ⟨[_, _], rfl, _, _, rfl, z9q.2 ?_, _, _, rfl, z9q.2 ?_, rfl⟩, he⟩
        · rw [IT.fold_den]
          show _ = Value.int .u64 (((twoW a b).den E).tdiv (c.den E))
          rw [hw, hy, ← Int.ofNat_tdiv]
        · rw [IT.fold_den]
          show _ = Value.int .u64 (((twoW a b).den E).tmod (c.den E))
          rw [hw, hy, ← Int.ofNat_tmod]
      · cases h
    · cases h
  · intro args G r h x off
    unfold kDiv64 at h
    split at h
    · split at h
      · injection h with h; subst h; intro e; cases e
      · cases h
    · cases h
end Go.Proofs.YtifeacfljfmnpaaGreat
end

section
set_option maxRecDepth 100000
namespace Go.Proofs.YtifeacfljfmnpaaGreat
open Ieee
theorem cut_even {n drop : Nat} (h : drop ≤ n.log2 + 2) : 2 * (Toward.even.cut false n drop * 2 ^ drop) ≤ 2 * n + 2 ^ drop ∧ 2 * n ≤ 2 * (Toward.even.cut false n drop * 2 ^ drop) + 2 ^ drop := by
  unfold Toward.cut
  rw [Nat.min_eq_left h]
  have hg : 1 <<< drop = 2 ^ drop := by rw [Nat.shiftLeft_eq, Nat.one_mul]
  have hp : 0 < 2 ^ drop := Nat.pow_pos (by decide)
  simp only [hg]
  generalize 2 ^ drop = g at *
  have hn : n / g * g + n % g = n := by have := Nat.div_add_mod n g; rw [Nat.mul_comm] at this; exact this
  have hr : n % g < g := Nat.mod_lt _ hp
  generalize n / g = q at *
  generalize n % g = r at *
  have e : ∀ b : Bool, (q + b.toNat) * g = q * g + (if b then g else 0) := by
    intro b
    cases b
    · simp
    · simp [Nat.add_mul]
  rw [e]
  generalize q * g = Q at *
  split
  · rename_i hb
    simp only [Bool.or_eq_true, decide_eq_true_iff, Bool.and_eq_true, beq_iff_eq] at hb
    rcases hb with hb | ⟨hb, _⟩ <;> omega
  · rename_i hb
    simp only [Bool.or_eq_true, decide_eq_true_iff, Bool.and_eq_true, beq_iff_eq, not_or] at hb
    omega
theorem cut_zero {n : Nat} : Toward.even.cut false n 0 = n := by
  have h := cut_even (n := n) (drop := 0) (by omega)
  rw [Nat.pow_zero] at h
  omega
theorem read_normal {k : Nat} {last : Int} (h1 : 4503599627370496 ≤ k) (h2 : k < 9007199254740992) (h3 : -1074 ≤ last) (h4 : last ≤ 900) :
    double.read ((last + 1074).toNat * 4503599627370496 + k) = .number false k last := by
  obtain ⟨L, hL⟩ : ∃ L : Nat, last = (L : Int) - 1074 := ⟨(last + 1074).toNat, by omega⟩
  subst hL
  have e0 : ((L : Int) - 1074 + 1074).toNat = L := by omega
  rw [e0]
  have hL2 : L ≤ 1974 := by omega
  unfold Format.read
  have s1 : double.signWeight = 9223372036854775808 := by decide
  have s2 : double.binade = 4503599627370496 := by decide
  have s3 : double.infRung = 9218868437227405312 := by decide
  have s4 : double.leastPlace = -1074 := by decide
  simp only [s1, s2, s3, s4]
  have m0 : (L * 4503599627370496 + k) / 9223372036854775808 % 2 = 0 := by omega
  have m1 : (L * 4503599627370496 + k) % 9223372036854775808 = L * 4503599627370496 + k := by omega
  simp only [m0, m1]
  have c1 : ¬ (L * 4503599627370496 + k < 4503599627370496) := by omega
  have c2 : L * 4503599627370496 + k < 9218868437227405312 := by omega
  simp only [c1, c2, if_false, if_true]
  have m2 : (L * 4503599627370496 + k) / 4503599627370496 = L + 1 := by omega
  have m3 : (L * 4503599627370496 + k) % 4503599627370496 = k - 4503599627370496 := by omega
  simp only [m2, m3]
  have e1 : 4503599627370496 + (k - 4503599627370496) = k := by omega
  have e2 : (-1074 : Int) + ((L + 1 - 1 : Nat) : Int) = (L : Int) - 1074 := by omega
  rw [e1, e2]
  rfl
theorem log2_bounds {n : Nat} (h : n ≠ 0) : 2 ^ n.log2 ≤ n ∧ n < 2 ^ (n.log2 + 1) := ⟨Nat.log2_self_le h, Nat.lt_log2_self⟩
theorem near_exact {m : Nat} {p : Int} (h0 : m ≠ 0) (hb : m.log2 ≤ 52) (h1 : -1000 ≤ p + m.log2 - 52) (h2 : p + m.log2 - 52 ≤ 900) :
    double.read (double.nearest false m p) = .number false (m * 2 ^ (52 - m.log2)) (p + m.log2 - 52) := by
  obtain ⟨b1, b2⟩ := log2_bounds h0
  unfold Format.nearest
  rw [if_neg h0]
  have s4 : double.leastPlace = -1074 := by decide
  have s5 : (double.fractionBits : Int) = 52 := by decide
  have s2 : double.binade = 4503599627370496 := by decide
  have s3 : double.infRung = 9218868437227405312 := by decide
  simp only [s4, s5, s2, s3]
  have hlast : max (p + (m.log2 : Int) - 52) (-1074) = p + m.log2 - 52 := by omega
  rw [hlast]
  have hd : (p + (m.log2 : Int) - 52 - p).toNat = 0 := by omega
  have hu : (p - (p + (m.log2 : Int) - 52)).toNat = 52 - m.log2 := by omega
  rw [hd, hu, cut_zero, Nat.shiftLeft_eq]
  have k1 : 4503599627370496 ≤ m * 2 ^ (52 - m.log2) := by
    have e : (4503599627370496 : Nat) = 2 ^ m.log2 * 2 ^ (52 - m.log2) := by rw [← Nat.pow_add, show m.log2 + (52 - m.log2) = 52 by omega]
    rw [e]
    exact Nat.mul_le_mul_right _ b1
  have k2 : m * 2 ^ (52 - m.log2) < 9007199254740992 := by
    have e : (9007199254740992 : Nat) = 2 ^ (m.log2 + 1) * 2 ^ (52 - m.log2) := by rw [← Nat.pow_add, show m.log2 + 1 + (52 - m.log2) = 53 by omega]
    rw [e]
    exact Nat.mul_lt_mul_of_pos_right b2 (Nat.pow_pos (by decide))
  generalize m * 2 ^ (52 - m.log2) = k at *
  generalize p + (m.log2 : Int) - 52 = last at *
  have hr := read_normal k1 k2 (by omega) h2
  obtain ⟨L, hL⟩ : ∃ L, L = (last + 1074).toNat := ⟨_, rfl⟩
  have hs : (last - -1074).toNat = L := by omega
  have hL2 : L ≤ 1974 := by omega
  rw [← hL] at hr
  rw [hs]
  have hm : L * 4503599627370496 + k ≤ 9218868437227405312 := by omega
  rw [Nat.min_eq_left hm]
  exact hr
theorem near_round {n d : Nat} (hd : n.log2 = 52 + d) (h0 : 1 ≤ d) (h2 : d ≤ 100) :
    ∃ k e : Nat, double.read (double.nearest false n 0) = .number false k (e : Int) ∧ 4503599627370496 ≤ k ∧ k < 9007199254740992 ∧ 2 * (k * 2 ^ e) ≤ 2 * n + 2 ^ d ∧ 2 * n ≤ 2 * (k * 2 ^ e) + 2 ^ d ∧ (e = d ∨ e = d + 1 ∧ k = 4503599627370496) := by
  have hn : n ≠ 0 := by
    intro h
    subst h
    simp at hd
    omega
  obtain ⟨b1, b2⟩ := log2_bounds hn
  rw [hd] at b1 b2
  have hcut := cut_even (n := n) (drop := d) (by omega)
  have hP : 0 < 2 ^ d := Nat.pow_pos (by decide)
  have q1 : (2 : Nat) ^ 52 = 4503599627370496 := by decide
  have q2 : (2 : Nat) ^ 53 = 9007199254740992 := by decide
  have p1 : (2 : Nat) ^ (52 + d) = 4503599627370496 * 2 ^ d := by rw [Nat.pow_add, q1]
  have p2 : (2 : Nat) ^ (52 + d + 1) = 9007199254740992 * 2 ^ d := by
    rw [show 52 + d + 1 = 53 + d by omega, Nat.pow_add, q2]
  rw [p1] at b1
  rw [p2] at b2
  have p3 : (2 : Nat) ^ (d + 1) = 2 * 2 ^ d := by rw [Nat.pow_succ, Nat.mul_comm]
  obtain ⟨c, hc⟩ : ∃ c, c = Toward.even.cut false n d := ⟨_, rfl⟩
  rw [← hc] at hcut
  have hw : double.nearest false n 0 = min ((d + 1074) * 4503599627370496 + c) 9218868437227405312 := by
    unfold Format.nearest
    rw [if_neg hn]
    have s4 : double.leastPlace = -1074 := by decide
    have s5 : (double.fractionBits : Int) = 52 := by decide
    have s2 : double.binade = 4503599627370496 := by decide
    have s3 : double.infRung = 9218868437227405312 := by decide
    simp only [s4, s5, s2, s3, hd]
    have hlast : max ((0 : Int) + ((52 + d : Nat) : Int) - 52) (-1074) = (d : Int) := by omega
    rw [hlast]
    have e1 : ((0 : Int) - (d : Int)).toNat = 0 := by omega
    have e2 : ((d : Int) - 0).toNat = d := by omega
    have e3 : ((d : Int) - -1074).toNat = d + 1074 := by omega
    rw [e1, e2, e3, Nat.shiftLeft_zero, ← hc]
    simp only [Format.word, Bool.false_eq_true, if_false]
  have c1 : 4503599627370496 ≤ c := by
    refine Decidable.byContradiction fun h => ?_
    have h' : c + 1 ≤ 4503599627370496 := by omega
    have := Nat.mul_le_mul_right (2 ^ d) h'
    rw [Nat.add_mul, Nat.one_mul] at this
    omega
  have c2 : c ≤ 9007199254740992 := by
    refine Decidable.byContradiction fun h => ?_
    have h' : 9007199254740992 + 1 ≤ c := by omega
    have := Nat.mul_le_mul_right (2 ^ d) h'
    rw [Nat.add_mul, Nat.one_mul] at this
    omega
  rw [hw]
  clear hw hc
  have hle : (d + 1074) * 4503599627370496 + c ≤ 9218868437227405312 := by omega
  rw [Nat.min_eq_left hle]
  rcases Nat.lt_or_ge c 9007199254740992 with h | h
  · have hr := read_normal (k := c) (last := (d : Int)) c1 h (by omega) (by omega)
    have e3 : ((d : Int) + 1074).toNat = d + 1074 := by omega
    rw [e3] at hr
    exact ⟨c, d, hr, c1, h, hcut.1, hcut.2, .inl rfl⟩
  · have hcc : c = 9007199254740992 := by omega
    have hr := read_normal (k := 4503599627370496) (last := ((d + 1 : Nat) : Int)) (by omega) (by omega) (by omega) (by omega)
    have e3 : (((d + 1 : Nat) : Int) + 1074).toNat = d + 1075 := by omega
    rw [e3] at hr
    have e4 : (d + 1074) * 4503599627370496 + c = (d + 1075) * 4503599627370496 + 4503599627370496 := by omega
    rw [e4]
    refine ⟨4503599627370496, d + 1, hr, by omega, by omega, ?_, ?_, .inr ⟨rfl, rfl⟩⟩
    · rw [p3]; rw [hcc] at hcut; omega
    · rw [p3]; rw [hcc] at hcut; omega
theorem rootFrom_spec {n : Nat} : ∀ (todo root : Nat), root * root ≤ n → n < (root + 2 ^ todo) * (root + 2 ^ todo) → Datum.rootFrom n todo root * Datum.rootFrom n todo root ≤ n ∧ n < (Datum.rootFrom n todo root + 1) * (Datum.rootFrom n todo root + 1)
  | 0, root, h1, h2 => by
    unfold Datum.rootFrom
    exact ⟨h1, h2⟩
  | todo + 1, root, h1, h2 => by
    have hg : 1 <<< todo = 2 ^ todo := by rw [Nat.shiftLeft_eq, Nat.one_mul]
    have hs : 2 ^ (todo + 1) = 2 ^ todo + 2 ^ todo := by rw [Nat.pow_succ]; omega
    rw [hs, ← Nat.add_assoc] at h2
    unfold Datum.rootFrom
    simp only [hg]
    split
    · rename_i h
      exact rootFrom_spec todo _ h h2
    · rename_i h
      exact rootFrom_spec todo _ h1 (by omega)
theorem root_digits (n : Nat) : Datum.rootFrom n (n.log2 / 2 + 1) 0 * Datum.rootFrom n (n.log2 / 2 + 1) 0 ≤ n ∧ n < (Datum.rootFrom n (n.log2 / 2 + 1) 0 + 1) * (Datum.rootFrom n (n.log2 / 2 + 1) 0 + 1) := by
  refine rootFrom_spec _ _ (by omega) ?_
  rw [Nat.zero_add, ← Nat.pow_add]
  refine Nat.lt_of_lt_of_le (Nat.lt_log2_self (n := n)) (Nat.pow_le_pow_right (by decide) (by omega))
theorem cut_mul {k t : Nat} (h : t ≤ (k * 2 ^ t).log2 + 2) : Toward.even.cut false (k * 2 ^ t) t = k := by
  obtain ⟨h1, h2⟩ := cut_even h
  have hg : 0 < 2 ^ t := Nat.pow_pos (by decide)
  generalize Toward.even.cut false (k * 2 ^ t) t = c at *
  generalize 2 ^ t = g at *
  rcases Nat.lt_trichotomy c k with hc | hc | hc
  · exfalso
    have := Nat.mul_le_mul_right g (show c + 1 ≤ k by omega)
    rw [Nat.add_mul, Nat.one_mul] at this
    omega
  · exact hc
  · exfalso
    have := Nat.mul_le_mul_right g (show k + 1 ≤ c by omega)
    rw [Nat.add_mul, Nat.one_mul] at this
    omega
theorem log2_mul {k t : Nat} (h1 : 4503599627370496 ≤ k) (h2 : k < 9007199254740992) : (k * 2 ^ t).log2 = 52 + t := by
  have q1 : (2 : Nat) ^ 52 = 4503599627370496 := by decide
  have q2 : (2 : Nat) ^ 53 = 9007199254740992 := by decide
  have hg : 0 < 2 ^ t := Nat.pow_pos (by decide)
  have hne : k * 2 ^ t ≠ 0 := Nat.ne_of_gt (Nat.mul_pos (by omega) hg)
  refine (Nat.log2_eq_iff hne).2 ⟨?_, ?_⟩
  · rw [Nat.pow_add, q1]
    exact Nat.mul_le_mul_right _ h1
  · rw [show 52 + t + 1 = 53 + t by omega, Nat.pow_add, q2]
    exact Nat.mul_lt_mul_of_pos_right h2 hg
theorem near_shift {k t : Nat} {p : Int} (h1 : 4503599627370496 ≤ k) (h2 : k < 9007199254740992) (h3 : -1000 ≤ p + t) (h4 : p + t ≤ 900) :
    double.read (double.nearest false (k * 2 ^ t) p) = .number false k (p + t) := by
  have hl := log2_mul (t := t) h1 h2
  have hg : 0 < 2 ^ t := Nat.pow_pos (by decide)
  have hne : k * 2 ^ t ≠ 0 := Nat.ne_of_gt (Nat.mul_pos (by omega) hg)
  have hc : Toward.even.cut false (k * 2 ^ t) t = k := cut_mul (by omega)
  have hr := read_normal (k := k) (last := p + t) h1 h2 (by omega) h4
  obtain ⟨L, hL⟩ : ∃ L, L = (p + (t : Int) + 1074).toNat := ⟨_, rfl⟩
  have hw : double.nearest false (k * 2 ^ t) p = min (L * 4503599627370496 + k) 9218868437227405312 := by
    unfold Format.nearest
    rw [if_neg hne]
    have s4 : double.leastPlace = -1074 := by decide
    have s5 : (double.fractionBits : Int) = 52 := by decide
    have s2 : double.binade = 4503599627370496 := by decide
    have s3 : double.infRung = 9218868437227405312 := by decide
    simp only [s4, s5, s2, s3, hl]
    have hlast : max (p + ((52 + t : Nat) : Int) - 52) (-1074) = p + t := by omega
    rw [hlast]
    have e1 : (p - (p + (t : Int))).toNat = 0 := by omega
    have e2 : (p + (t : Int) - p).toNat = t := by omega
    have e3 : (p + (t : Int) - -1074).toNat = L := by omega
    rw [e1, e2, e3, Nat.shiftLeft_zero, hc]
    simp only [Format.word, Bool.false_eq_true, if_false]
  rw [← hL] at hr
  rw [hw]
  have hL2 : L ≤ 1974 := by omega
  clear hw hc hl hL
  have hle : L * 4503599627370496 + k ≤ 9218868437227405312 := by omega
  rw [Nat.min_eq_left hle]
  exact hr
theorem near_place {n d : Nat} {p : Int} (hd : n.log2 = 52 + d) (h1 : -1000 ≤ p + d) (h2 : p + d ≤ 800) :
    ∃ c k e : Nat, double.read (double.nearest false n p) = .number false k (p + d + e) ∧ 4503599627370496 ≤ k ∧ k < 9007199254740992 ∧ (k * 2 ^ e = c ∧ e ≤ 1) ∧ 2 * (c * 2 ^ d) ≤ 2 * n + 2 ^ d ∧ 2 * n ≤ 2 * (c * 2 ^ d) + 2 ^ d := by
  have hn : n ≠ 0 := by
    intro h
    subst h
    simp at hd
    omega
  obtain ⟨b1, b2⟩ := log2_bounds hn
  rw [hd] at b1 b2
  have hcut := cut_even (n := n) (drop := d) (by omega)
  have hP : 0 < 2 ^ d := Nat.pow_pos (by decide)
  have q1 : (2 : Nat) ^ 52 = 4503599627370496 := by decide
  have q2 : (2 : Nat) ^ 53 = 9007199254740992 := by decide
  have p1 : (2 : Nat) ^ (52 + d) = 4503599627370496 * 2 ^ d := by rw [Nat.pow_add, q1]
  have p2 : (2 : Nat) ^ (52 + d + 1) = 9007199254740992 * 2 ^ d := by
    rw [show 52 + d + 1 = 53 + d by omega, Nat.pow_add, q2]
  rw [p1] at b1
  rw [p2] at b2
  obtain ⟨c, hc⟩ : ∃ c, c = Toward.even.cut false n d := ⟨_, rfl⟩
  rw [← hc] at hcut
  obtain ⟨L, hL⟩ : ∃ L, L = (p + (d : Int) + 1074).toNat := ⟨_, rfl⟩
  have hw : double.nearest false n p = min (L * 4503599627370496 + c) 9218868437227405312 := by
    unfold Format.nearest
    rw [if_neg hn]
    have s4 : double.leastPlace = -1074 := by decide
    have s5 : (double.fractionBits : Int) = 52 := by decide
    have s2 : double.binade = 4503599627370496 := by decide
    have s3 : double.infRung = 9218868437227405312 := by decide
    simp only [s4, s5, s2, s3, hd]
    have hlast : max (p + ((52 + d : Nat) : Int) - 52) (-1074) = p + (d : Int) := by omega
    rw [hlast]
    have e1 : (p - (p + (d : Int))).toNat = 0 := by omega
    have e2 : (p + (d : Int) - p).toNat = d := by omega
    have e3 : (p + (d : Int) - -1074).toNat = L := by omega
    rw [e1, e2, e3, Nat.shiftLeft_zero, ← hc]
    simp only [Format.word, Bool.false_eq_true, if_false]
  have c1 : 4503599627370496 ≤ c := by
    refine Decidable.byContradiction fun h => ?_
    have h' : c + 1 ≤ 4503599627370496 := by omega
    have := Nat.mul_le_mul_right (2 ^ d) h'
    rw [Nat.add_mul, Nat.one_mul] at this
    omega
  have c2 : c ≤ 9007199254740992 := by
    refine Decidable.byContradiction fun h => ?_
    have h' : 9007199254740992 + 1 ≤ c := by omega
    have := Nat.mul_le_mul_right (2 ^ d) h'
    rw [Nat.add_mul, Nat.one_mul] at this
    omega
  rw [hw]
  have hL2 : L ≤ 1874 := by omega
  clear hw hc b1 b2 p1 p2
  have hle : L * 4503599627370496 + c ≤ 9218868437227405312 := by omega
  rw [Nat.min_eq_left hle]
  rcases Nat.lt_or_ge c 9007199254740992 with h | h
  · have hr := read_normal (k := c) (last := p + (d : Int)) c1 h (by omega) (by omega)
    rw [← hL] at hr
    refine ⟨c, c, 0, ?_, c1, h, ⟨by simp, by omega⟩, hcut.1, hcut.2⟩
    rw [hr]
    simp
  · have hcc : c = 9007199254740992 := by omega
    have hr := read_normal (k := 4503599627370496) (last := p + (d : Int) + 1) (by omega) (by omega) (by omega) (by omega)
    have e3 : (p + (d : Int) + 1 + 1074).toNat = L + 1 := by omega
    rw [e3] at hr
    have e4 : L * 4503599627370496 + c = (L + 1) * 4503599627370496 + 4503599627370496 := by omega
    rw [e4]
    refine ⟨c, 4503599627370496, 1, ?_, by omega, by omega, ⟨by omega, by omega⟩, hcut.1, hcut.2⟩
    rw [hr]
    rfl
theorem root_normal {k : Nat} {i : Int} (h1 : 4503599627370496 ≤ k) (h2 : k < 9007199254740992) : ∃ q W st : Nat, q ≤ 1 ∧ (i - 56 - q) % 2 = 0 ∧ st ≤ 1 ∧ (st = 0 ↔ W * W = k * 2 ^ (56 + q)) ∧ W * W ≤ k * 2 ^ (56 + q) ∧ k * 2 ^ (56 + q) < (W + 1) * (W + 1) ∧
    (Datum.number false k i).root 54 = some (.number false (2 * W + st) ((i - 56 - q) / 2 - 1)) := by
  obtain ⟨q, hq⟩ : ∃ q, q = ((i - 56) % 2).toNat := ⟨_, rfl⟩
  have hl : k.log2 = 52 := by
    have := log2_mul (t := 0) h1 h2
    rwa [Nat.pow_zero, Nat.mul_one] at this
  have hk : k ≠ 0 := by omega
  obtain ⟨n, hn⟩ : ∃ n, n = k * 2 ^ (56 + q) := ⟨_, rfl⟩
  obtain ⟨d1, d2⟩ := root_digits n
  obtain ⟨W, hW⟩ : ∃ W, W = Datum.rootFrom n (n.log2 / 2 + 1) 0 := ⟨_, rfl⟩
  rw [← hW] at d1 d2
  refine ⟨q, W, (W * W != n).toNat, by omega, by omega, by cases (W * W != n) <;> decide, ?_, by rw [← hn]; exact d1, by rw [← hn]; exact d2, ?_⟩
  · rw [← hn]
    cases hb : (W * W != n) with
    | true =>
      have : W * W ≠ n := by simpa using hb
      simp [this]
    | false =>
      have : W * W = n := by simpa using hb
      simp [this]
  · unfold Datum.root
    simp only [hk, Bool.false_eq_true, if_false, hl]
    have e1 : 2 * 54 - 52 = 56 := rfl
    rw [e1]
    have e2 : ((i - ((56 : Nat) : Int)) % 2).toNat = q := by rw [hq]; rfl
    rw [e2, Nat.shiftLeft_eq, ← hn, ← hW]
    have e3 : (i - ((56 + q : Nat) : Int)) = i - 56 - q := by omega
    rw [e3]
theorem root_reaches {n W st c X : Nat} (h1 : W * W ≤ n) (h2 : n < (W + 1) * (W + 1)) (h3 : st = 0 ↔ W * W = n) (hr : 2 * (2 * W + st) ≤ 2 * (c * 2 ^ 3) + 2 ^ 3) (hX : 2 ≤ X) (h4 : X % 4 = 0) (hn : (X - 2) * (X - 2) < n) : X ≤ 4 * c := by
  refine Decidable.byContradiction fun hc => ?_
  have e : (2 : Nat) ^ 3 = 8 := by decide
  rw [e] at hr
  have hW : W ≤ X - 2 := by omega
  rcases Nat.lt_or_ge W (X - 2) with h | h
  · have := Nat.mul_le_mul (show W + 1 ≤ X - 2 by omega) (show W + 1 ≤ X - 2 by omega)
    omega
  · obtain rfl : W = X - 2 := by omega
    have hs : st = 0 := by omega
    have := h3.1 hs
    omega
theorem root_below {n W st c Y : Nat} (h1 : W * W ≤ n) (hst : st ≤ 1) (hr : 2 * (c * 2 ^ 3) ≤ 2 * (2 * W + st) + 2 ^ 3) (hY : 4 ≤ Y) (hn : n < (Y - 3) * (Y - 3)) : 4 * c < Y := by
  have e : (2 : Nat) ^ 3 = 8 := by decide
  rw [e] at hr
  have hW : W < Y - 3 := by
    refine Decidable.byContradiction fun h => ?_
    have := Nat.mul_le_mul (show Y - 3 ≤ W by omega) (show Y - 3 ≤ W by omega)
    omega
  omega
theorem toInt_zero (k d : Nat) : (Datum.number false k (-(d : Int))).toInt .zero = some ((k / 2 ^ d : Nat) : Int) := by
  unfold Datum.toInt Datum.integral
  have e1 : (-(d : Int)).toNat = 0 := by omega
  have e2 : (- -(d : Int)).toNat = d := by omega
  simp only [e1, e2, Nat.shiftLeft_zero]
  have hc : Toward.zero.cut false k d = k / 2 ^ d := by
    unfold Toward.cut
    simp only [Bool.toNat_false, Nat.add_zero]
    rw [Nat.shiftLeft_eq, Nat.one_mul]
    rcases Nat.le_total d (k.log2 + 2) with h | h
    · rw [Nat.min_eq_left h]
    · rw [Nat.min_eq_right h]
      have b : k < 2 ^ (k.log2 + 1) := Nat.lt_log2_self
      have b1 : k < 2 ^ (k.log2 + 2) := Nat.lt_of_lt_of_le b (Nat.pow_le_pow_right (by decide) (by omega))
      have b2 : k < 2 ^ d := Nat.lt_of_lt_of_le b1 (Nat.pow_le_pow_right (by decide) h)
      rw [Nat.div_eq_of_lt b1, Nat.div_eq_of_lt b2]
  rw [hc]
  unfold signed
  simp
theorem sqrt_normal {x k : Nat} {i : Int} (hx : double.read x = .number false k i) (h1 : 4503599627370496 ≤ k) (h2 : k < 9007199254740992) (h3 : -800 ≤ i) (h4 : i ≤ 600) :
    ∃ r q W st c k' e : Nat, double.sqrt x = some r ∧ double.read r = .number false k' ((i - 56 - q) / 2 + 2 + e) ∧ (k' * 2 ^ e = c ∧ e ≤ 1) ∧ q ≤ 1 ∧ (i - 56 - q) % 2 = 0 ∧ st ≤ 1 ∧ (st = 0 ↔ W * W = k * 2 ^ (56 + q)) ∧ W * W ≤ k * 2 ^ (56 + q) ∧ k * 2 ^ (56 + q) < (W + 1) * (W + 1) ∧
      2 * (2 * W + st) ≤ 2 * (c * 2 ^ 3) + 2 ^ 3 ∧ 2 * (c * 2 ^ 3) ≤ 2 * (2 * W + st) + 2 ^ 3 := by
  obtain ⟨q, W, st, hq, hpar, hst, hst0, hW1, hW2, hroot⟩ := root_normal (i := i) h1 h2
  have q54 : (2 : Nat) ^ 54 = 18014398509481984 := by decide
  have q55 : (2 : Nat) ^ 55 = 36028797018963968 := by decide
  have lo : 18014398509481984 ≤ W := by
    refine Decidable.byContradiction fun h => ?_
    have a1 := Nat.mul_le_mul (show W + 1 ≤ 18014398509481984 by omega) (show W + 1 ≤ 18014398509481984 by omega)
    have a2 : 4503599627370496 * 2 ^ 56 ≤ k * 2 ^ (56 + q) := Nat.mul_le_mul h1 (Nat.pow_le_pow_right (by decide) (by omega))
    have a3 : (18014398509481984 * 18014398509481984 : Nat) = 4503599627370496 * 2 ^ 56 := by decide
    omega
  have hi : W < 36028797018963968 := by
    refine Decidable.byContradiction fun h => ?_
    have a1 := Nat.mul_le_mul (show 36028797018963968 ≤ W by omega) (show 36028797018963968 ≤ W by omega)
    have a2 : k * 2 ^ (56 + q) ≤ k * 2 ^ 57 := Nat.mul_le_mul_left k (Nat.pow_le_pow_right (by decide) (by omega))
    have a3 : (36028797018963968 * 36028797018963968 : Nat) = 9007199254740992 * 2 ^ 57 := by decide
    have a4 : k * 2 ^ 57 < 9007199254740992 * 2 ^ 57 := Nat.mul_lt_mul_of_pos_right h2 (by decide)
    omega
  have hl : (2 * W + st).log2 = 52 + 3 := by
    refine (Nat.log2_eq_iff (by omega)).2 ⟨?_, ?_⟩
    · rw [show 52 + 3 = 55 from rfl, q55]; omega
    · have q56 : (2 : Nat) ^ 56 = 72057594037927936 := by decide
      rw [show 52 + 3 + 1 = 56 from rfl, q56]; omega
  obtain ⟨c, k', e, hr, _, _, hk, hc1, hc2⟩ := near_place (n := 2 * W + st) (d := 3) (p := (i - 56 - q) / 2 - 1) hl (by omega) (by omega)
  refine ⟨double.nearest false (2 * W + st) ((i - 56 - q) / 2 - 1), q, W, st, c, k', e, ?_, ?_, hk, hq, hpar, hst, hst0, hW1, hW2, hc2, hc1⟩
  · have s5 : double.fractionBits + 2 = 54 := by decide
    unfold Format.sqrt
    rw [hx, s5, hroot]
    rfl
  · rw [hr]
    congr 1
    omega
theorem mul_scale {x k : Nat} {i : Int} (hx : double.read x = .number false k i) (h1 : 4503599627370496 ≤ k) (h2 : k < 9007199254740992) (h3 : -800 ≤ i) (h4 : i ≤ 600) :
    ∃ r : Nat, double.mul x 4679240012837945344 = some r ∧ double.read r = .number false k (i + 16) := by
  have hs : double.read 4679240012837945344 = .number false 4503599627370496 (-36) := by decide +kernel
  have q1 : (2 : Nat) ^ 52 = 4503599627370496 := by decide
  have hr := near_shift (t := 52) (p := i + -36) h1 h2 (by omega) (by omega)
  rw [q1] at hr
  refine ⟨double.nearest false (k * 4503599627370496) (i + -36), ?_, ?_⟩
  · unfold Format.mul
    rw [hx, hs]
    rfl
  · rw [hr]
    congr 1
    omega
theorem near_int {n : Nat} (h0 : n ≠ 0) (hn : n < 4611686018427387904) : ∃ (k : Nat) (i : Int), double.read (double.nearest false n 0) = .number false k i ∧ 4503599627370496 ≤ k ∧ k < 9007199254740992 ∧ -52 ≤ i ∧ i ≤ 10 ∧
    ((i ≤ 0 ∧ k = n * 2 ^ (-i).toNat) ∨ (1 ≤ i ∧ 2 * (k * 2 ^ i.toNat) ≤ 2 * n + 2 ^ i.toNat ∧ 2 * n ≤ 2 * (k * 2 ^ i.toNat) + 2 ^ i.toNat)) := by
  have q62 : (2 : Nat) ^ 62 = 4611686018427387904 := by decide
  have hl : n.log2 < 62 := (Nat.log2_lt h0).2 (by omega)
  obtain ⟨b1, b2⟩ := log2_bounds h0
  rcases Nat.lt_or_ge 52 n.log2 with h | h
  · obtain ⟨d, hd⟩ : ∃ d, n.log2 = 52 + d := ⟨n.log2 - 52, by omega⟩
    obtain ⟨k, e, hr, k1, k2, c1, c2, he⟩ := near_round hd (by omega) (by omega)
    have hE : 2 ^ d ≤ 2 ^ e := Nat.pow_le_pow_right (by decide) (by omega)
    refine ⟨k, (e : Int), hr, k1, k2, by omega, by omega, .inr ⟨by omega, ?_, ?_⟩⟩
    · rw [Int.toNat_natCast]; omega
    · rw [Int.toNat_natCast]; omega
  · have hr := near_exact (m := n) (p := 0) h0 h (by omega) (by omega)
    have q1 : (2 : Nat) ^ 52 = 4503599627370496 := by decide
    have q2 : (2 : Nat) ^ 53 = 9007199254740992 := by decide
    have hG : 0 < 2 ^ (52 - n.log2) := Nat.pow_pos (by decide)
    refine ⟨n * 2 ^ (52 - n.log2), 0 + (n.log2 : Int) - 52, hr, ?_, ?_, by omega, by omega, .inl ⟨by omega, ?_⟩⟩
    · rw [← q1, show 52 = n.log2 + (52 - n.log2) by omega, Nat.pow_add, show n.log2 + (52 - n.log2) = 52 by omega]
      exact Nat.mul_le_mul_right _ b1
    · rw [← q2, show 53 = n.log2 + 1 + (52 - n.log2) by omega, Nat.pow_add]
      exact Nat.mul_lt_mul_of_pos_right b2 hG
    · have : (-(0 + (n.log2 : Int) - 52)).toNat = 52 - n.log2 := by omega
      rw [this]
theorem between_squares {N n s D h L : Nat} (hn1 : (N - h) * (D * D) ≤ n) (hn2 : n ≤ (N + h) * (D * D)) (h1 : s * s ≤ N) (h2 : N < (s + 1) * (s + 1)) (hL : L ≤ s) (hlin : h * (D * D) + 4 < 4 * (L * D)) (hD : 4 ≤ D) (hh : h * D ≤ 2 * (L * (D - 3))) :
    (s * D - 2) * (s * D - 2) < n ∧ n < ((s + 2) * D - 3) * ((s + 2) * D - 3) := by
  have hLs : L * D ≤ s * D := Nat.mul_le_mul_right D hL
  constructor
  · obtain ⟨X, hX⟩ : ∃ X, X = s * D := ⟨_, rfl⟩
    rw [← hX] at hLs ⊢
    have hXX : X * X = s * s * (D * D) := by rw [hX]; grind
    have a1 : s * s * (D * D) ≤ N * (D * D) := Nat.mul_le_mul_right _ h1
    rw [Nat.sub_mul] at hn1
    obtain ⟨Y, hY⟩ : ∃ Y, X = Y + 2 := ⟨X - 2, by omega⟩
    have e1 : X * X + 4 = Y * Y + 4 * X := by rw [hY]; grind
    have e2 : X - 2 = Y := by omega
    rw [e2]
    omega
  · obtain ⟨Z, hZ⟩ : ∃ Z, Z = (s + 1) * D := ⟨_, rfl⟩
    obtain ⟨F, hF⟩ : ∃ F, D = F + 3 := ⟨D - 3, by omega⟩
    have e1 : (s + 2) * D - 3 = Z + F := by
      have : (s + 2) * D = Z + D := by rw [hZ]; grind
      omega
    rw [e1]
    have e2 : (Z + F) * (Z + F) = Z * Z + 2 * (Z * F) + F * F := by grind
    rw [e2]
    have hZZ : Z * Z = (s + 1) * (s + 1) * (D * D) := by rw [hZ]; grind
    have a1 : (N + 1) * (D * D) ≤ (s + 1) * (s + 1) * (D * D) := Nat.mul_le_mul_right _ h2
    rw [Nat.add_mul, Nat.one_mul] at a1
    rw [Nat.add_mul] at hn2
    have hDD : 0 < D * D := Nat.mul_pos (by omega) (by omega)
    have a2 : h * D ≤ 2 * (s * F) := by
      have : D - 3 = F := by omega
      rw [this] at hh
      have := Nat.mul_le_mul_right F hL
      omega
    have a3 : h * D * D ≤ 2 * (s * F) * D := Nat.mul_le_mul_right D a2
    have a4 : h * D * D = h * (D * D) := by grind
    have a5 : 2 * (s * F) * D ≤ 2 * (Z * F) := by
      have : 2 * (Z * F) = 2 * (s * F) * D + 2 * (F * D) := by rw [hZ]; grind
      omega
    omega
theorem squares_rounded {n s k j q : Nat} {i : Int} (k1 : 4503599627370496 ≤ k) (hi : 1 ≤ i) (hi2 : i ≤ 10) (hq : q ≤ 1) (hj : (2 * j : Int) = 40 + q - i) (hc1 : 2 * (k * 2 ^ i.toNat) ≤ 2 * n + 2 ^ i.toNat) (hc2 : 2 * n ≤ 2 * (k * 2 ^ i.toNat) + 2 ^ i.toNat) (h1 : s * s ≤ n * 65536) (h2 : n * 65536 < (s + 1) * (s + 1)) :
    (s * 2 ^ j - 2) * (s * 2 ^ j - 2) < k * 2 ^ (56 + q) ∧ k * 2 ^ (56 + q) < ((s + 2) * 2 ^ j - 3) * ((s + 2) * 2 ^ j - 3) := by
  have hcs : i = 1 ∨ i = 2 ∨ i = 3 ∨ i = 4 ∨ i = 5 ∨ i = 6 ∨ i = 7 ∨ i = 8 ∨ i = 9 ∨ i = 10 := by omega
  rcases hcs with rfl | rfl | rfl | rfl | rfl | rfl | rfl | rfl | rfl | rfl
  · obtain rfl : q = 1 := by omega
    obtain rfl : j = 20 := by omega
    have g1 : (2 : Nat) ^ 20 = 1048576 := by decide
    have g2 : (2 : Nat) ^ (56 + 1) = 144115188075855872 := by decide
    have g3 : (2 : Nat) ^ ((1 : Int).toNat) = 2 := by decide
    rw [g1, g2]
    rw [g3] at hc1 hc2
    have hL : 24296003998 ≤ s := by
      refine Decidable.byContradiction fun h => ?_
      have := Nat.mul_le_mul (show s + 1 ≤ 24296003998 by omega) (show s + 1 ≤ 24296003998 by omega)
      omega
    exact between_squares (L := 24296003998) (h := 65536) (by omega) (by omega) h1 h2 hL (by decide) (by decide) (by decide)
  · obtain rfl : q = 0 := by omega
    obtain rfl : j = 19 := by omega
    have g1 : (2 : Nat) ^ 19 = 524288 := by decide
    have g2 : (2 : Nat) ^ (56 + 0) = 72057594037927936 := by decide
    have g3 : (2 : Nat) ^ ((2 : Int).toNat) = 4 := by decide
    rw [g1, g2]
    rw [g3] at hc1 hc2
    have hL : 34359738366 ≤ s := by
      refine Decidable.byContradiction fun h => ?_
      have := Nat.mul_le_mul (show s + 1 ≤ 34359738366 by omega) (show s + 1 ≤ 34359738366 by omega)
      omega
    exact between_squares (L := 34359738366) (h := 131072) (by omega) (by omega) h1 h2 hL (by decide) (by decide) (by decide)
  · obtain rfl : q = 1 := by omega
    obtain rfl : j = 19 := by omega
    have g1 : (2 : Nat) ^ 19 = 524288 := by decide
    have g2 : (2 : Nat) ^ (56 + 1) = 144115188075855872 := by decide
    have g3 : (2 : Nat) ^ ((3 : Int).toNat) = 8 := by decide
    rw [g1, g2]
    rw [g3] at hc1 hc2
    have hL : 48592007998 ≤ s := by
      refine Decidable.byContradiction fun h => ?_
      have := Nat.mul_le_mul (show s + 1 ≤ 48592007998 by omega) (show s + 1 ≤ 48592007998 by omega)
      omega
    exact between_squares (L := 48592007998) (h := 262144) (by omega) (by omega) h1 h2 hL (by decide) (by decide) (by decide)
  · obtain rfl : q = 0 := by omega
    obtain rfl : j = 18 := by omega
    have g1 : (2 : Nat) ^ 18 = 262144 := by decide
    have g2 : (2 : Nat) ^ (56 + 0) = 72057594037927936 := by decide
    have g3 : (2 : Nat) ^ ((4 : Int).toNat) = 16 := by decide
    rw [g1, g2]
    rw [g3] at hc1 hc2
    have hL : 68719476734 ≤ s := by
      refine Decidable.byContradiction fun h => ?_
      have := Nat.mul_le_mul (show s + 1 ≤ 68719476734 by omega) (show s + 1 ≤ 68719476734 by omega)
      omega
    exact between_squares (L := 68719476734) (h := 524288) (by omega) (by omega) h1 h2 hL (by decide) (by decide) (by decide)
  · obtain rfl : q = 1 := by omega
    obtain rfl : j = 18 := by omega
    have g1 : (2 : Nat) ^ 18 = 262144 := by decide
    have g2 : (2 : Nat) ^ (56 + 1) = 144115188075855872 := by decide
    have g3 : (2 : Nat) ^ ((5 : Int).toNat) = 32 := by decide
    rw [g1, g2]
    rw [g3] at hc1 hc2
    have hL : 97184015998 ≤ s := by
      refine Decidable.byContradiction fun h => ?_
      have := Nat.mul_le_mul (show s + 1 ≤ 97184015998 by omega) (show s + 1 ≤ 97184015998 by omega)
      omega
    exact between_squares (L := 97184015998) (h := 1048576) (by omega) (by omega) h1 h2 hL (by decide) (by decide) (by decide)
  · obtain rfl : q = 0 := by omega
    obtain rfl : j = 17 := by omega
    have g1 : (2 : Nat) ^ 17 = 131072 := by decide
    have g2 : (2 : Nat) ^ (56 + 0) = 72057594037927936 := by decide
    have g3 : (2 : Nat) ^ ((6 : Int).toNat) = 64 := by decide
    rw [g1, g2]
    rw [g3] at hc1 hc2
    have hL : 137438953470 ≤ s := by
      refine Decidable.byContradiction fun h => ?_
      have := Nat.mul_le_mul (show s + 1 ≤ 137438953470 by omega) (show s + 1 ≤ 137438953470 by omega)
      omega
    exact between_squares (L := 137438953470) (h := 2097152) (by omega) (by omega) h1 h2 hL (by decide) (by decide) (by decide)
  · obtain rfl : q = 1 := by omega
    obtain rfl : j = 17 := by omega
    have g1 : (2 : Nat) ^ 17 = 131072 := by decide
    have g2 : (2 : Nat) ^ (56 + 1) = 144115188075855872 := by decide
    have g3 : (2 : Nat) ^ ((7 : Int).toNat) = 128 := by decide
    rw [g1, g2]
    rw [g3] at hc1 hc2
    have hL : 194368031997 ≤ s := by
      refine Decidable.byContradiction fun h => ?_
      have := Nat.mul_le_mul (show s + 1 ≤ 194368031997 by omega) (show s + 1 ≤ 194368031997 by omega)
      omega
    exact between_squares (L := 194368031997) (h := 4194304) (by omega) (by omega) h1 h2 hL (by decide) (by decide) (by decide)
  · obtain rfl : q = 0 := by omega
    obtain rfl : j = 16 := by omega
    have g1 : (2 : Nat) ^ 16 = 65536 := by decide
    have g2 : (2 : Nat) ^ (56 + 0) = 72057594037927936 := by decide
    have g3 : (2 : Nat) ^ ((8 : Int).toNat) = 256 := by decide
    rw [g1, g2]
    rw [g3] at hc1 hc2
    have hL : 274877906942 ≤ s := by
      refine Decidable.byContradiction fun h => ?_
      have := Nat.mul_le_mul (show s + 1 ≤ 274877906942 by omega) (show s + 1 ≤ 274877906942 by omega)
      omega
    exact between_squares (L := 274877906942) (h := 8388608) (by omega) (by omega) h1 h2 hL (by decide) (by decide) (by decide)
  · obtain rfl : q = 1 := by omega
    obtain rfl : j = 16 := by omega
    have g1 : (2 : Nat) ^ 16 = 65536 := by decide
    have g2 : (2 : Nat) ^ (56 + 1) = 144115188075855872 := by decide
    have g3 : (2 : Nat) ^ ((9 : Int).toNat) = 512 := by decide
    rw [g1, g2]
    rw [g3] at hc1 hc2
    have hL : 388736063995 ≤ s := by
      refine Decidable.byContradiction fun h => ?_
      have := Nat.mul_le_mul (show s + 1 ≤ 388736063995 by omega) (show s + 1 ≤ 388736063995 by omega)
      omega
    exact between_squares (L := 388736063995) (h := 16777216) (by omega) (by omega) h1 h2 hL (by decide) (by decide) (by decide)
  · obtain rfl : q = 0 := by omega
    obtain rfl : j = 15 := by omega
    have g1 : (2 : Nat) ^ 15 = 32768 := by decide
    have g2 : (2 : Nat) ^ (56 + 0) = 72057594037927936 := by decide
    have g3 : (2 : Nat) ^ ((10 : Int).toNat) = 1024 := by decide
    rw [g1, g2]
    rw [g3] at hc1 hc2
    have hL : 549755813886 ≤ s := by
      refine Decidable.byContradiction fun h => ?_
      have := Nat.mul_le_mul (show s + 1 ≤ 549755813886 by omega) (show s + 1 ≤ 549755813886 by omega)
      omega
    exact between_squares (L := 549755813886) (h := 33554432) (by omega) (by omega) h1 h2 hL (by decide) (by decide) (by decide)
theorem squares_exact {n s k j q : Nat} {i : Int} (hi : i ≤ 0) (hj : (2 * j : Int) = 40 + q - i) (hk : k = n * 2 ^ (-i).toNat) (h0 : 1 ≤ s) (h1 : s * s ≤ n * 65536) (h2 : n * 65536 < (s + 1) * (s + 1)) :
    (s * 2 ^ j - 2) * (s * 2 ^ j - 2) < k * 2 ^ (56 + q) ∧ k * 2 ^ (56 + q) < ((s + 2) * 2 ^ j - 3) * ((s + 2) * 2 ^ j - 3) := by
  have e : k * 2 ^ (56 + q) = n * 65536 * (2 ^ j * 2 ^ j) := by
    have g : (65536 : Nat) = 2 ^ 16 := by decide
    rw [hk, g, Nat.mul_assoc, Nat.mul_assoc, ← Nat.pow_add, ← Nat.pow_add, ← Nat.pow_add]
    congr 2
    omega
  rw [e]
  have hD : 4 ≤ 2 ^ j := by
    have : (4 : Nat) = 2 ^ 2 := by decide
    rw [this]
    exact Nat.pow_le_pow_right (by decide) (by omega)
  generalize 2 ^ j = D at *
  exact between_squares (L := 1) (h := 0) (by rw [Nat.sub_zero]; exact Nat.le_refl _) (by rw [Nat.add_zero]; exact Nat.le_refl _) h1 h2 h0 (by omega) hD (by omega)
theorem float_sqrt {n s : Nat} (h0 : n ≠ 0) (hn : n < 4611686018427387904) (h1 : s * s ≤ n * 65536) (h2 : n * 65536 < (s + 1) * (s + 1)) :
    ∃ x r t : Nat, double.mul (double.nearest false n 0) 4679240012837945344 = some x ∧ double.sqrt x = some r ∧ (double.read r).toInt .zero = some (t : Int) ∧ (t = s ∨ t = s + 1) := by
  obtain ⟨k, i, hr, k1, k2, i1, i2, hcase⟩ := near_int h0 hn
  obtain ⟨x, hx, hxr⟩ := mul_scale hr k1 k2 (by omega) (by omega)
  obtain ⟨r, q, W, st, c, k', e, hsq, hrr, ⟨hk, he⟩, hq1, hpar, hst, hst0, hW1, hW2, hc1, hc2⟩ := sqrt_normal hxr k1 k2 (by omega) (by omega)
  obtain ⟨j, hj1, hj2⟩ : ∃ j : Nat, (i + 16 - 56 - q) / 2 = -(j : Int) ∧ (2 * j : Int) = 40 + q - i := ⟨((40 + q - i) / 2).toNat, by omega, by omega⟩
  have hj : 15 ≤ j := by omega
  have hs1 : 1 ≤ s := by
    refine Decidable.byContradiction fun h => ?_
    obtain rfl : s = 0 := by omega
    omega
  have key : (s * 2 ^ j - 2) * (s * 2 ^ j - 2) < k * 2 ^ (56 + q) ∧ k * 2 ^ (56 + q) < ((s + 2) * 2 ^ j - 3) * ((s + 2) * 2 ^ j - 3) := by
    rcases hcase with ⟨a1, a2⟩ | ⟨a1, a2, a3⟩
    · exact squares_exact a1 hj2 a2 hs1 h1 h2
    · exact squares_rounded k1 a1 i2 hq1 hj2 a2 a3 h1 h2
  have hD : (2 : Nat) ^ j = 2 ^ (j - 2) * 4 := by
    have : (4 : Nat) = 2 ^ 2 := by decide
    rw [this, ← Nat.pow_add, show j - 2 + 2 = j by omega]
  have hP : 0 < 2 ^ (j - 2) := Nat.pow_pos (by decide)
  have t1 : s * 2 ^ j ≤ 4 * c := by
    refine root_reaches hW1 hW2 hst0 hc1 ?_ ?_ key.1
    · rw [hD]
      have := Nat.mul_le_mul hs1 (show 4 ≤ 2 ^ (j - 2) * 4 by omega)
      omega
    · rw [hD, ← Nat.mul_assoc]
      omega
  have t2 : 4 * c < (s + 2) * 2 ^ j := by
    refine root_below hW1 hst hc2 ?_ key.2
    rw [hD]
    have := Nat.mul_le_mul (show 1 ≤ s + 2 by omega) (show 4 ≤ 2 ^ (j - 2) * 4 by omega)
    omega
  have hpl : (i + 16 - 56 - q) / 2 + 2 + (e : Int) = -((j - 2 - e : Nat) : Int) := by omega
  rw [hpl] at hrr
  have hval : k' / 2 ^ (j - 2 - e) = 4 * c / 2 ^ j := by
    have e1 : 4 * c = k' * (2 ^ e * 4) := by rw [← hk, Nat.mul_comm, Nat.mul_assoc]
    have e2 : (2 : Nat) ^ j = 2 ^ (j - 2 - e) * (2 ^ e * 4) := by
      rw [hD, ← Nat.mul_assoc, ← Nat.pow_add, show j - 2 - e + e = j - 2 by omega]
    rw [e1, e2, Nat.mul_div_mul_right _ _ (Nat.mul_pos (Nat.pow_pos (by decide)) (by decide))]
  refine ⟨x, r, 4 * c / 2 ^ j, hx, hsq, ?_, ?_⟩
  · rw [hrr, toInt_zero, hval]
  · have hDp : 0 < 2 ^ j := Nat.pow_pos (by decide)
    have b1 : s ≤ 4 * c / 2 ^ j := (Nat.le_div_iff_mul_le hDp).2 t1
    have b2 : 4 * c / 2 ^ j < s + 2 := (Nat.div_lt_iff_lt_mul hDp).2 t2
    omega
end Go.Proofs.YtifeacfljfmnpaaGreat
end

section
set_option maxRecDepth 100000
namespace Go.Proofs.YtifeacfljfmnpaaGreat
theorem or_shift (P : Nat) : ((P / 18446744073709551616 * 281474976710656) ||| (P % 18446744073709551616 / 65536)) = P / 65536 := by
  have e : P / 18446744073709551616 * 281474976710656 = 2 ^ 48 * (P / 18446744073709551616) := by rw [Nat.mul_comm]
  have h2 : P % 18446744073709551616 / 65536 < 2 ^ 48 := by omega
  rw [e, ← Nat.two_pow_add_eq_or_of_lt h2]
  omega
end Go.Proofs.YtifeacfljfmnpaaGreat
end

section
set_option maxRecDepth 100000
namespace Go.Proofs.YtifeacfljfmnpaaGreat
open Go.RowKit
def eN (l : List Int) : Env := ⟨fun i => l.getD i 0, fun _ => false, fun _ => (false, []), fun _ => []⟩
def vN (k : IntKind) (i : Nat) : AV := .val false [.n k (.var i)]
theorem vN_holds {l : List Int} {β : Nat → Nat} {w : World} {k : IntKind} {i : Nat} {x : Int} (h : l.getD i 0 = x) : (vN k i).holds (eN l) β w (.int k x) := by
  refine z9q.2 ?_
  show _ = Value.int k (l.getD i 0)
  rw [h]
def gU (t : IT) : Asm := [(.le (.lit 0) t, true), (.le t (.lit 18446744073709551615), true)]
theorem gU_ok {E : Env} {t : IT} (h : 0 ≤ t.den E ∧ t.den E ≤ 18446744073709551615) : Asm.holds E (gU t) := asm_c (decide_eq_true h.1) (asm_c (decide_eq_true h.2) z8q)
noncomputable def cM : Cfg := cfgOf [(231, kMul64)]
def csqT : Tree :=
  .ite (.eq (.a2 19 (.var 0) (.var 0)) (.var 1))
    (.ite (.eq (.a1 21 (.a2 2 (.var 0) (.var 0))) (.var 2)) (.leaf [(false, [.n .i64 (.lit 0)])])
      (.ite (.lt (.a2 19 (.var 0) (.var 0)) (.var 1)) (.leaf [(false, [.n .i64 (.lit (-1))])])
        (.ite (.lt (.a1 21 (.a2 2 (.var 0) (.var 0))) (.var 2)) (.leaf [(false, [.n .i64 (.lit (-1))])]) (.leaf [(false, [.n .i64 (.lit 1)])]))))
    (.ite (.lt (.a2 19 (.var 0) (.var 0)) (.var 1)) (.leaf [(false, [.n .i64 (.lit (-1))])]) (.leaf [(false, [.n .i64 (.lit 1)])]))
theorem csqT_pick {E : Env} {r N : Nat} (h0 : E.i 0 = (r : Int)) (h1 : E.i 1 = ((N / 18446744073709551616 : Nat) : Int)) (h2 : E.i 2 = ((N % 18446744073709551616 : Nat) : Int)) :
    ∃ z : Int, csqT.pick E = [(false, [.n .i64 (.lit z)])] ∧ z = cmpZ ((r : Int) * r) N := by
  have a : (IT.a2 19 (.var 0) (.var 0)).den E = (((r * r) / 18446744073709551616 : Nat) : Int) := by
    show E.i 0 * E.i 0 / 18446744073709551616 = _
    rw [h0]; omega
  have b : (IT.a1 21 (.a2 2 (.var 0) (.var 0))).den E = (((r * r) % 18446744073709551616 : Nat) : Int) := by
    show IntKind.u64.wrap (E.i 0 * E.i 0) = _
    rw [h0, IntKind.wrap_u64]; omega
  have e1 : ((r : Int) * r) = ((r * r : Nat) : Int) := by omega
  rw [e1]
  generalize r * r = q at *
  have c1 : (BT.eq (.a2 19 (.var 0) (.var 0)) (.var 1)).den E = decide (q / 18446744073709551616 = N / 18446744073709551616) := by
    show (_ == E.i 1) = _
    rw [a, h1, Bool.eq_iff_iff, beq_iff_eq, decide_eq_true_iff]; omega
  have c2 : (BT.eq (.a1 21 (.a2 2 (.var 0) (.var 0))) (.var 2)).den E = decide (q % 18446744073709551616 = N % 18446744073709551616) := by
    show (_ == E.i 2) = _
    rw [b, h2, Bool.eq_iff_iff, beq_iff_eq, decide_eq_true_iff]; omega
  have c3 : (BT.lt (.a2 19 (.var 0) (.var 0)) (.var 1)).den E = decide (q / 18446744073709551616 < N / 18446744073709551616) := by
    show decide (_ < E.i 1) = _
    rw [a, h1, decide_eq_decide]; omega
  have c4 : (BT.lt (.a1 21 (.a2 2 (.var 0) (.var 0))) (.var 2)).den E = decide (q % 18446744073709551616 < N % 18446744073709551616) := by
    show decide (_ < E.i 2) = _
    rw [b, h2, decide_eq_decide]; omega
  have hcase : (q = N ∧ cmpZ (q : Int) N = 0) ∨ (q < N ∧ cmpZ (q : Int) N = -1) ∨ (N < q ∧ cmpZ (q : Int) N = 1) := by
    rcases Nat.lt_trichotomy q N with h | h | h
    · exact .inr (.inl ⟨h, cmpZ_lt (by omega)⟩)
    · exact .inl ⟨h, cmpZ_eq (by omega)⟩
    · exact .inr (.inr ⟨h, cmpZ_gt (by omega)⟩)
  simp only [csqT, Tree.pick, c1, c2, c3, c4, decide_eq_true_eq]
  split
  · split
    · exact ⟨_, rfl, by omega⟩
    · split
      · exact ⟨_, rfl, by omega⟩
      · split
        · exact ⟨_, rfl, by omega⟩
        · exact ⟨_, rfl, by omega⟩
  · split
    · exact ⟨_, rfl, by omega⟩
    · exact ⟨_, rfl, by omega⟩
theorem csq_any (w : World) (r N : Nat) (hr : r < 18446744073709551616) (v : Value) (hv : v = .int .u64 (r : Int)) (v1 : Value) (hv1 : v1 = .int .u64 ((N / 18446744073709551616 : Nat) : Int)) (v2 : Value) (hv2 : v2 = .int .u64 ((N % 18446744073709551616 : Nat) : Int)) :
    Calls Tryz.prog 255 #[v, v1, v2] w fun e w' => e = .returned (.int .i64 (cmpZ ((r : Int) * r) N)) ∧ Ext w w' := by
  subst hv hv1 hv2
  refine (z5q (C := cM) (E := eN [(r : Int), ((N / 18446744073709551616 : Nat) : Int), ((N % 18446744073709551616 : Nat) : Int)]) (G := gU (.var 0)) (args := [vN .u64 0, vN .u64 1, vN .u64 2]) (T := csqT)
    mixed (cfg_ok (.cons kMul64_ok .nil)) (gU_ok ?_) Tryz.func255 (by decide +kernel) (by kernel_rfl) (by decide +kernel) rfl w [.int .u64 (r : Int), .int .u64 _, .int .u64 _] rfl ?_).mono ?_
  · show 0 ≤ (r : Int) ∧ (r : Int) ≤ 18446744073709551615
    omega
  · intro i x hx
    match i, hx with
    | 0, hx => injection hx with hx; subst hx; exact ⟨fun _ => 0, _, rfl, vN_holds rfl⟩
    | 1, hx => injection hx with hx; subst hx; exact ⟨fun _ => 0, _, rfl, vN_holds rfl⟩
    | 2, hx => injection hx with hx; subst hx; exact ⟨fun _ => 0, _, rfl, vN_holds rfl⟩
  · rintro e w' ⟨β, u, rfl, hh, ex⟩
    obtain ⟨z, hz, hz2⟩ := csqT_pick (E := eN [(r : Int), ((N / 18446744073709551616 : Nat) : Int), ((N % 18446744073709551616 : Nat) : Int)]) (r := r) (N := N) rfl rfl rfl
    rw [hz] at hh
    have h1 : u = .int .i64 z := z9q.1 hh
    rw [h1, hz2]
    exact ⟨rfl, ex⟩
theorem float_root (n : Nat) (hn : n < 4611686018427387904) : ∃ x r t : Nat, FloatKind.f64.format.mul (floatOfInt .f64 (n : Int)) 4679240012837945344 = some x ∧ FloatKind.f64.format.sqrt x = some r ∧ floatToIntVal .f64 r .u64 = some (t : Int) ∧ (t = isqN (n * 65536) ∨ t = isqN (n * 65536) + 1) ∧ t < 4294967296 * 4294967296 := by
  by_cases h0 : n = 0
  · subst h0
    refine ⟨0, 0, 0, by decide +kernel, by decide +kernel, by decide +kernel, .inl (by decide), by decide⟩
  · obtain ⟨h1, h2⟩ := isqN_spec (n * 65536)
    obtain ⟨x, r, t, e1, e2, e3, e4⟩ := float_sqrt h0 hn h1 h2
    have hb : t < 18446744073709551616 := by
      have : isqN (n * 65536) ≤ n * 65536 := by
        refine Nat.le_trans ?_ h1
        exact Nat.le_mul_self _
      have : isqN (n * 65536) < 4611686018427387904 := by
        refine Decidable.byContradiction fun h => ?_
        have := Nat.mul_le_mul (show 4611686018427387904 ≤ isqN (n * 65536) by omega) (show 4611686018427387904 ≤ isqN (n * 65536) by omega)
        omega
      omega
    refine ⟨x, r, t, ?_, e2, ?_, e4, hb⟩
    · have : floatOfInt .f64 (n : Int) = Ieee.double.nearest false n 0 := by
        show Ieee.double.nearest (decide ((n : Int) < 0)) ((n : Int).natAbs) 0 = _
        rw [show decide ((n : Int) < 0) = false from decide_eq_false (by omega), Int.natAbs_natCast]
      rw [this]
      exact e1
    · unfold floatToIntVal
      have : (FloatKind.decode .f64 r).toInt .zero = some (t : Int) := e3
      rw [this]
      have m1 : IntKind.u64.min = 0 := rfl
      have m2 : IntKind.u64.max = 18446744073709551615 := rfl
      simp only [m1, m2]
      rw [if_pos (by omega)]
end Go.Proofs.YtifeacfljfmnpaaGreat
end

section
set_option maxRecDepth 100000
namespace Go.Proofs.YtifeacfljfmnpaaGreat
open Go.RowKit
def RetFs (n : Nat) (w : World) (e : Ending) (w' : World) : Prop :=
  e = .returned (.tuple #[.int .u64 (isqN (n * 65536) : Int), .bool (isqN (n * 65536) * isqN (n * 65536) == n * 65536)]) ∧ Ext w w'
set_option maxRecDepth 100000 in
theorem fsqrt_any (w : World) (n : Nat) (hn : n < 4611686018427387904) : Calls Tryz.prog 236 #[.int .i64 (n : Int)] w (RetFs n w) := by
  obtain ⟨x, r, t, e1, e2, e3, e4, hb⟩ := float_root n hn
  obtain ⟨s, hs⟩ : ∃ s, s = isqN (n * 65536) := ⟨_, rfl⟩
  obtain ⟨s1, s2⟩ : IsSq (n * 65536) s := by rw [hs]; exact isqN_spec _
  rw [← hs] at e4
  unfold RetFs
  rw [← hs]
  obtain ⟨N, hN⟩ : ∃ N, N = n * 65536 := ⟨_, rfl⟩
  rw [← hN] at s1 s2 ⊢
  have hfm := Lib.hid e1
  have hsq := Lib.hid e2
  have hti := Lib.hid e3
  clear e1 e2 e3
  have hNn := Lib.hid hN
  have hnn := Lib.hid hn
  have S1 := Lib.hid s1
  have S2 := Lib.hid s2
  have E4 := Lib.hid e4
  have HB := Lib.hid hb
  clear hN hn s1 s2 e4 hb hs
  obtain ⟨m, hm⟩ : ∃ m : Int, m = (n : Int) := ⟨_, rfl⟩
  rw [← hm]
  have HM := Lib.hid hm
  clear hm
  go_enter Tryz.func236, Tryz.ntmps236
  go_wp2_with fail
  have hw : IntKind.u64.wrap m = (n : Int) := by
    have := HM.out
    have := hnn.out
    rw [IntKind.wrap_u64]; omega
  rw [hw]
  refine (mul64_calls w n 65536 (by have := hnn.out; omega) (by omega)).mono ?_
  rintro e w' ⟨rfl, rfl⟩
  rw [← hNn.out]
  go_wp2_with fail
  have hm := run_float_arith (P := Tryz.prog) w' .mul 212 .f64 (floatOfInt .f64 m) 4679240012837945344 x (by rw [HM.out]; exact hfm.out)
  rw [hm]
  simp only [Result.andThen_ok, Oper.upon_value]
  clear hm
  go_wp2_with fail
  refine (mathSqrt_calls w' x r hsq.out).mono ?_
  rintro e w2 ⟨rfl, ex⟩
  go_wp2_with fail
  rw [run_convert_float_int (P := Tryz.prog) (w := w2) 212 115 .f64 .u64 r (t : Int) (by kernel_rfl) Tryz.underlying115 hti.out]
  simp only [Result.andThen_ok, Oper.upon_value]
  go_wp2_with fail
  refine (csq_any w2 t N (by have := HB.out; omega) _ rfl _ rfl _ rfl).mono ?_
  rintro e w3 ⟨rfl, ex3⟩
  have hcase : (cmpZ ((t : Int) * t) N = 0 ∧ t = s ∧ s * s = N) ∨ (cmpZ ((t : Int) * t) N = -1 ∧ t = s ∧ s * s < N) ∨ (cmpZ ((t : Int) * t) N = 1 ∧ t = s + 1) := by
    have k1 := S1.out
    have k2 := S2.out
    rcases E4.out with rfl | rfl
    · have e : ((t : Int) * t) = ((t * t : Nat) : Int) := by omega
      rcases Nat.lt_or_eq_of_le k1 with h | h
      · exact .inr (.inl ⟨cmpZ_lt (by rw [e]; omega), rfl, h⟩)
      · exact .inl ⟨cmpZ_eq (by rw [e]; omega), rfl, h⟩
    · have e : (((s + 1 : Nat) : Int) * ((s + 1 : Nat) : Int)) = (((s + 1) * (s + 1) : Nat) : Int) := by omega
      exact .inr (.inr ⟨cmpZ_gt (by rw [e]; omega), rfl⟩)
  have hb := HB.out
  rcases hcase with ⟨hc, ht, hx⟩ | ⟨hc, ht, hx⟩ | ⟨hc, ht⟩
  · rw [hc]
    clear hw
    subst ht
    go_wp2_with fail
    refine (csq_any w3 t N (by omega) _ rfl _ rfl _ rfl).mono ?_
    rintro e w4 ⟨rfl, ex4⟩
    rw [hc]
    go_wp2_with fail
    go_ret2
    refine ⟨?_, ex.trans (ex3.trans ex4)⟩
    rw [show (t * t == N) = true from beq_iff_eq.2 hx]
    rfl
  · rw [hc]
    clear hw
    subst ht
    go_wp2_with fail
    refine (csq_any w3 t N (by omega) _ rfl _ rfl _ rfl).mono ?_
    rintro e w4 ⟨rfl, ex4⟩
    rw [hc]
    go_wp2_with fail
    go_ret2
    refine ⟨?_, ex.trans (ex3.trans ex4)⟩
    rw [show (t * t == N) = false from beq_eq_false_iff_ne.2 (by omega)]
    rfl
  · rw [hc]
    clear hw
    have hw2 : IntKind.u64.wrap ((t : Int) - 1) = (s : Int) := by
      rw [IntKind.wrap_u64]; omega
    have HT := Lib.hid ht
    clear ht
    go_wp2_with fail
    refine (csq_any w3 s N (by have := HT.out; omega) _ rfl _ rfl _ rfl).mono ?_
    rintro e w4 ⟨rfl, ex4⟩
    have hd : (cmpZ ((s : Int) * s) N = 0 ∧ (s * s == N) = true) ∨ (cmpZ ((s : Int) * s) N = -1 ∧ (s * s == N) = false) := by
      have e : ((s : Int) * s) = ((s * s : Nat) : Int) := by omega
      rcases Nat.lt_or_eq_of_le S1.out with h | h
      · exact .inr ⟨cmpZ_lt (by rw [e]; omega), beq_eq_false_iff_ne.2 (by omega)⟩
      · exact .inl ⟨cmpZ_eq (by rw [e]; omega), beq_iff_eq.2 h⟩
    rcases hd with ⟨h1, h2⟩ | ⟨h1, h2⟩
    · rw [h1]
      go_wp2_with fail
      go_ret2
      refine ⟨?_, ex.trans (ex3.trans ex4)⟩
      rw [h2]
      rfl
    · rw [h1]
      go_wp2_with fail
      go_ret2
      refine ⟨?_, ex.trans (ex3.trans ex4)⟩
      rw [h2]
      rfl
end Go.Proofs.YtifeacfljfmnpaaGreat
end

section
set_option maxRecDepth 100000
namespace Go.Proofs.YtifeacfljfmnpaaGreat
open Go.RowKit
def sqfT (t : IT) : IT := .a1 2 (.a2 2 t (.lit 65536))
def natT (G : Asm) (t : IT) : Bool :=
  match t.cl with
  | some z => decide (0 ≤ z) && decide (z ≤ 2305843009213693952)
  | none => G.find (.le (.lit 0) t) == some true && G.find (.le t (.lit 2305843009213693952)) == some true
theorem natT_spec {E : Env} {G : Asm} (hG : G.holds E) {t : IT} (h : natT G t = true) : 0 ≤ t.den E ∧ t.den E ≤ 2305843009213693952 := by
  unfold natT at h
  split at h
  · rename_i z hz
    rw [Bool.and_eq_true, decide_eq_true_iff, decide_eq_true_iff] at h
    rw [IT.cl_spec hz]
    exact h
  · rw [Bool.and_eq_true, beq_iff_eq, beq_iff_eq] at h
    have f1 := of_decide_eq_true (Asm.find_spec hG h.1)
    have f2 := of_decide_eq_true (Asm.find_spec hG h.2)
    simp only [IT.den] at f1 f2
    omega
def kFs : Con
  | [.val false [.n .i64 t]], G => if natT G t then some (.tup [(false, [.n .u64 (sqfT t)]), (false, [.b (.eq (.a2 2 (sqfT t) (sqfT t)) (.a2 2 t (.lit 65536)))])]) else none
  | _, _ => none
theorem kFs_ok {E : Env} : ConOK Tryz.prog E 236 kFs := by
  refine ⟨?_, ?_, ⟨_, Tryz.func236, by decide +kernel, by kernel_rfl⟩⟩
  · intro args G r h hG β w vs hv hlen
    unfold kFs at h
    split at h
    · rename_i t
      split at h
      · rename_i hc
        obtain ⟨a1, a2⟩ := natT_spec hG hc
        injection h with h
        subst h
        obtain ⟨v, rfl, h1⟩ := args1 hv hlen
        have h1' := z9q.1 h1
        obtain ⟨n, hn⟩ : ∃ n : Nat, t.den E = (n : Int) := ⟨(t.den E).toNat, by omega⟩
        rw [hn] at h1'
        subst h1'
        have e1 : (sqfT t).den E = (isqN (n * 65536) : Int) := by
          show isq (t.den E * 65536) = _
          rw [hn]
          unfold isq
          rw [if_neg (by omega)]
          congr 2
        refine (fsqrt_any w n (by omega)).mono ?_
        rintro e w' ⟨rfl, ex⟩
        refine ⟨_, rfl, ⟨[_, _], rfl, _, _, rfl, z9q.2 ?_, _, _, rfl, z11q.2 ?_, rfl⟩, ex⟩
        · rw [e1]
        · congr 1
          show _ = (((sqfT t).den E * (sqfT t).den E) == (t.den E * 65536))
          rw [e1, hn, Bool.eq_iff_iff, beq_iff_eq, beq_iff_eq]
          constructor
          · intro h; rw [← Int.natCast_mul, h]; omega
          · intro h
            have : ((isqN (n * 65536) * isqN (n * 65536) : Nat) : Int) = ((n * 65536 : Nat) : Int) := by rw [Int.natCast_mul, h]; omega
            exact Int.ofNat.inj this
      · cases h
    · cases h
  · intro args G r h x off
    unfold kFs at h
    split at h
    · split at h
      · injection h with h; subst h; intro e; cases e
      · cases h
    · cases h
def ivV (o : Option (Int × Int)) : Value := match o with
  | some (x, y) => .tuple #[.agg #[.int .i64 x, .int .i64 y], .bool true]
  | none => .tuple #[.agg #[.int .i64 0, .int .i64 0], .bool false]
def prpB (x y : Int) : Bool := decide (x ≤ y) && (decide (-2305843009213693952 ≤ x) && decide (y ≤ 2305843009213693952))
def prI (x y : Int) : Option (Int × Int) := if prpB x y then some (x, y) else none
def exT (x y : IT) : BT := .and (.le x y) (.and (.le lM x) (.le y lP))
theorem exT_den {E : Env} (x y : IT) : (exT x y).den E = prpB (x.den E) (y.den E) := rfl
def tIv (x y : IT) : AV := .tup [(true, [.n .i64 x, .n .i64 y]), (false, [.b (.lit true)])]
def tNo : AV := .tup [(true, [.n .i64 (.lit 0), .n .i64 (.lit 0)]), (false, [.b (.lit false)])]
theorem tIv_holds {E : Env} {β : Nat → Nat} {w : World} {x y : IT} {a b : Int} (hx : x.den E = a) (hy : y.den E = b) : (tIv x y).holds E β w (ivV (some (a, b))) := by
  subst hx hy
  exact ⟨[_, _], rfl, _, _, rfl, ⟨[_, _], rfl, [_], _, rfl, rfl, [_], [], rfl, rfl, rfl⟩, _, _, rfl, z11q.2 rfl, rfl⟩
theorem tNo_holds {E : Env} {β : Nat → Nat} {w : World} : tNo.holds E β w (ivV none) :=
  ⟨[_, _], rfl, _, _, rfl, ⟨[_, _], rfl, [_], _, rfl, rfl, [_], [], rfl, rfl, rfl⟩, _, _, rfl, z11q.2 rfl, rfl⟩
def kEx (lo hi : IT) (G : Asm) : Option AV := match (exT lo hi).ev G with
  | some true => some (tIv lo hi)
  | some false => some tNo
  | none => none
theorem kEx_holds {E : Env} {G : Asm} {lo hi : IT} {r : AV} (hG : G.holds E) (h : kEx lo hi G = some r) {β : Nat → Nat} {w : World} : r.holds E β w (ivV (prI (lo.den E) (hi.den E))) := by
  unfold kEx at h
  split at h
  · rename_i he
    injection h with h
    subst h
    have := BT.ev_spec hG he
    rw [exT_den] at this
    unfold prI
    rw [if_pos this]
    exact tIv_holds rfl rfl
  · rename_i he
    injection h with h
    subst h
    have := BT.ev_spec hG he
    rw [exT_den] at this
    unfold prI
    rw [if_neg (by rw [this]; decide)]
    exact tNo_holds
  · cases h
theorem kEx_nptr {lo hi : IT} {G : Asm} {r : AV} (h : kEx lo hi G = some r) : ∀ x off, r ≠ .ptr x off := by
  intro x off
  unfold kEx at h
  split at h
  · injection h with h; subst h; intro e; cases e
  · injection h with h; subst h; intro e; cases e
  · cases h
theorem fun_leaf {C : Cfg} {E : Env} (hC : CfgOK Tryz.prog E C) {G : Asm} (hG : G.holds E) {f : FuncId} {fn : Func} (hf : Tryz.prog.funcs[f]? = some fn) (h4 : fn.results.toList.length ≤ 4) {args : List AV} {l : List (Bool × List Chunk)} (hT : funE C fn G args = some (.leaf l)) (hn : args.length ≤ fn.ntmps) (hp : args.all noPtr = true) (hw : ∀ w, C.wok w) (w : World) (vs : List Value) (hl : vs.length = args.length)
    (hv : ∀ (i : Nat) (x : AV), args[i]? = some x → ∃ v, vs[i]? = some v ∧ ∀ β, x.holds E β w v) : Calls Tryz.prog f vs.toArray w (fun e w' => ∃ β v, e = .returned v ∧ (toAV l).holds E β w' v ∧ Ext w w') := by
  refine (z5q mixed hC hG hf h4 hT hn hp w vs hl (fun i x hx => ?_) (fun w' _ => hw w')).mono ?_
  · obtain ⟨v, h1, h2⟩ := hv i x hx
    exact ⟨fun _ => 0, v, h1, h2 _⟩
  · rintro e w' ⟨β, v, h1, h2, h3⟩
    exact ⟨β, v, h1, h2, h3⟩
end Go.Proofs.YtifeacfljfmnpaaGreat
end

section
set_option maxRecDepth 100000
namespace Go.Proofs.YtifeacfljfmnpaaGreat
open Go.RowKit
def RetIv (o : Option (Int × Int)) (w : World) (e : Ending) (w' : World) : Prop := e = .returned (ivV o) ∧ Ext w w'
def ivL (x y : IT) : List (Bool × List Chunk) := [(true, [.n .i64 x, .n .i64 y]), (false, [.b (.lit true)])]
def noL : List (Bool × List Chunk) := [(true, [.n .i64 (.lit 0), .n .i64 (.lit 0)]), (false, [.b (.lit false)])]
theorem agg_out {E : Env} {w : World} {x y : IT} {v : Value} (h : one E w (true, [.n .i64 x, .n .i64 y]) v) : v = .agg #[.int .i64 (x.den E), .int .i64 (y.den E)] := by
  obtain ⟨vs, rfl, l, r, rfl, h1, l', r', rfl, h2, h3⟩ := h
  simp only [Chunk.holds] at h1 h2
  simp only [chunks] at h3
  subst h1 h2 h3
  rfl
theorem ivL_out {E : Env} {β : Nat → Nat} {w : World} {x y : IT} {v : Value} (h : (toAV (ivL x y)).holds E β w v) : v = ivV (some (x.den E, y.den E)) := by
  obtain ⟨vs, rfl, v1, r, rfl, h1, v2, r', rfl, h2, h3⟩ := h
  simp only [tupAll] at h3
  subst h3
  rw [agg_out h1, z11q.1 h2]
  rfl
theorem noL_out {E : Env} {β : Nat → Nat} {w : World} {v : Value} (h : (toAV noL).holds E β w v) : v = ivV none := by
  obtain ⟨vs, rfl, v1, r, rfl, h1, v2, r', rfl, h2, h3⟩ := h
  simp only [tupAll] at h3
  subst h3
  rw [agg_out h1, z11q.1 h2]
  rfl
theorem iv_calls {C : Cfg} {E : Env} (hC : CfgOK Tryz.prog E C) {G : Asm} (hG : G.holds E) {f : FuncId} {fn : Func} (hf : Tryz.prog.funcs[f]? = some fn) (h4 : fn.results.toList.length ≤ 4) {args : List AV} {x y : IT} {a b : Int} (hT : funE C fn G args = some (.leaf (ivL x y))) (hx : x.den E = a) (hy : y.den E = b) (hn : args.length ≤ fn.ntmps) (hp : args.all noPtr = true) (hw : ∀ w, C.wok w) (w : World) (vs : List Value) (hl : vs.length = args.length)
    (hv : ∀ (i : Nat) (x : AV), args[i]? = some x → ∃ v, vs[i]? = some v ∧ ∀ β, x.holds E β w v) : Calls Tryz.prog f vs.toArray w (RetIv (some (a, b)) w) := by
  refine (fun_leaf hC hG hf h4 hT hn hp hw w vs hl hv).mono ?_
  rintro e w' ⟨β, v, rfl, hh, ex⟩
  rw [ivL_out hh, hx, hy]
  exact ⟨rfl, ex⟩
theorem no_calls {C : Cfg} {E : Env} (hC : CfgOK Tryz.prog E C) {G : Asm} (hG : G.holds E) {f : FuncId} {fn : Func} (hf : Tryz.prog.funcs[f]? = some fn) (h4 : fn.results.toList.length ≤ 4) {args : List AV} (hT : funE C fn G args = some (.leaf noL)) (hn : args.length ≤ fn.ntmps) (hp : args.all noPtr = true) (hw : ∀ w, C.wok w) (w : World) (vs : List Value) (hl : vs.length = args.length)
    (hv : ∀ (i : Nat) (x : AV), args[i]? = some x → ∃ v, vs[i]? = some v ∧ ∀ β, x.holds E β w v) : Calls Tryz.prog f vs.toArray w (RetIv none w) := by
  refine (fun_leaf hC hG hf h4 hT hn hp hw w vs hl hv).mono ?_
  rintro e w' ⟨β, v, rfl, hh, ex⟩
  rw [noL_out hh]
  exact ⟨rfl, ex⟩
theorem lt_t {E : Env} {x y : IT} {G : Asm} (h : x.den E < y.den E) (k : G.holds E) : Asm.holds E ((.lt x y, true) :: G) := asm_c (decide_eq_true h) k
theorem lt_f {E : Env} {x y : IT} {G : Asm} (h : ¬ x.den E < y.den E) (k : G.holds E) : Asm.holds E ((.lt x y, false) :: G) := asm_c (decide_eq_false h) k
theorem le_t {E : Env} {x y : IT} {G : Asm} (h : x.den E ≤ y.den E) (k : G.holds E) : Asm.holds E ((.le x y, true) :: G) := asm_c (decide_eq_true h) k
theorem le_f {E : Env} {x y : IT} {G : Asm} (h : ¬ x.den E ≤ y.den E) (k : G.holds E) : Asm.holds E ((.le x y, false) :: G) := asm_c (decide_eq_false h) k
theorem eq_t {E : Env} {x y : IT} {G : Asm} (h : x.den E = y.den E) (k : G.holds E) : Asm.holds E ((.eq x y, true) :: G) := asm_c (by show (_ == _) = true; rw [h, beq_self_eq_true]) k
theorem eq_f {E : Env} {x y : IT} {G : Asm} (h : ¬ x.den E = y.den E) (k : G.holds E) : Asm.holds E ((.eq x y, false) :: G) := asm_c (by show (_ == _) = false; exact beq_eq_false_iff_ne.2 h) k
def sqLo (x : Int) : Int := isq ((if x > 0 then x else 0) * 65536)
def sqHi (y : Int) : Int := isq (y * 65536) + cmpZ (y * 65536) (isq (y * 65536) * isq (y * 65536))
def sqrI (x y : Int) : Option (Int × Int) := if y < 0 then none else some (sqLo x, sqHi y)
theorem isq_bd {z : Int} (h : 0 ≤ z) : 0 ≤ isq z ∧ isq z * isq z ≤ z ∧ z < (isq z + 1) * (isq z + 1) := by
  obtain ⟨n, rfl⟩ := Int.eq_ofNat_of_zero_le h
  obtain ⟨h1, h2⟩ := isqN_spec n
  have e : isq (n : Int) = (isqN n : Int) := by
    unfold isq
    rw [if_neg (by omega), Int.natAbs_natCast]
  rw [e]
  refine ⟨by omega, by exact_mod_cast h1, by exact_mod_cast h2⟩
theorem isq_mono {a b : Int} (ha : 0 ≤ a) (h : a ≤ b) : isq a ≤ isq b := by
  obtain ⟨a1, a2, a3⟩ := isq_bd ha
  obtain ⟨b1, b2, b3⟩ := isq_bd (show 0 ≤ b by omega)
  refine Decidable.byContradiction fun q => ?_
  have h1 : 0 ≤ (isq a - (isq b + 1)) * (isq b + 1) := Int.mul_nonneg (by omega) (by omega)
  have h2 : 0 ≤ isq a * (isq a - (isq b + 1)) := Int.mul_nonneg a1 (by omega)
  grind
theorem isq_bound {a : Int} (h0 : 0 ≤ a) (h : a ≤ 151115727451828646838272) : isq a ≤ 388736063996 := by
  obtain ⟨a1, a2, a3⟩ := isq_bd h0
  refine Decidable.byContradiction fun q => ?_
  have h1 : 0 ≤ (isq a - 388736063997) * (isq a - 388736063997) := Int.mul_nonneg (by omega) (by omega)
  grind
theorem cmp_root {n : Int} (h : 0 ≤ n) : (cmpZ n (isq n * isq n) = 0 ∧ isq n * isq n = n) ∨ (cmpZ n (isq n * isq n) = 1 ∧ isq n * isq n < n) := by
  obtain ⟨a1, a2, a3⟩ := isq_bd h
  rcases Int.lt_or_le (isq n * isq n) n with q | q
  · exact .inr ⟨cmpZ_gt q, q⟩
  · exact .inl ⟨cmpZ_eq (by omega), by omega⟩
theorem sqLo_spec (x : Int) : 0 ≤ sqLo x ∧ sqLo x * sqLo x ≤ max 0 x * 65536 := by
  unfold sqLo
  have e : (if x > 0 then x else 0) = max 0 x := by split <;> omega
  rw [e]
  obtain ⟨a1, a2, a3⟩ := isq_bd (show 0 ≤ max 0 x * 65536 by omega)
  exact ⟨a1, a2⟩
theorem sqHi_spec {y : Int} (h : 0 ≤ y) : 0 ≤ sqHi y ∧ y * 65536 ≤ sqHi y * sqHi y := by
  unfold sqHi
  obtain ⟨a1, a2, a3⟩ := isq_bd (show 0 ≤ y * 65536 by omega)
  rcases cmp_root (show 0 ≤ y * 65536 by omega) with ⟨c, q⟩ | ⟨c, q⟩ <;> rw [c]
  · exact ⟨by omega, by rw [Int.add_zero]; omega⟩
  · exact ⟨by omega, by omega⟩
theorem sq_order {x y : Int} (hp : Prp x y) (hy : 0 ≤ y) : 0 ≤ sqLo x ∧ sqLo x ≤ sqHi y ∧ sqLo x ≤ isq (y * 65536) ∧ isq (y * 65536) ≤ sqHi y ∧ sqHi y ≤ 388736063997 ∧ isq (y * 65536) ≤ 388736063996 ∧ 0 ≤ isq (y * 65536) := by
  obtain ⟨h1, h2, h3⟩ := hp
  have m : sqLo x ≤ isq (y * 65536) := by
    unfold sqLo
    refine isq_mono (by split <;> omega) (by split <;> omega)
  have b := isq_bound (show 0 ≤ y * 65536 by omega) (by omega)
  have a := (isq_bd (show 0 ≤ y * 65536 by omega)).1
  unfold sqHi
  rcases cmp_root (show 0 ≤ y * 65536 by omega) with ⟨c, q⟩ | ⟨c, q⟩ <;> rw [c]
  · exact ⟨(sqLo_spec x).1, by omega, by omega, by omega, by omega, by omega, by omega⟩
  · exact ⟨(sqLo_spec x).1, by omega, by omega, by omega, by omega, by omega, by omega⟩
noncomputable def cSq : Cfg := cfgI (cfgOf [(236, kFs)]) (cfgOf []) [(234, Tryz.f234)]
theorem cSq_ok {E : Env} : CfgOK Tryz.prog E cSq := cfgI_ok mixed (cfg_ok (.cons kFs_ok .nil)) (cfg_ok .nil) (fun _ => trivial) (.cons Tryz.func234 (by decide +kernel) (by kernel_rfl) .nil)
def mxT : IT := .a2 13 (.lit 0) (.var 0)
def loS : IT := .a1 20 (sqfT mxT)
def hiS : Bool → IT
  | true => .a1 20 (sqfT (.var 2))
  | false => .a1 20 (.a1 21 (.a2 0 (sqfT (.var 2)) (.lit 1)))
def gSq (b : Bool) : Asm := [(.le (.lit 0) mxT, true), (.le mxT lP, true), (.le (.lit 0) (.var 2), true), (.le (.var 2) lP, true), (.lt (.var 2) (.lit 0), false), (.eq (.a2 2 (sqfT (.var 2)) (sqfT (.var 2))) (.a2 2 (.var 2) (.lit 65536)), b), (.lt (hiS b) loS, false), (.lt loS lM, false), (.lt lP (hiS b), false)]
theorem sq_walk : ∀ b : Bool, funE cSq Tryz.f192 (gSq b) [aIv 0] = some (.leaf (ivL loS (hiS b))) := by
  intro b
  cases b <;> kernel_rfl
theorem sq_walk_no : funE cSq Tryz.f192 [(.lt (.var 2) (.lit 0), true)] [aIv 0] = some (.leaf noL) := by kernel_rfl
theorem one_arg {E : Env} {w : World} {args : List AV} {vs : List Value} {x : AV} {v : Value} (ha : args = [x]) (hv : vs = [v]) (h : ∀ β, x.holds E β w v) : ∀ (i : Nat) (y : AV), args[i]? = some y → ∃ u, vs[i]? = some u ∧ ∀ β, y.holds E β w u := by
  subst ha hv
  intro i y hy
  match i, hy with
  | 0, hy => injection hy with hy; subst hy; exact ⟨v, rfl, h⟩
theorem two_args {E : Env} {w : World} {args : List AV} {vs : List Value} {x x' : AV} {v v' : Value} (ha : args = [x, x']) (hv : vs = [v, v']) (h : ∀ β, x.holds E β w v) (h' : ∀ β, x'.holds E β w v') : ∀ (i : Nat) (y : AV), args[i]? = some y → ∃ u, vs[i]? = some u ∧ ∀ β, y.holds E β w u := by
  subst ha hv
  intro i y hy
  match i, hy with
  | 0, hy => injection hy with hy; subst hy; exact ⟨v, rfl, h⟩
  | 1, hy => injection hy with hy; subst hy; exact ⟨v', rfl, h'⟩
theorem pSqrt_calls (w : World) (x y : Int) (hp : Prp x y) : Calls Tryz.prog 192 #[.agg #[.int .i64 x, .int .i64 y]] w (RetIv (sqrI x y) w) := by
  obtain ⟨E, hE⟩ : ∃ E, E = qE [(x : Rat), (y : Rat)] := ⟨_, rfl⟩
  have e0 : E.i 0 = x := by rw [hE]; exact qE_int (i := 0) rfl
  have e2 : E.i 2 = y := by rw [hE]; exact qE_int (i := 1) rfl
  have ha := one_arg (E := E) (w := w) (args := [aIv 0]) (vs := [.agg #[.int .i64 x, .int .i64 y]]) rfl rfl (fun β => by rw [hE]; exact aIv_holds (i := 0) rfl rfl)
  unfold sqrI
  split
  · rename_i hn
    exact no_calls (E := E) cSq_ok (lt_t (by show E.i 2 < 0; rw [e2]; exact hn) z8q) Tryz.func192 (by decide +kernel) sq_walk_no (by decide +kernel) rfl (fun _ => trivial) w _ rfl ha
  · rename_i hn
    obtain ⟨o1, o2, o3, o4, o5, o6, o7⟩ := sq_order hp (by omega)
    obtain ⟨p1, p2, p3⟩ := hp
    have dm : mxT.den E = if x > 0 then x else 0 := by show (if E.i 0 > 0 then E.i 0 else 0) = _; rw [e0]
    have dl : loS.den E = sqLo x := by
      show IntKind.i64.wrap (isq (mxT.den E * 65536)) = _
      rw [dm]
      exact IntWalk.i64_in _ (by unfold sqLo at *; omega)
    have ds : (sqfT (.var 2)).den E = isq (y * 65536) := by show isq (E.i 2 * 65536) = _; rw [e2]
    obtain ⟨b, hb, hd⟩ : ∃ b : Bool, (BT.eq (.a2 2 (sqfT (.var 2)) (sqfT (.var 2))) (.a2 2 (.var 2) (.lit 65536))).den E = b ∧ (hiS b).den E = sqHi y := by
      refine ⟨_, rfl, ?_⟩
      have hb : (BT.eq (.a2 2 (sqfT (.var 2)) (sqfT (.var 2))) (.a2 2 (.var 2) (.lit 65536))).den E = decide (isq (y * 65536) * isq (y * 65536) = y * 65536) := by
        show ((sqfT (.var 2)).den E * (sqfT (.var 2)).den E == E.i 2 * 65536) = _
        rw [ds, e2, Bool.eq_iff_iff, beq_iff_eq, decide_eq_true_iff]
      rw [hb]
      rcases cmp_root (show 0 ≤ y * 65536 by omega) with ⟨c, q⟩ | ⟨c, q⟩
      · rw [decide_eq_true q]
        show IntKind.i64.wrap ((sqfT (.var 2)).den E) = _
        rw [ds, IntWalk.i64_in _ (by omega)]
        unfold sqHi
        rw [c, Int.add_zero]
      · rw [decide_eq_false (by omega)]
        show IntKind.i64.wrap (IntKind.u64.wrap ((sqfT (.var 2)).den E + 1)) = _
        have hu : IntKind.u64.wrap ((sqfT (.var 2)).den E + 1) = (sqfT (.var 2)).den E + 1 := by rw [IntKind.wrap_u64, ds]; omega
        rw [hu, ds, IntWalk.i64_in _ (by omega)]
        unfold sqHi
        rw [c]
    refine iv_calls (E := E) cSq_ok ?_ Tryz.func192 (by decide +kernel) (sq_walk b) dl hd (by decide +kernel) rfl (fun _ => trivial) w _ rfl ha
    refine le_t ?_ <| le_t ?_ <| le_t ?_ <| le_t ?_ <| lt_f ?_ <| asm_c hb <| lt_f ?_ <| lt_f ?_ <| lt_f ?_ z8q
    · show 0 ≤ mxT.den E
      rw [dm]; split <;> omega
    · show mxT.den E ≤ 2305843009213693952
      rw [dm]; split <;> omega
    · show 0 ≤ E.i 2
      omega
    · show E.i 2 ≤ 2305843009213693952
      omega
    · show ¬ E.i 2 < 0
      omega
    · rw [hd, dl]; omega
    · show ¬ loS.den E < -2305843009213693952
      rw [dl]; omega
    · show ¬ 2305843009213693952 < (hiS b).den E
      rw [hd]; omega
end Go.Proofs.YtifeacfljfmnpaaGreat
end

section
set_option maxRecDepth 100000
namespace Go.Proofs.YtifeacfljfmnpaaGreat
open Go.RowKit
def cfgN (C : Cfg) (l : List (Nat × (List AV → Asm → Option BT))) : Cfg := { C with need := fun f args M G => match findR l f with | some k => k args G | none => C.need f args M G }
theorem cfgN_ok {E : Env} {C : Cfg} {l : List (Nat × (List AV → Asm → Option BT))} (h : CfgOK Tryz.prog E C) : CfgOK Tryz.prog E (cfgN C l) :=
  ⟨h.zero, h.ag, h.fld, h.flds, h.bool, h.row, h.arr, h.calls, h.nptr, h.body, h.slc, h.strT, h.cnv, h.apd, h.eq2, h.fty⟩
def nI64 : List AV → Asm → Option BT
  | [.val true [.int x _]], _ => some (i64R x.fold)
  | _, _ => none
def Tree.noT : Tree := .leaf noL
def prT (x y : IT) : Tree := .ite (.lt y x) .noT (.ite (.lt x lM) .noT (.ite (.lt lP y) .noT (.leaf (ivL x y))))
theorem prpB_iff {x y : Int} : prpB x y = true ↔ Prp x y := by
  unfold prpB Prp
  simp only [Bool.and_eq_true, decide_eq_true_iff]
theorem prI_pos {x y : Int} (h : Prp x y) : prI x y = some (x, y) := if_pos (prpB_iff.2 h)
theorem prI_neg {x y : Int} (h : ¬ Prp x y) : prI x y = none := if_neg (fun k => h (prpB_iff.1 k))
theorem prT_pick {E : Env} (x y : IT) : (Prp (x.den E) (y.den E) ∧ (prT x y).pick E = ivL x y) ∨ (¬ Prp (x.den E) (y.den E) ∧ (prT x y).pick E = noL) := by
  unfold Prp
  simp only [prT, Tree.noT, Tree.pick, BT.den, decide_eq_true_eq]
  have d1 : lM.den E = -2305843009213693952 := rfl
  have d2 : lP.den E = 2305843009213693952 := rfl
  rw [d1, d2]
  split
  · exact .inr ⟨by omega, rfl⟩
  · split
    · exact .inr ⟨by omega, rfl⟩
    · split
      · exact .inr ⟨by omega, rfl⟩
      · exact .inl ⟨by omega, rfl⟩
theorem pick_calls {C : Cfg} {E : Env} (hC : CfgOK Tryz.prog E C) {G : Asm} (hG : G.holds E) {f : FuncId} {fn : Func} (hf : Tryz.prog.funcs[f]? = some fn) (h4 : fn.results.toList.length ≤ 4) {args : List AV} {T : Tree} (hT : funE C fn G args = some T) {x y : IT} {a b : Int} (hx : x.den E = a) (hy : y.den E = b) (hP : (Prp (x.den E) (y.den E) ∧ T.pick E = ivL x y) ∨ (¬ Prp (x.den E) (y.den E) ∧ T.pick E = noL)) (hn : args.length ≤ fn.ntmps) (hp : args.all noPtr = true) (hw : ∀ w, C.wok w) (w : World) (vs : List Value) (hl : vs.length = args.length)
    (hv : ∀ (i : Nat) (x : AV), args[i]? = some x → ∃ v, vs[i]? = some v ∧ ∀ β, x.holds E β w v) : Calls Tryz.prog f vs.toArray w (RetIv (prI a b) w) := by
  refine (z5q mixed hC hG hf h4 hT hn hp w vs hl (fun i x hx => ?_) (fun w' _ => hw w')).mono ?_
  · obtain ⟨v, h1, h2⟩ := hv i x hx
    exact ⟨fun _ => 0, v, h1, h2 _⟩
  · rintro e w' ⟨β, v, rfl, hh, ex⟩
    subst hx hy
    rcases hP with ⟨h1, h2⟩ | ⟨h1, h2⟩
    · rw [h2] at hh
      rw [ivL_out hh, prI_pos h1]
      exact ⟨rfl, ex⟩
    · rw [h2] at hh
      rw [noL_out hh, prI_neg h1]
      exact ⟨rfl, ex⟩
def lfX (x y : IT) (b : Bool) : Tree := .leaf (if b then ivL x y else noL)
theorem ex_calls {C : Cfg} {E : Env} (hC : CfgOK Tryz.prog E C) {G : Asm} (hG : G.holds E) {f : FuncId} {fn : Func} (hf : Tryz.prog.funcs[f]? = some fn) (h4 : fn.results.toList.length ≤ 4) {args : List AV} {x y : IT} (hT : ∀ b, funE C fn ((exT x y, b) :: G) args = some (lfX x y b)) {a b : Int} (hx : x.den E = a) (hy : y.den E = b) (hn : args.length ≤ fn.ntmps) (hp : args.all noPtr = true) (hw : ∀ w, C.wok w) (w : World) (vs : List Value) (hl : vs.length = args.length)
    (hv : ∀ (i : Nat) (x : AV), args[i]? = some x → ∃ v, vs[i]? = some v ∧ ∀ β, x.holds E β w v) : Calls Tryz.prog f vs.toArray w (RetIv (prI a b) w) := by
  refine pick_calls hC (asm_c (t := exT x y) (b := prpB (x.den E) (y.den E)) rfl hG) hf h4 (hT _) hx hy ?_ hn hp hw w vs hl hv
  by_cases h : Prp (x.den E) (y.den E)
  · refine .inl ⟨h, ?_⟩
    rw [prpB_iff.2 h]; rfl
  · refine .inr ⟨h, ?_⟩
    rw [show prpB (x.den E) (y.den E) = false from Bool.eq_false_iff.2 fun k => h (prpB_iff.1 k)]; rfl
theorem proper_calls (w : World) (x y : Int) : Calls Tryz.prog 234 #[.agg #[.int .i64 x, .int .i64 y]] w (RetIv (prI x y) w) := by
  obtain ⟨E, hE⟩ : ∃ E, E = qE [(x : Rat), (y : Rat)] := ⟨_, rfl⟩
  have e0 : E.i 0 = x := by rw [hE]; exact qE_int (i := 0) rfl
  have e2 : E.i 2 = y := by rw [hE]; exact qE_int (i := 1) rfl
  exact pick_calls (E := E) (C := cfgOf []) (cfg_ok .nil) z8q Tryz.func234 (by decide +kernel) (T := prT (.var 0) (.var 2)) (by kernel_rfl) (x := .var 0) (y := .var 2) e0 e2 (prT_pick _ _) (by decide +kernel) (args := [aIv 0]) rfl (fun _ => trivial) w _ rfl (one_arg rfl rfl fun β => by rw [hE]; exact aIv_holds (i := 0) rfl rfl)
def kPr : Con
  | [.val true [.n .i64 x, .n .i64 y]], G => kEx x y G
  | _, _ => none
def nPr : List AV → Asm → Option BT
  | [.val true [.n .i64 x, .n .i64 y]], _ => some (exT x y)
  | _, _ => none
theorem kPr_ok {E : Env} : ConOK Tryz.prog E 234 kPr := by
  refine ⟨?_, ?_, ⟨_, Tryz.func234, by decide +kernel, by kernel_rfl⟩⟩
  · intro args G r h hG β w vs hv hlen
    unfold kPr at h
    split at h
    · rename_i x y
      obtain ⟨v, rfl, h1⟩ := args1 hv hlen
      rw [show v = _ from agg_out h1]
      refine (proper_calls w _ _).mono ?_
      rintro e w' ⟨rfl, ex⟩
      exact ⟨_, rfl, kEx_holds hG h, ex⟩
    · cases h
  · intro args G r h
    unfold kPr at h
    split at h
    · exact kEx_nptr h
    · cases h
end Go.Proofs.YtifeacfljfmnpaaGreat
end

section
set_option maxRecDepth 100000
namespace Go.Proofs.YtifeacfljfmnpaaGreat
open Go.RowKit
noncomputable def tabPf : List (Nat × Con) := [(234, kPr), (233, kDiv64), (231, kMul64), (229, kI64), (175, kIn fun x => .a2 3 x (.lit 0)), (151, kII (.a2 2) (· + ·)), (76, kFrom), (207, kDM)]
theorem tabPf_ok {E : Env} : TabOK Tryz.prog E tabPf :=
  .cons kPr_ok <| .cons kDiv64_ok <| .cons kMul64_ok <| .cons (kI64_ok (fun w v z h => int64_calls w v z h) ⟨_, Tryz.func229, by decide +kernel, by kernel_rfl⟩) <|
  .cons (kIn_ok (cmpZ · 0) (fun _ => rfl) (fun w v1 z1 h1 => sign_calls w v1 z1 h1) ⟨_, Tryz.func175, by decide +kernel, by kernel_rfl⟩) <|
  .cons (kII_ok (· * ·) (fun _ _ => rfl) (fun w v1 v2 z1 z2 l m h1 h2 l1 l2 b1 b2 => mul_calls w v1 v2 z1 z2 h1 h2 (l1.sm (by omega)) (l2.sm (by omega))) (fun _ _ _ _ h k => h.mul k) ⟨_, Tryz.func151, by decide +kernel, by kernel_rfl⟩) <|
  .cons (kFrom_ok (fun w n h1 h2 => fromInt64_calls w n h1 h2) ⟨_, Tryz.func76, by decide +kernel, by kernel_rfl⟩) <| .cons kDM_ok .nil
noncomputable def cP0 : Cfg := cfgN (cfgOf tabPf) [(234, nPr), (229, nI64)]
theorem cP0_ok {E : Env} : CfgOK Tryz.prog E cP0 := cfgN_ok (cfg_ok tabPf_ok)
end Go.Proofs.YtifeacfljfmnpaaGreat
end

section
set_option maxRecDepth 100000
namespace Go.Proofs.YtifeacfljfmnpaaGreat
open Go.RowKit
theorem floor_mul_den (q : Rat) (n : Int) : (n : Rat) ≤ q * 65536 ↔ n * (q.den : Int) ≤ q.num * 65536 := by
  have hd : (0 : Rat) < (q.den : Rat) := by
    have : ((0 : Nat) : Rat) < (q.den : Rat) := Rat.natCast_lt_natCast.2 q.den_pos
    exact this
  have e := mul_den' q
  rw [← Rat.intCast_le_intCast, Rat.intCast_mul, Rat.intCast_mul, ← e]
  have e2 : (((q.den : Int)) : Rat) = (q.den : Rat) := rfl
  have e3 : ((65536 : Int) : Rat) = 65536 := rfl
  rw [e2, e3]
  constructor
  · intro h
    have : 0 ≤ (q * 65536 - (n : Rat)) * (q.den : Rat) := Rat.mul_nonneg (by grind) (by grind)
    grind
  · intro h
    rcases le_tot (n : Rat) (q * 65536) with k | k
    · exact k
    · by_cases e0 : (n : Rat) = q * 65536
      · grind
      · have : 0 < ((n : Rat) - q * 65536) * (q.den : Rat) := Rat.mul_pos (by grind) hd
        grind
theorem flR_eq (q : Rat) : dq (q.num * 65536) (q.den : Int) = flR q := by
  have hd : 0 < (q.den : Int) := by have := q.den_pos; omega
  rw [dq_pos hd]
  unfold flR
  have h1 : ∀ n : Int, n ≤ (q * 65536).floor ↔ n ≤ q.num * 65536 / (q.den : Int) := fun n => by
    rw [Rat.le_floor_iff, floor_mul_den, Int.le_ediv_iff_mul_le hd]
  have a := (h1 (q * 65536).floor).1 (Int.le_refl _)
  have b := (h1 (q.num * 65536 / (q.den : Int))).2 (Int.le_refl _)
  omega
theorem clR_eq (q : Rat) : -dq (-(q.num * 65536)) (q.den : Int) = clR q := by
  have h := flR_eq (-q)
  rw [Rat.neg_num, Rat.neg_den] at h
  unfold clR
  rw [show -(q.num * 65536) = -q.num * 65536 by omega, h]
  unfold flR
  congr 2
  grind
theorem flR_le_clR (q : Rat) : flR q ≤ clR q := by
  have h1 := Rat.floor_le (q * 65536)
  have h2 := Rat.floor_le (-(q * 65536))
  unfold flR clR
  refine Rat.intCast_le_intCast.1 ?_
  rw [Rat.intCast_neg]
  grind
def frI (q : Rat) : Option (Int × Int) := prI (flR q) (clR q)
def aQf (l : Nat) : AV := .val true [.int (.var 0) l, .int (.var 1) l]
theorem ratArg {w : World} {v : Value} {q : Rat} (h : IsRat w v q) (l : LimQ 40 q) : ∀ β, (aQf 40).holds (qE [q]) β w v := fun β => by
  obtain ⟨a, b, c, d, rfl, h1, h2⟩ := h
  exact one_rat.2 ⟨a, b, c, d, rfl, h1, l.1, h2, l.2⟩
def adI (x y x' y' : Int) : Option (Int × Int) := prI (x + x') (y + y')
theorem gR_of {E : Env} {t : IT} {x : Int} (he : t.den E = x) (h : -2305843009213693952 ≤ x ∧ x ≤ 2305843009213693952) : Asm.holds E (gR t) := gR_ok (by rw [he]; omega)
theorem pAdd_walk : ∀ b, funE cP0 Tryz.f228 [(exT (.a1 20 sS0) (.a1 20 sS1), b)] [aIv 0, aIv 2] = some (lfX (.a1 20 sS0) (.a1 20 sS1) b) := by
  intro b
  cases b <;> kernel_rfl
theorem pAdd_calls (w : World) (x y x' y' : Int) (hp : Prp x y) (hp' : Prp x' y') : Calls Tryz.prog 228 #[.agg #[.int .i64 x, .int .i64 y], .agg #[.int .i64 x', .int .i64 y']] w (RetIv (adI x y x' y') w) := by
  obtain ⟨E, hE⟩ : ∃ E, E = qE [(x : Rat), (y : Rat), (x' : Rat), (y' : Rat)] := ⟨_, rfl⟩
  have e0 : E.i 0 = x := by rw [hE]; exact qE_int (i := 0) rfl
  have e2 : E.i 2 = y := by rw [hE]; exact qE_int (i := 1) rfl
  have e4 : E.i 4 = x' := by rw [hE]; exact qE_int (i := 2) rfl
  have e6 : E.i 6 = y' := by rw [hE]; exact qE_int (i := 3) rfl
  obtain ⟨p1, p2, p3⟩ := hp
  obtain ⟨q1, q2, q3⟩ := hp'
  refine ex_calls (E := E) (C := cP0) cP0_ok z8q Tryz.func228 (by decide +kernel) pAdd_walk ?_ ?_ (by decide +kernel) (args := [aIv 0, aIv 2]) rfl (fun _ => trivial) w _ rfl (two_args rfl rfl (fun β => by rw [hE]; exact aIv_holds (i := 0) rfl rfl) (fun β => by rw [hE]; exact aIv_holds (i := 2) rfl rfl))
  · show IntKind.i64.wrap (E.i 0 + E.i 4) = _
    rw [e0, e4, IntWalk.i64_in _ (by omega)]
  · show IntKind.i64.wrap (E.i 2 + E.i 6) = _
    rw [e2, e6, IntWalk.i64_in _ (by omega)]
def pLo : IT := .a2 4 (.a2 2 (.var 0) (.lit 65536)) (.var 1)
def gLong (b : Bool) : Asm := [(.eq (.a1 1 (.var 1)) (.lit 0), true), (.eq (.var 1) (.lit 0), false), (.eq (.a2 3 (.a2 5 (.a2 2 (.var 0) (.lit 65536)) (.var 1)) (.lit 0)) (.lit 0), b)]
def pHiL : Bool → IT
  | true => pLo
  | false => .a1 20 (.a2 0 pLo (.lit 1))
theorem long_no1 : funE cP0 Tryz.f230 [(.eq (.a1 1 (.var 1)) (.lit 0), true), (i64R pLo, false)] [aQf 40] = some (.leaf noL) := by kernel_rfl
theorem long_no2 : funE cP0 Tryz.f230 [(.eq (.a1 1 (.var 1)) (.lit 0), true), (i64R pLo, true), (.lt lP pLo, true)] [aQf 40] = some (.leaf noL) := by kernel_rfl
theorem long_walk : ∀ c b, funE cP0 Tryz.f230 ((exT pLo (pHiL c), b) :: (i64R pLo, true) :: (.lt lP pLo, false) :: gLong c) [aQf 40] = some (lfX pLo (pHiL c) b) := by
  intro c b
  cases c <;> cases b <;> kernel_rfl
theorem ceil_cases (q : Rat) : (dr (q.num * 65536) (q.den : Int) = 0 ∧ clR q = flR q) ∨ (dr (q.num * 65536) (q.den : Int) ≠ 0 ∧ clR q = flR q + 1) := by
  have hd : 0 < (q.den : Int) := by have := q.den_pos; omega
  have e1 := flR_eq q
  have e2 := clR_eq q
  rw [dq_pos hd] at e1 e2
  have e3 : dr (q.num * 65536) (q.den : Int) = (q.num * 65536) % (q.den : Int) := by
    unfold dr
    rw [if_neg (by omega), Int.fmod_eq_emod_of_nonneg _ (by omega)]
  rw [Int.neg_ediv] at e2
  rw [e3]
  by_cases h : (q.den : Int) ∣ q.num * 65536
  · rw [if_pos h] at e2
    exact .inl ⟨Int.emod_eq_zero_of_dvd h, by omega⟩
  · rw [if_neg h, Int.sign_eq_one_of_pos hd] at e2
    exact .inr ⟨fun k => h (Int.dvd_of_emod_eq_zero k), by omega⟩
end Go.Proofs.YtifeacfljfmnpaaGreat
end

section
set_option maxRecDepth 100000
namespace Go.Proofs.YtifeacfljfmnpaaGreat
open Go.RowKit
theorem i64R_den {E : Env} (t : IT) : (i64R t).den E = decide (-9223372036854775808 ≤ t.den E ∧ t.den E ≤ 9223372036854775807) := by
  show (decide _ && decide _) = _
  rw [Bool.decide_and]
  rfl
theorem i64R_t {E : Env} {t : IT} {G : Asm} (h : -9223372036854775808 ≤ t.den E ∧ t.den E ≤ 9223372036854775807) (k : G.holds E) : Asm.holds E ((i64R t, true) :: G) := asm_c (by rw [i64R_den]; exact decide_eq_true h) k
theorem i64R_f {E : Env} {t : IT} {G : Asm} (h : ¬ (-9223372036854775808 ≤ t.den E ∧ t.den E ≤ 9223372036854775807)) (k : G.holds E) : Asm.holds E ((i64R t, false) :: G) := asm_c (by rw [i64R_den]; exact decide_eq_false h) k
theorem pLo_den {q : Rat} : pLo.den (qE [q]) = flR q := by
  show dq (q.num * 65536) (q.den : Int) = _
  exact flR_eq q
theorem frI_none {q : Rat} (h : ¬ Prp (flR q) (clR q)) : frI q = none := prI_neg h
theorem noArg {w : World} {v : Value} {q : Rat} (h : IsRat w v q) (l : LimQ 40 q) : ∀ (i : Nat) (y : AV), [aQf 40][i]? = some y → ∃ u, [v][i]? = some u ∧ ∀ β, y.holds (qE [q]) β w u := one_arg rfl rfl (ratArg h l)
theorem pLong_calls (w : World) (v : Value) (q : Rat) (h : IsRat w v q) (l : LimQ 40 q) : Calls Tryz.prog 230 #[v] w (RetIv (frI q) w) := by
  have hd : 0 < (q.den : Int) := by have := q.den_pos; omega
  have hle := flR_le_clR q
  have f0 : (IT.a1 1 (.var 1)).den (qE [q]) = (IT.lit 0).den (qE [q]) := by
    show de (q.den : Int) = 0
    exact if_neg (by omega)
  by_cases h1 : -9223372036854775808 ≤ flR q ∧ flR q ≤ 9223372036854775807
  · by_cases h2 : 2305843009213693952 < flR q
    · rw [frI_none (by unfold Prp; omega)]
      exact no_calls (C := cP0) (E := qE [q]) cP0_ok (eq_t f0 <| i64R_t (by rw [pLo_den]; exact h1) <| lt_t (by rw [pLo_den]; exact h2) z8q) Tryz.func230 (by decide +kernel) long_no2 (by decide +kernel) rfl (fun _ => trivial) w _ rfl (noArg h l)
    · obtain ⟨c, hc, hhi⟩ : ∃ c : Bool, (BT.eq (.a2 3 (.a2 5 (.a2 2 (.var 0) (.lit 65536)) (.var 1)) (.lit 0)) (.lit 0)).den (qE [q]) = c ∧ (pHiL c).den (qE [q]) = clR q := by
        refine ⟨_, rfl, ?_⟩
        have hb : (BT.eq (.a2 3 (.a2 5 (.a2 2 (.var 0) (.lit 65536)) (.var 1)) (.lit 0)) (.lit 0)).den (qE [q]) = decide (dr (q.num * 65536) (q.den : Int) = 0) := by
          show (cmpZ (dr (q.num * 65536) (q.den : Int)) 0 == 0) = _
          rw [Bool.eq_iff_iff, beq_iff_eq, decide_eq_true_iff]
          rcases z2q (dr (q.num * 65536) (q.den : Int)) 0 with ⟨a, e⟩ | ⟨a, e⟩ | ⟨a, e⟩ <;> rw [e] <;> omega
        rw [hb]
        rcases ceil_cases q with ⟨a, e⟩ | ⟨a, e⟩
        · rw [decide_eq_true a, e]
          exact pLo_den
        · rw [decide_eq_false a, e]
          show IntKind.i64.wrap (pLo.den (qE [q]) + 1) = _
          rw [pLo_den, IntWalk.i64_in _ (by omega)]
      refine ex_calls (C := cP0) (E := qE [q]) cP0_ok ?_ Tryz.func230 (by decide +kernel) (long_walk c) pLo_den hhi (by decide +kernel) (args := [aQf 40]) rfl (fun _ => trivial) w _ rfl (noArg h l)
      exact i64R_t (by rw [pLo_den]; exact h1) <| lt_f (by rw [pLo_den]; exact h2) <| eq_t f0 <| eq_f (by show ¬ (q.den : Int) = 0; omega) <| asm_c hc z8q
  · rw [frI_none (by unfold Prp; omega)]
    exact no_calls (C := cP0) (E := qE [q]) cP0_ok (eq_t f0 <| i64R_f (by rw [pLo_den]; exact h1) z8q) Tryz.func230 (by decide +kernel) long_no1 (by decide +kernel) rfl (fun _ => trivial) w _ rfl (noArg h l)
def frLo (x y : IT) : IT := .a2 4 (.a2 2 x (.lit 65536)) y
def frHi (x y : IT) : IT := .a1 0 (.a2 4 (.a1 0 (.a2 2 x (.lit 65536))) y)
def kFR : Con
  | [.val true [.int x l, .int y m]], G => if canon x y && (decide (l ≤ 40) && decide (m ≤ 40)) then kEx (frLo x y) (frHi x y) G else none
  | _, _ => none
def nFR : List AV → Asm → Option BT
  | [.val true [.int x _, .int y _]], _ => some (exT (frLo x y) (frHi x y))
  | _, _ => none
theorem kFR_ok {E : Env} (hE : QEnv E) {f : Nat} (hc : ∀ (w : World) (v : Value) (q : Rat), IsRat w v q → LimQ 40 q → Calls Tryz.prog f #[v] w (RetIv (frI q) w)) (hb : ∃ fn, Tryz.prog.funcs[f]? = some fn ∧ fn.name ≠ "runtime.NumGoroutine" ∧ fn.body.isNone = false) : ConOK Tryz.prog E f kFR := by
  refine ⟨?_, ?_, hb⟩
  · intro args G r h hG β w vs hv hlen
    unfold kFR at h
    split at h
    · rename_i x l y m
      split at h
      · rename_i hm
        simp only [Bool.and_eq_true, decide_eq_true_iff] at hm
        obtain ⟨v, rfl, h1⟩ := args1 hv hlen
        obtain ⟨q, _, e1, e2, hq, m1, m2⟩ := one_ratQ hE hm.1 h1
        have k := kEx_holds (β := β) (w := w) hG h
        have d1 : (frLo x y).den E = flR q := by
          show dq (x.den E * 65536) (y.den E) = _
          rw [e1, e2]; exact flR_eq q
        have d2 : (frHi x y).den E = clR q := by
          show -dq (-(x.den E * 65536)) (y.den E) = _
          rw [e1, e2]; exact clR_eq q
        rw [d1, d2] at k
        refine (hc w v q hq ⟨m1.mono hm.2.1, m2.mono hm.2.2⟩).mono ?_
        rintro e w' ⟨rfl, ex⟩
        have k' := kEx_holds (β := β) (w := w') hG h
        rw [d1, d2] at k'
        exact ⟨_, rfl, k', ex⟩
      · cases h
    · cases h
  · intro args G r h
    unfold kFR at h
    split at h
    · split at h
      · exact kEx_nptr h
      · cases h
    · cases h
noncomputable def cPs0 : Cfg := cfgN (cfgOf ((230, kFR) :: tabPf)) [(234, nPr), (229, nI64), (230, nFR)]
theorem cPs0_ok {E : Env} (hE : QEnv E) : CfgOK Tryz.prog E cPs0 := cfgN_ok (cfg_ok (.cons (kFR_ok hE pLong_calls ⟨_, Tryz.func230, by decide +kernel, by kernel_rfl⟩) tabPf_ok))
noncomputable def cPs : Cfg := cfgI cPs0 cPs0 [(232, Tryz.f232), (235, Tryz.f235)]
theorem cPs_ok {E : Env} (hE : QEnv E) : CfgOK Tryz.prog E cPs := cfgI_ok mixed (cPs0_ok hE) (cPs0_ok hE) (fun _ => trivial) (.cons Tryz.func232 (by decide +kernel) (by kernel_rfl) <| .cons Tryz.func235 (by decide +kernel) (by kernel_rfl) .nil)
theorem fr_long : ∀ s o b, (s && o) = false → funE cPs Tryz.f191 [(exT (frLo (.var 0) (.var 1)) (frHi (.var 0) (.var 1)), b), (i64R (.var 0), s), (i64R (.var 1), o)] [aQf 40] = some (lfX (frLo (.var 0) (.var 1)) (frHi (.var 0) (.var 1)) b) := by
  intro s o b h
  cases s
  · cases o <;> cases b <;> kernel_rfl
  · cases o
    · cases b <;> kernel_rfl
    · cases h
def sS : Bool → IT
  | true => .a1 21 (.a2 1 (.lit 0) (.a1 21 (.var 0)))
  | false => .a1 21 (.var 0)
def sH (n : Bool) : IT := .a2 19 (sS n) (.lit 65536)
def sL (n : Bool) : IT := .a1 21 (.a2 2 (sS n) (.lit 65536))
def sD : IT := .a1 21 (.var 1)
def sQ (n : Bool) : IT := .a2 16 (twoW (sH n) (sL n)) sD
def sRm (n : Bool) : IT := .a2 15 (twoW (sH n) (sL n)) sD
def sUp (n : Bool) : Bool → IT
  | true => .a1 20 (sQ n)
  | false => .a1 20 (.a2 0 (.a1 20 (sQ n)) (.lit 1))
def sLo (n c : Bool) : IT := if n then .a1 20 (.a2 1 (.lit 0) (sUp n c)) else .a1 20 (sQ n)
def sHi (n c : Bool) : IT := if n then .a1 20 (.a2 1 (.lit 0) (.a1 20 (sQ n))) else sUp n c
def gShort (n : Bool) : Asm := [(i64R (.var 0), true), (i64R (.var 1), true), (.lt (.var 0) (.lit 0), n), (.le (.var 1) (.lit 0), false)]
theorem fr_no1 : ∀ n, funE cPs Tryz.f191 ((.le sD (sH n), true) :: gShort n) [aQf 40] = some (.leaf noL) := by
  intro n
  cases n <;> kernel_rfl
theorem fr_no2 : ∀ n, funE cPs Tryz.f191 ((.le sD (sH n), false) :: (.lt (sH n) sD, true) :: (.lt lP (sQ n), true) :: (gU (sH n) ++ gShort n)) [aQf 40] = some (.leaf noL) := by
  intro n
  cases n <;> kernel_rfl
theorem fr_walk : ∀ n c b, funE cPs Tryz.f191 ((exT (sLo n c) (sHi n c), b) :: (.le sD (sH n), false) :: (.lt (sH n) sD, true) :: (.lt lP (sQ n), false) :: (.eq (sRm n) (.lit 0), c) :: (gU (sH n) ++ gShort n)) [aQf 40] = some (lfX (sLo n c) (sHi n c) b) := by
  intro n c b
  cases n <;> cases c <;> cases b <;> kernel_rfl
end Go.Proofs.YtifeacfljfmnpaaGreat
end
