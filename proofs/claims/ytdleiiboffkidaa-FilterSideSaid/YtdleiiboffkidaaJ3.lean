/-
  Texts of this seat, joined.
-/
import Derived.Test.YtdleiiboffkidaaJ2
import Derived.Deep.LoopGhost
import Derived.Laws.AppendOwnNone
import Derived.Deep.DeepCutAuto
import Derived.Lib.ItoaNum
import Derived.Laws.IdiomCopy
/- ---- Dmf ---- -/
section
/-
  DivMod as a function of two integers.
-/
set_option maxRecDepth 100000
namespace Go.Proofs.Ytdleiiboffkidaa
open Go.RowKit

def dq (a b : Int) : Int := if b = 0 then 0 else a.fdiv b
def dr (a b : Int) : Int := if b = 0 then 0 else a.fmod b
def de (b : Int) : Int := if b = 0 then 6 else 0
theorem quo_unique {a b q r q' r' : Int} (h : a = q * b + r) (k : a = q' * b + r') (hr : 0 ≤ r ∧ r < b ∨ b < r ∧ r ≤ 0) (kr : 0 ≤ r' ∧ r' < b ∨ b < r' ∧ r' ≤ 0) : q = q' ∧ r = r' := by
  have hq : q = q' := by
    rcases Int.lt_trichotomy q q' with h1 | h1 | h1
    · exfalso
      obtain ⟨n, rfl⟩ : ∃ n : Int, q' = q + 1 + n := ⟨q' - q - 1, by omega⟩
      have hn : 0 ≤ n := by omega
      rw [Int.add_mul, Int.add_mul, Int.one_mul] at k
      rcases hr with hr | hr
      · have := Int.mul_nonneg hn (show 0 ≤ b by omega); omega
      · have := Int.mul_nonpos_of_nonneg_of_nonpos hn (show b ≤ 0 by omega); omega
    · exact h1
    · exfalso
      obtain ⟨n, rfl⟩ : ∃ n : Int, q = q' + 1 + n := ⟨q - q' - 1, by omega⟩
      have hn : 0 ≤ n := by omega
      rw [Int.add_mul, Int.add_mul, Int.one_mul] at h
      rcases hr with hr | hr
      · have := Int.mul_nonneg hn (show 0 ≤ b by omega); omega
      · have := Int.mul_nonpos_of_nonneg_of_nonpos hn (show b ≤ 0 by omega); omega
  subst hq
  exact ⟨rfl, by omega⟩
theorem fmod_range (a : Int) {b : Int} (h : b ≠ 0) : 0 ≤ a.fmod b ∧ a.fmod b < b ∨ b < a.fmod b ∧ a.fmod b ≤ 0 := by
  rcases Int.lt_or_gt_of_ne h with h1 | h1
  · right
    have e := Int.neg_fmod_neg a b
    have h2 := Int.fmod_nonneg_of_pos (-a) (show 0 < -b by omega)
    have h3 := Int.fmod_lt_of_pos (-a) (show 0 < -b by omega)
    omega
  · left
    exact ⟨Int.fmod_nonneg_of_pos a h1, Int.fmod_lt_of_pos a h1⟩
theorem dm_fn {a b q r : Int} (h : DM a b q r) (hb : b ≠ 0) : q = dq a b ∧ r = dr a b := by
  unfold dq dr
  rw [if_neg hb, if_neg hb]
  have e := Int.mul_fdiv_add_fmod a b
  exact quo_unique h.1 (by rw [Int.mul_comm]; omega) h.2.1 (fmod_range a hb)

/-- What DivMod returns, for every divisor. -/
def RetDMF (a b : Int) (w : World) (e : Ending) (w' : World) : Prop :=
  ∃ v1 v2, e = .returned (.tuple #[v1, v2, .int .i64 (de b)]) ∧ IsInt w' v1 (dq a b) ∧ IsInt w' v2 (dr a b) ∧ Ext w w'
theorem divMod_fn (w : World) (v1 v2 : Value) (a b : Int) (h : IsInt w v1 a) (k : IsInt w v2 b) (l1 : Sm a) (l2 : Sm b) :
    Calls Try.prog 74 #[v1, v2] w (RetDMF a b w) := by
  by_cases hb : b = 0
  · subst hb
    refine (divMod_zero w v1 v2 a h k).mono ?_
    rintro e w' ⟨u1, u2, rfl, h1, h2, h3⟩
    exact ⟨u1, u2, rfl, h1, h2, h3⟩
  · refine (divMod_any w v1 v2 a b h k l1 l2 hb).mono ?_
    rintro e w' ⟨u1, u2, q, r, rfl, h1, h2, h3, h4⟩
    obtain ⟨rfl, rfl⟩ := dm_fn h3 hb
    exact ⟨u1, u2, by unfold de; rw [if_neg hb], h1, h2, h4⟩
theorem dq_dr {a b : Int} (hb : b ≠ 0) : dq a b * b + dr a b = a ∧ (0 ≤ dr a b ∧ dr a b < b ∨ b < dr a b ∧ dr a b ≤ 0) := by
  unfold dq dr
  rw [if_neg hb, if_neg hb]
  have e := Int.mul_fdiv_add_fmod a b
  exact ⟨by rw [Int.mul_comm]; exact e, fmod_range a hb⟩
theorem dr_small {a b : Int} (l : Sm b) : Sm (dr a b) := by
  by_cases hb : b = 0
  · subst hb; exact l
  · have := (dq_dr (a := a) hb).2
    unfold Sm at *
    exact Nat.le_trans (limbs_len_mono (by omega)) l
theorem sgn_self (a : Int) : sgn (decide (a < 0)) a.natAbs = a := by
  by_cases h : a < 0
  · rw [decide_eq_true h]; simp [sgn]; omega
  · rw [decide_eq_false h]; simp [sgn]; omega
theorem dm_exists (a : Int) {b : Int} (hb : b ≠ 0) : ∃ q r, DM a b q r := by
  have ha := sgn_self a
  have hb' := sgn_self b
  by_cases h : decide (a < 0) = decide (b < 0) ∨ a.natAbs % b.natAbs = 0
  · have := dm_same (decide (a < 0)) (decide (b < 0)) a.natAbs b.natAbs (by omega) h
    rw [ha, hb'] at this
    exact ⟨_, _, this⟩
  · have := dm_other (decide (a < 0)) (decide (b < 0)) a.natAbs b.natAbs (by omega) (fun e => h (.inl e)) (fun e => h (.inr e))
    rw [ha, hb'] at this
    exact ⟨_, _, this⟩
theorem dq_abs (a b : Int) : (dq a b).natAbs ≤ a.natAbs := by
  by_cases hb : b = 0
  · unfold dq; rw [if_pos hb]; simp
  · obtain ⟨q, r, h⟩ := dm_exists a hb
    rw [← (dm_fn h hb).1]
    exact h.2.2.1
theorem dr_abs (a : Int) {b : Int} (hb : b ≠ 0) : (dr a b).natAbs < b.natAbs := by
  obtain ⟨q, r, h⟩ := dm_exists a hb
  rw [← (dm_fn h hb).2]
  exact h.2.2.2

end Go.Proofs.Ytdleiiboffkidaa
end

/- ---- Newt ---- -/
section
/-
  Square roots, rounded down, by Newton's method: plain numbers.
-/
set_option maxRecDepth 100000
namespace Go.Proofs.Ytdleiiboffkidaa

/-- r is the square root of n, rounded down. -/
def IsSq (n r : Nat) : Prop := r * r ≤ n ∧ n < (r + 1) * (r + 1)
theorem IsSq.unique {n r s : Nat} (h : IsSq n r) (k : IsSq n s) : r = s := by
  obtain ⟨h1, h2⟩ := h
  obtain ⟨k1, k2⟩ := k
  rcases Nat.lt_trichotomy r s with hlt | he | hlt
  · have := Nat.mul_le_mul (show r + 1 ≤ s from hlt) (show r + 1 ≤ s from hlt)
    omega
  · exact he
  · have := Nat.mul_le_mul (show s + 1 ≤ r from hlt) (show s + 1 ≤ r from hlt)
    omega
theorem sq_mono {a b : Nat} (h : a ≤ b) : a * a ≤ b * b := Nat.mul_le_mul h h
theorem lt_of_sq {a b : Nat} (h : a * a < b * b) : a < b := by
  rcases Nat.lt_or_ge a b with hlt | hge
  · exact hlt
  · have := sq_mono hge; omega
theorem newton_stop {n r : Nat} (hr : 0 < r) (hu : n < (r + 1) * (r + 1)) (h : r ≤ (r + n / r) / 2) : IsSq n r := by
  refine ⟨?_, hu⟩
  have h2 : r ≤ n / r := by omega
  rwa [Nat.le_div_iff_mul_le hr] at h2
theorem newton_next {n r : Nat} (hr : 0 < r) : n < ((r + n / r) / 2 + 1) * ((r + n / r) / 2 + 1) := by
  have h1 := Nat.div_add_mod n r
  have h2 := Nat.mod_lt n hr
  generalize n / r = t at *
  obtain ⟨m, hm⟩ : ∃ m, m = (r + t) / 2 + 1 := ⟨_, rfl⟩
  rw [← hm]
  have h3 : r + (t + 1) ≤ 2 * m := by omega
  have h4 : n < r * (t + 1) := by rw [Nat.mul_add]; omega
  have h5 : 4 * (r * (t + 1)) ≤ (r + (t + 1)) * (r + (t + 1)) := by
    generalize t + 1 = s
    rcases Nat.le_total r s with hle | hle
    · obtain ⟨k, rfl⟩ : ∃ k, s = r + k := ⟨s - r, by omega⟩
      simp only [Nat.mul_add, Nat.add_mul, Nat.mul_comm k r]
      have := Nat.zero_le (k * k)
      omega
    · obtain ⟨k, rfl⟩ : ∃ k, r = s + k := ⟨r - s, by omega⟩
      simp only [Nat.mul_add, Nat.add_mul, Nat.mul_comm k s]
      have := Nat.zero_le (k * k)
      omega
  have h6 := sq_mono h3
  have h7 : 2 * m * (2 * m) = 4 * (m * m) := by rw [Nat.mul_mul_mul_comm]
  omega
theorem newton_pos {n r : Nat} (hr : 0 < r) (hn : 0 < n) : 0 < (r + n / r) / 2 := by
  rcases Nat.lt_or_ge 1 r with h | h
  · have : 0 ≤ n / r := Nat.zero_le _
    omega
  · obtain rfl : r = 1 := by omega
    rw [Nat.div_one]; omega
/-- The quotient is not much greater than the root. -/
theorem newton_quo {n r : Nat} (hr : 0 < r) (hu : n < (r + 1) * (r + 1)) : n / r ≤ r + 2 := by
  have : n / r < r + 3 := by
    rw [Nat.div_lt_iff_lt_mul hr]
    have e : (r + 1) * (r + 1) = r * r + 2 * r + 1 := by rw [Nat.add_mul, Nat.mul_add]; omega
    have e2 : (r + 3) * r = r * r + 3 * r := Nat.add_mul r 3 r
    omega
  omega
/-- The first root: that of the upper part, and 1 more, moved to its place. -/
theorem first_root {top low r p : Nat} (hp : low < p * p) (hr : IsSq top r) : top * (p * p) + low < (p * (r + 1)) * (p * (r + 1)) := by
  have h := hr.2
  have h1 : (top + 1) * (p * p) ≤ (r + 1) * (r + 1) * (p * p) := Nat.mul_le_mul_right _ h
  rw [Nat.add_mul] at h1
  have h2 : (p * (r + 1)) * (p * (r + 1)) = (r + 1) * (r + 1) * (p * p) := by
    rw [Nat.mul_mul_mul_comm, Nat.mul_comm]
  omega
theorem lt_next_sq {n r : Nat} (h : n < r * r) : n < (r + 1) * (r + 1) := Nat.lt_of_lt_of_le h (sq_mono (Nat.le_succ r))

end Go.Proofs.Ytdleiiboffkidaa
end

/- ---- Sqn ---- -/
section
/-
  A step of Newton's method on limbs: (root + x / root) / 2, rounded down.
-/
set_option maxRecDepth 100000
namespace Go.Proofs.Ytdleiiboffkidaa
open Go.RowKit

/-- The list that addLimbs is handed for 1. -/
theorem len_sum {a b k : Nat} (ha : (limbs a).length ≤ k) (hb : (limbs b).length ≤ k) : (limbs (a + b)).length ≤ k + 1 := by
  have h1 := lt_of_limbs_len ha
  have h2 := lt_of_limbs_len hb
  refine limbs_len_le ?_
  rw [Nat.pow_succ]
  omega
theorem limbs_of_one : limbs 1 = [1] := rfl

end Go.Proofs.Ytdleiiboffkidaa
end

/- ---- Sqs ---- -/
section
/-
  The square root of a number of at most 120 bits.
-/
set_option maxRecDepth 100000
namespace Go.Proofs.Ytdleiiboffkidaa
open Go.RowKit

/-- The length of a number in two halves. -/
theorem len_two {n hi lo L : Nat} (h1 : hi = n / 18446744073709551616) (h2 : lo = n % 18446744073709551616) (h0 : 0 < n) (hn : n < 2 ^ 120) (hL : L = if hi = 0 then Lib.bitLen lo else 64 + Lib.bitLen hi) : n < 2 ^ L ∧ L ≤ 120 := by
  have key : n < 2 ^ L ∧ 2 ^ (L - 1) ≤ n := by
    by_cases hz : hi = 0
    · rw [if_pos hz] at hL
      have e : n = lo := by omega
      obtain ⟨b1, b2, b3⟩ := bitLen_bounds lo (by omega)
      rw [hL, e]
      exact ⟨b1, (b3 (by omega)).2⟩
    · rw [if_neg hz] at hL
      have hb : hi < 18446744073709551616 := by
        have : (2 : Nat) ^ 120 = 1329227995784915872903807060280344576 := by decide
        omega
      obtain ⟨b1, b2, b3⟩ := bitLen_bounds hi hb
      obtain ⟨b4, b5⟩ := b3 (by omega)
      have e1 : 2 ^ L = 18446744073709551616 * 2 ^ Lib.bitLen hi := by rw [hL, Nat.pow_add]
      have e2 : 2 ^ (L - 1) = 18446744073709551616 * 2 ^ (Lib.bitLen hi - 1) := by rw [hL, show 64 + Lib.bitLen hi - 1 = 64 + (Lib.bitLen hi - 1) by omega, Nat.pow_add]
      rw [e1, e2]
      generalize 2 ^ Lib.bitLen hi = A at *
      generalize 2 ^ (Lib.bitLen hi - 1) = B at *
      omega
  refine ⟨key.1, ?_⟩
  rcases Nat.lt_or_ge 120 L with h | h
  · have := Nat.pow_le_pow_right (n := 2) (by omega) (show 120 ≤ L - 1 by omega)
    omega
  · exact h
/-- The first root: greater than the root, and a power of 2. -/
theorem first_pow {n L k : Nat} (h : n < 2 ^ L) (hL : L ≤ 120) (hk : k = (L + 1) / 2) : n < 2 ^ k * 2 ^ k ∧ k ≤ 60 ∧ 0 < 2 ^ k ∧ 2 ^ k ≤ 1152921504606846976 := by
  have hk2 : k ≤ 60 := by omega
  refine ⟨?_, hk2, Nat.pow_pos (by omega), ?_⟩
  · rw [← Nat.pow_add]
    exact Nat.lt_of_lt_of_le h (Nat.pow_le_pow_right (by omega) (by omega))
  · have := Nat.pow_le_pow_right (n := 2) (by omega) hk2
    have e : (2 : Nat) ^ 60 = 1152921504606846976 := by decide
    omega
/-- In each step the upper half is less than the root, and the sum is no more than a word holds. -/
theorem root_step {n r : Nat} (hn : n < 2 ^ 120) (h0 : 0 < n) (hr : 0 < r) (hu : n < (r + 1) * (r + 1)) (hm : r ≤ 1152921504606846976) : n / 18446744073709551616 < r ∧ n / r ≤ r + 2 := by
  refine ⟨?_, newton_quo hr hu⟩
  have e : (2 : Nat) ^ 120 = 18446744073709551616 * 72057594037927936 := by decide
  rcases Nat.lt_or_ge (n / 18446744073709551616) r with h | h
  · exact h
  · exfalso
    have h1 : n / 18446744073709551616 < 72057594037927936 := by omega
    have h2 : r + 1 ≤ 72057594037927936 := by omega
    have h3 : (r + 1) * (r + 1) ≤ 72057594037927936 * (r + 1) := Nat.mul_le_mul_right _ h2
    omega

end Go.Proofs.Ytdleiiboffkidaa
end

/- ---- Gcds ---- -/
section
/-
  gcdSmall, and GCD of integers with at most two limbs.
-/
set_option maxRecDepth 100000
namespace Go.Proofs.Ytdleiiboffkidaa
open Go.RowKit

/-- GCD where the lesser absolute value has at most two limbs. -/
def GcdStart (n n' : Nat) : Prop := (limbs n).length ≤ 1048576 ∧ (limbs n').length ≤ 1048576
end Go.Proofs.Ytdleiiboffkidaa
end

/- ---- Awake ---- -/
section
/-
  The examples of the document: awake returns true.
-/
set_option maxRecDepth 100000
namespace Go.Proofs.Ytdleiiboffkidaa
open Go.RowKit

end Go.Proofs.Ytdleiiboffkidaa
end

/- ---- Awake2 ---- -/
section
/-
  awake returns true.
-/
set_option maxRecDepth 100000
namespace Go.Proofs.Ytdleiiboffkidaa
open Go.RowKit

theorem dm_7_2 {q r : Int} (h : DM (-7) 2 q r) : q = -4 ∧ r = 1 := by obtain ⟨h1, h2, _⟩ := h; omega
theorem dm_7_m2 {q r : Int} (h : DM 7 (-2) q r) : q = -4 ∧ r = -1 := by obtain ⟨h1, h2, _⟩ := h; omega
theorem sm_lit {z : Int} (h : z.natAbs < 1000000000) : Sm z := by
  unfold Sm; have := limbs_len_le (n := z.natAbs) (k := 1) (by omega); omega
theorem divOK_lit (m n : Nat) (hm : m < 1000000000) (hn : n < 1000000000) (h0 : 0 < n) : DivOK m n := by
  have l1 := limbs_len_le (n := m) (k := 1) (by omega)
  by_cases h : (limbs m).length < (limbs n).length
  · exact divOK_less m n (by omega) h
  · exact divOK_small m n h (by omega) (by omega)
theorem fi (w : World) (n : Int) (h1 : -1000000000 ≤ n) (h2 : n ≤ 1000000000) : Calls Try.prog 76 #[.int .i64 n] w (Ret (fun v w' => IsInt w' v n) w) := fromInt64_calls w n (by omega) (by omega)
theorem dm1 (w : World) (v1 v2 : Value) (h : IsInt w v1 (-7)) (k : IsInt w v2 2) :
    Calls Try.prog 74 #[v1, v2] w fun e w' => ∃ u1 u2, e = .returned (.tuple #[u1, u2, .int .i64 0]) ∧ IsInt w' u1 (-4) ∧ IsInt w' u2 1 ∧ Ext w w' :=
  (divMod_calls w v1 v2 (-7) 2 h k (sm_lit (by decide)) (sm_lit (by decide)) (by omega) (divOK_lit _ _ (by decide) (by decide) (by decide))).mono fun e w' ⟨u1, u2, q, r, he, h1, h2, h3, h4⟩ => by
    obtain ⟨rfl, rfl⟩ := dm_7_2 h3
    exact ⟨u1, u2, he, h1, h2, h4⟩
theorem dm2 (w : World) (v1 v2 : Value) (h : IsInt w v1 7) (k : IsInt w v2 (-2)) :
    Calls Try.prog 74 #[v1, v2] w fun e w' => ∃ u1 u2, e = .returned (.tuple #[u1, u2, .int .i64 0]) ∧ IsInt w' u1 (-4) ∧ IsInt w' u2 (-1) ∧ Ext w w' :=
  (divMod_calls w v1 v2 7 (-2) h k (sm_lit (by decide)) (sm_lit (by decide)) (by omega) (divOK_lit _ _ (by decide) (by decide) (by decide))).mono fun e w' ⟨u1, u2, q, r, he, h1, h2, h3, h4⟩ => by
    obtain ⟨rfl, rfl⟩ := dm_7_m2 h3
    exact ⟨u1, u2, he, h1, h2, h4⟩

theorem isInt_1e9 (w : World) : IsInt (w.alloc (.cells #[.int .u32 0, .int .u32 1] 67)) (.agg #[.bool false, .slice (some ⟨w.heap.size, 0, none⟩) 2 2]) 1000000000 := by
  have hl : limbs 1000000000 = [0, 1] := by
    rw [limbs_step (by omega), show 1000000000 % 1000000000 = 0 from rfl, show 1000000000 / 1000000000 = 1 from rfl, limbs_step (by omega), show 1 % 1000000000 = 1 from rfl, show 1 / 1000000000 = 0 from rfl, limbs_zero]
  have hn : (1000000000 : Int).natAbs = 1000000000 := rfl
  refine ⟨some ⟨w.heap.size, 0, none⟩, 2, ?_, ?_, by omega, ?_⟩
  · rw [hn, hl]; rfl
  · rw [hn, hl]; simp
  · rw [hn, hl]; exact (Blk.new w [0, 1]).cells
end Go.Proofs.Ytdleiiboffkidaa
end

/- ---- Small ---- -/
section
/-
  small and cp.
-/
set_option maxRecDepth 100000
namespace Go.Proofs.Ytdleiiboffkidaa
open Go.RowKit
set_option maxRecDepth 100000

/-- Element k of a slice of structs. -/
def Item (w : World) (g k : Nat) (p : Bool × List Nat) : Prop := ∃ ao cap, w.cell? ⟨g, k * 2, none⟩ = some (.bool p.1) ∧ w.cell? ⟨g, k * 2 + 1, none⟩ = some (.slice ao p.2.length cap) ∧ p.2.length ≤ cap ∧ cap ≤ 9223372036854775807 ∧ Cells w ao p.2
def smB (p : Bool × List Nat) : Bool := decide (p.2.length ≤ 16) && okB p.1 p.2

/-- An append of a slice of uint32 to an empty slice of the call's own. -/
theorem step_append_run {P : Program} {ops : Array Oper} {o : Oper} {a : Act} {w : World} {K : Act → World → Prop} {Q : Exit → Act → World → Prop} {E : Prop} (hgd : o.guard = none) (s x : Operand) (t : TypeId)
    (ho : o.op = .call { callee := .builtin .append, args := #[s, x], argTypes := #[t, t] }) {vs vx v' : Value} {w' : World} (hs : a.eval s = vs) (hx : a.eval x = vx)
    (hrun : (Builtin.append_ #[t, t] o.type #[vs, vx]).run P w = .ok v' w') (h : K (a.put o.dst v') w') :
    if Region.wanted o (yielded ops a.tmps) = true then Oper.wp P o a w K Q else E := by
  have hw : Region.wanted o (yielded ops a.tmps) = true := by simp [Region.wanted, hgd]
  rw [if_pos hw]
  unfold Oper.wp
  simp [execOp, ho, resolve, invoke, builtin, hs, hx, hrun, Result.andThen]
  exact h
theorem run_append_nil {P : Program} {w : World} (base : Nat) (t ty e : TypeId) (i : TypeInfo) (size : Nat) (ht : P.underlying t = some (.slice e)) (hi : P.info? e = some i)
    (v : Value) (n : Nat) (xs : List Value) (hown : w.ownsRow base e size v n xs) (c : Nat) : (Builtin.append_ #[t, t] ty #[v, .slice none 0 c]).run P w = .ok v w := by
  rcases hown.2 with ⟨rfl, rfl⟩ | ⟨g, cap, cur, rfl, _, _, hnc, _⟩
  · simp [Builtin.append_, run_underlying ht, sizeOf, typeInfo, hi, Builtin.lenOf, Builtin.firstCells]
  · simp [Builtin.append_, run_underlying ht, sizeOf, typeInfo, hi, Builtin.lenOf, Builtin.firstCells, hnc, storeCells]
/-- What such an append leaves. -/
theorem run_append_new (w : World) (ty : TypeId) (ao : Option Addr) (xs : List Nat) (c : Nat) (lx : xs.length ≤ 1099511627776) (h : Cells w ao xs) :
    ∃ ao' cap w1, (Builtin.append_ #[22, 22] ty #[.slice (some ⟨w.heap.size, 0, none⟩) 0 0, .slice ao xs.length c]).run Try.prog (w.alloc (.cells #[] 67)) = .ok (.slice ao' xs.length cap) w1 ∧ xs.length ≤ cap ∧ cap ≤ 9223372036854775807 ∧ Ext w w1 ∧ Cells w1 ao' xs := by
  obtain ⟨i0, hi, hz0, hz1, hz2⟩ := info_parts info_u32
  have hown := World.ownsRow_made (base := w.heap.size) (e := 67) (size := 1) w #[] 0 (Nat.le_refl _) (by simp) (by simp)
  rcases ao with _ | a
  · obtain rfl : xs = [] := by
      rcases h with h | ⟨b, off, hh, _⟩
      · exact h
      · cases hh
    exact ⟨_, 0, _, run_append_nil (P := Try.prog) w.heap.size 22 ty 67 i0 1 Try.underlying22 hi _ 0 [] hown c, by simp, by omega, (Ext.refl w).alloc _, Cells.nil _ _⟩
  · have hnews : ∀ j u, (xs.map fun x => Value.int .u32 ((x : Nat) : Int))[j]? = some u → (w.alloc (.cells #[] 67)).cell? (a.add j) = some u := by
      intro j u hu
      refine ((Ext.refl w).alloc _).cell ?_
      rcases h with h | ⟨b, off, hh, hx⟩
      · subst h; simp at hu
      · injection hh with hh
        subst hh
        rw [List.getElem?_map] at hu
        obtain ⟨x, hx1, rfl⟩ := Option.map_eq_some_iff.1 hu
        have hj : j < xs.length := (List.getElem?_eq_some_iff.1 hx1).1
        have := hx j hj
        rw [List.getD_eq_getElem?_getD, hx1] at this
        by_cases h0 : j = 0
        · subst h0; simpa [Addr.add] using this
        · simpa [Addr.add, h0] using this
    obtain ⟨v', w1, hrun, hown1, hgrow, hnil⟩ := run_append_own (P := Try.prog) (w.alloc (.cells #[] 67)) w.heap.size 22 ty 67 i0 (.int .u32 0) 1 4 Try.underlying22 hi hz0 hz1 hz2 rfl (by decide) _ 0 [] hown a xs.length c (xs.map fun x => Value.int .u32 ((x : Nat) : Int)) (by simp) hnews
      (by intro u hu; obtain ⟨x, _, rfl⟩ := List.mem_map.1 hu; rfl) (by unfold maxLen; omega) (by omega) (by simp)
    rw [Nat.zero_add, List.nil_append] at hown1
    have hE : Ext w w1 := Below.grown ((Ext.refl w).alloc _) hgrow (by simp) (fun k hk => by simp [Value.ownBlock] at hk; omega)
    rcases hown1.2 with ⟨rfl, _⟩ | ⟨g, cap, cur, rfl, hg, _, hnc, hcm, _, _⟩
    · exact absurd (hnil.1 rfl).1 (by simp)
    · exact ⟨_, cap, w1, hrun, hnc, by unfold maxLen at hcm; omega, hE, (Blk.of_owns hown1).cells⟩

theorem fin_raw {w w2 : World} {neg b0 : Bool} {ao a0 : Option Addr} {xs : List Nat} {cap l0 k0 : Nat} {r : Nat} (x1 : xs.length ≤ cap) (x2 : cap ≤ 9223372036854775807) (x3 : Cells w2 ao xs)
    (c0 : w2.cell? ⟨r, 0, none⟩ = some (.bool b0)) (c1 : w2.cell? ⟨r, 1, none⟩ = some (.slice a0 l0 k0)) (hr : w.heap.size ≤ r) (e : Ext w w2) :
    Ret (fun v' w' => Raw w' v' neg xs) w (.returned (.agg #[.bool neg, .slice ao xs.length cap])) ((w2.setCell ⟨r, 0, none⟩ (.bool neg)).setCell ⟨r, 1, none⟩ (.slice ao xs.length cap)) := by
  have k1 : (w2.setCell ⟨r, 0, none⟩ (.bool neg)).cell? ⟨r, 1, none⟩ = some (.slice a0 l0 k0) := by
    rw [World.cell?_setCell_other _ _ _ _ (by simp)]; exact c1
  exact ⟨_, rfl, ⟨ao, cap, rfl, x1, x2, (x3.store c0 (by simp) _).store k1 (by simp) _⟩, (e.setCell (p := ⟨r, 0, none⟩) hr _).setCell (p := ⟨r, 1, none⟩) hr _⟩

end Go.Proofs.Ytdleiiboffkidaa
end

/- ---- Sql ---- -/
section
/-
  The square root of limbs, rounded down.
-/
set_option maxRecDepth 100000
namespace Go.Proofs.Ytdleiiboffkidaa
open Go.RowKit

theorem limbs_shift (d n : Nat) (hn : 0 < n) : limbs (1000000000 ^ d * n) = List.replicate d 0 ++ limbs n := by
  have hne : limbs n ≠ [] := by intro h; have := limbs_pos hn; rw [h] at this; simp at this
  have h1 : val (List.replicate d 0 ++ limbs n) = 1000000000 ^ d * n := by
    rw [val_append, val_limbs, List.length_replicate]
    have : val (List.replicate d 0) = 0 := by
      induction d with
      | zero => rfl
      | succ d ih => rw [List.replicate_succ]; simp [val, ih]
    omega
  rw [← h1]
  refine limbs_val ((Dig.replicate d).append (dig_limbs n)) (fun _ => ?_)
  have hp := limbs_pos hn
  have hl := limbs_last n hne
  rw [List.length_append, List.length_replicate, List.getD_eq_getElem?_getD, List.getElem?_append_right (by rw [List.length_replicate]; omega), List.length_replicate, show d + (limbs n).length - 1 - d = (limbs n).length - 1 by omega, ← List.getD_eq_getElem?_getD]
  exact hl
theorem limbs_div (m k : Nat) (hk : k ≤ (limbs m).length) : limbs (m / 1000000000 ^ k) = (limbs m).drop k := by
  have h1 := val_split (limbs m) k hk
  have h2 := val_lt ((dig_limbs m).take k)
  rw [List.length_take, Nat.min_eq_left hk] at h2
  rw [val_limbs] at h1
  have h3 : m / 1000000000 ^ k = val ((limbs m).drop k) := by
    generalize val ((limbs m).take k) = A at h1 h2
    generalize val ((limbs m).drop k) = D at h1 ⊢
    rw [h1, Nat.add_mul_div_left _ _ (Nat.pow_pos (by omega)), Nat.div_eq_of_lt h2, Nat.zero_add]
  rw [h3]
  refine limbs_val ((dig_limbs m).drop k) (fun hne => ?_)
  rw [List.length_drop]
  have hlt : k < (limbs m).length := by
    rcases Nat.lt_or_ge k (limbs m).length with h | h
    · exact h
    · exact absurd (List.drop_of_length_le h) hne
  rw [List.getD_eq_getElem?_getD, List.getElem?_drop, show k + ((limbs m).length - k - 1) = (limbs m).length - 1 by omega, ← List.getD_eq_getElem?_getD]
  exact limbs_last m (by intro h; rw [h] at hlt; simp at hlt)
theorem isSq_exists (n : Nat) : ∃ r, IsSq n r := by
  induction n with
  | zero => exact ⟨0, by decide, by decide⟩
  | succ n ih =>
    obtain ⟨r, h1, h2⟩ := ih
    rcases Nat.lt_or_ge (n + 1) ((r + 1) * (r + 1)) with h | h
    · exact ⟨r, by omega, h⟩
    · refine ⟨r + 1, h, ?_⟩
      have : (r + 1) * (r + 1) < (r + 1 + 1) * (r + 1 + 1) := Nat.mul_lt_mul'' (by omega) (by omega)
      omega
theorem isSq_le {n r : Nat} (h : IsSq n r) : r ≤ n := by
  have h1 := h.1
  rcases Nat.eq_zero_or_pos r with h0 | h0
  · omega
  · have := Nat.mul_le_mul_left r h0; omega

/-- What an append of limbs to a block of limbs that was just made leaves. -/
theorem run_append_onto (w : World) (ty : TypeId) (zs : List Nat) (lz : zs.length ≤ 1099511627776) (hz : 0 < zs.length) (ao : Option Addr) (xs : List Nat) (c : Nat) (lx : xs.length ≤ 1099511627776) (h : Cells w ao xs) :
    ∃ ao' cap w1, (Builtin.append_ #[22, 22] ty #[.slice (some ⟨w.heap.size, 0, none⟩) zs.length zs.length, .slice ao xs.length c]).run Try.prog (w.alloc (.cells (u32s zs) 67)) = .ok (.slice ao' (zs.length + xs.length) cap) w1 ∧
      zs.length + xs.length ≤ cap ∧ cap ≤ 9223372036854775807 ∧ Ext w w1 ∧ Cells w1 ao' (zs ++ xs) := by
  obtain ⟨i0, hi, hz0, hz1, hz2⟩ := info_parts info_u32
  have hown : (w.alloc (.cells (u32s zs) 67)).ownsRow w.heap.size 67 1 (.slice (some ⟨w.heap.size, 0, none⟩) zs.length zs.length) zs.length (zs.map fun x => Value.int .u32 ((x : Nat) : Int)) :=
    ⟨by simp, .inr ⟨w.heap.size, zs.length, u32s zs, rfl, Nat.le_refl _, heap_alloc_new w _, Nat.le_refl _, by unfold maxLen; omega, by simp [u32s], by rw [Nat.mul_one]; simp only [u32s]; exact List.take_of_length_le (by simp)⟩⟩
  have hfin : ∀ (w1 : World) (v' : Value), Ext w w1 → w1.ownsRow w.heap.size 67 1 v' (zs ++ xs).length ((zs ++ xs).map fun x => Value.int .u32 ((x : Nat) : Int)) →
      ∃ ao' cap, v' = .slice ao' (zs.length + xs.length) cap ∧ zs.length + xs.length ≤ cap ∧ cap ≤ 9223372036854775807 ∧ Ext w w1 ∧ Cells w1 ao' (zs ++ xs) := by
    intro w1 v' hE hown2
    rcases hown2.2 with ⟨rfl, h0⟩ | ⟨g, cap, cur, rfl, hg, _, hnc, hcm, _, _⟩
    · exfalso
      rw [List.length_append] at h0
      omega
    · rw [List.length_append] at hnc
      exact ⟨_, cap, by rw [List.length_append], hnc, by unfold maxLen at hcm; omega, hE, (Blk.of_owns hown2).cells⟩
  rcases ao with _ | a
  · obtain rfl : xs = [] := by
      rcases h with h | ⟨b, off, hh, _⟩
      · exact h
      · cases hh
    obtain ⟨ao', cap, hv, k1, k2, k3, k4⟩ := hfin _ _ ((Ext.refl w).alloc _) (by simpa using hown)
    injection hv with hv1 hv2 hv3
    subst hv1 hv3
    exact ⟨_, _, _, run_append_nil (P := Try.prog) w.heap.size 22 ty 67 i0 1 Try.underlying22 hi _ _ _ hown c, k1, k2, k3, k4⟩
  · have hnews : ∀ j u, (xs.map fun x => Value.int .u32 ((x : Nat) : Int))[j]? = some u → (w.alloc (.cells (u32s zs) 67)).cell? (a.add j) = some u := by
      intro j u hu
      refine ((Ext.refl w).alloc _).cell ?_
      rcases h with h | ⟨b, off, hh, hx⟩
      · subst h; simp at hu
      · injection hh with hh
        subst hh
        rw [List.getElem?_map] at hu
        obtain ⟨x, hx1, rfl⟩ := Option.map_eq_some_iff.1 hu
        have hj : j < xs.length := (List.getElem?_eq_some_iff.1 hx1).1
        have := hx j hj
        rw [List.getD_eq_getElem?_getD, hx1] at this
        by_cases h0 : j = 0
        · subst h0; simpa [Addr.add] using this
        · simpa [Addr.add, h0] using this
    obtain ⟨v', w1, hrun, hown1, hgrow, hnil⟩ := run_append_own (P := Try.prog) (w.alloc (.cells (u32s zs) 67)) w.heap.size 22 ty 67 i0 (.int .u32 0) 1 4 Try.underlying22 hi hz0 hz1 hz2 rfl (by decide) _ _ _ hown a xs.length c (xs.map fun x => Value.int .u32 ((x : Nat) : Int)) (by simp) hnews
      (by intro u hu; obtain ⟨x, _, rfl⟩ := List.mem_map.1 hu; rfl) (by unfold maxLen; omega) (by omega) (by simp)
    have hE : Ext w w1 := Below.grown ((Ext.refl w).alloc _) hgrow (by simp) (fun k hk => by simp [Value.ownBlock] at hk; omega)
    obtain ⟨ao', cap, rfl, k1, k2, k3, k4⟩ := hfin w1 v' hE (by rw [List.map_append, List.length_append]; exact hown1)
    exact ⟨_, _, _, hrun, k1, k2, k3, k4⟩

set_option maxHeartbeats 400000 in
theorem split_short (w : World) (ao : Option Addr) (xs : List Nat) (cap : Nat) (hc : xs.length ≤ cap) (hm : cap ≤ 9223372036854775807) (h : Cells w ao xs) (dx : Dig xs) (h2 : xs.length ≤ 2) :
    Calls Try.prog 109 #[.slice ao xs.length cap] w fun e w' =>
      e = .returned (.tuple #[.int .u64 ((val xs / 18446744073709551616 : Nat) : Int), .int .u64 ((val xs % 18446744073709551616 : Nat) : Int)]) ∧ w = w' := by
  have hb := val_lt dx
  have hb2 : val xs < 1000000000000000000 := Nat.lt_of_lt_of_le hb (Nat.pow_le_pow_right (by omega) h2)
  have hv := valueOf_calls w ao xs cap hc hm h (by omega)
  have HV := Lib.hid hv
  have hl : (xs.length : Int) ≤ 2 := by omega
  have e1 : val xs / 18446744073709551616 = 0 := by omega
  have e2 : val xs % 18446744073709551616 = val xs := by omega
  rw [e1, e2]
  clear hv hb hb2 e1 e2 hc hm h dx h2
  go_enter Try.func109, Try.ntmps109
  go_wp2_with fail
  refine HV.out.mono ?_
  rintro e w' ⟨rfl, rfl⟩
  go_wp2
  go_ret2
  exact ⟨rfl, rfl⟩
theorem split_any (w : World) (ao : Option Addr) (n : Nat) (cap : Nat) (hc : (limbs n).length ≤ cap) (hm : cap ≤ 9223372036854775807) (h : Cells w ao (limbs n)) (h4 : (limbs n).length ≤ 4) :
    Calls Try.prog 109 #[.slice ao (limbs n).length cap] w fun e w' =>
      e = .returned (.tuple #[.int .u64 ((n / 18446744073709551616 : Nat) : Int), .int .u64 ((n % 18446744073709551616 : Nat) : Int)]) ∧ w = w' := by
  by_cases h2 : (limbs n).length ≤ 2
  · have := split_short w ao (limbs n) cap hc hm h (dig_limbs n) h2
    rwa [val_limbs] at this
  · obtain ⟨b, off, rfl, _⟩ := h.at_ (by omega)
    have := split_calls w b off (limbs n) cap hc hm h (dig_limbs n) (by omega) h4
    rwa [val_limbs] at this

/-- What sqrtLimbs returns. -/
def SqL (m : Nat) (v : Value) (w : World) : Prop := ∃ r, IsSq m r ∧ IsLimbs r v w

end Go.Proofs.Ytdleiiboffkidaa
end

/- ---- Sqa ---- -/
section
/-
  The square root of limbs of any length: Newton's method from the root of the upper limbs.
-/
set_option maxRecDepth 100000
namespace Go.Proofs.Ytdleiiboffkidaa
open Go.RowKit

/-- The first root: greater than the root, and with no more limbs than the number. -/
theorem first_limbs {m d r : Nat} (hd : 0 < d) (h2 : 2 * d + 1 ≤ (limbs m).length) (hr : IsSq (m / 1000000000 ^ (2 * d)) r) :
    m < (1000000000 ^ d * (r + 1) + 1) * (1000000000 ^ d * (r + 1) + 1) ∧ 0 < 1000000000 ^ d * (r + 1) ∧ (limbs (1000000000 ^ d * (r + 1))).length ≤ (limbs m).length ∧ (limbs (r + 1)).length + d ≤ (limbs m).length := by
  have hP : 0 < 1000000000 ^ d := Nat.pow_pos (by omega)
  have e : 1000000000 ^ (2 * d) = 1000000000 ^ d * 1000000000 ^ d := by rw [← Nat.pow_add]; congr 1; omega
  have hl : (limbs (r + 1)).length + d ≤ (limbs m).length := by
    have h1 : (limbs r).length ≤ (limbs m).length - 2 * d := by
      have := limbs_len_mono (isSq_le hr)
      rw [limbs_div m (2 * d) (by omega), List.length_drop] at this
      exact this
    have h3 := lt_of_limbs_len h1
    have h4 : (limbs (r + 1)).length ≤ (limbs m).length - 2 * d + 1 := by
      refine limbs_len_le ?_
      rw [Nat.pow_succ]
      have : 0 < 1000000000 ^ ((limbs m).length - 2 * d) := Nat.pow_pos (by omega)
      omega
    omega
  refine ⟨?_, Nat.mul_pos hP (by omega), ?_, hl⟩
  · refine lt_next_sq ?_
    have h1 := Nat.div_add_mod m (1000000000 ^ (2 * d))
    have h2 := Nat.mod_lt m (show 0 < 1000000000 ^ (2 * d) from Nat.pow_pos (by omega))
    rw [e] at h1 h2 hr
    have := first_root h2 hr
    rw [Nat.mul_comm (m / _)] at this
    omega
  · rw [limbs_shift d (r + 1) (by omega), List.length_append, List.length_replicate]
    omega

/-- An append of which it is known what it leaves. -/
theorem wpList_append_run' {P : Program} {w : World} {ops : Array Oper} {rest : List Oper} {o : Oper} {a : Act} {Q : Exit → Act → World → Prop} (hgd : o.guard = none) (s x : Operand) (t : TypeId)
    (ho : o.op = .call { callee := .builtin .append, args := #[s, x], argTypes := #[t, t] }) {vs vx v' : Value} {w' : World} (hs : a.eval s = vs) (hx : a.eval x = vx)
    (hrun : (Builtin.append_ #[t, t] o.type #[vs, vx]).run P w = .ok v' w') (h : wpList P ops Q rest (a.put o.dst v') w') : wpList P ops Q (o :: rest) a w := by
  refine wpList_plain hgd fun K hK => ?_
  unfold Oper.wp
  simp [execOp, ho, resolve, invoke, builtin, hs, hx, hrun, Result.andThen]
  exact hK _ _ h

/-- What the loop keeps: a number that is not less than the root. -/
def SqRel (w0 : World) (m q : Nat) (x : Value) (wr : World) : Prop :=
  ∃ a c, x = .slice a (limbs q).length c ∧ Hid (0 < q ∧ m < (q + 1) * (q + 1) ∧ (limbs q).length ≤ 1048575 ∧ (limbs q).length ≤ c ∧ c ≤ 9223372036854775807) ∧ Cells wr a (limbs q) ∧ Ext w0 wr

end Go.Proofs.Ytdleiiboffkidaa
end

/- ---- Sqr ---- -/
section
/-
  Sqrt of an integer, in all cases.
-/
set_option maxRecDepth 100000
namespace Go.Proofs.Ytdleiiboffkidaa
open Go.RowKit

/-- The square root, rounded down. -/
def isqN : Nat → Nat
  | 0 => 0
  | n + 1 => if n + 1 < (isqN n + 1) * (isqN n + 1) then isqN n else isqN n + 1
theorem isqN_spec (n : Nat) : IsSq n (isqN n) := by
  induction n with
  | zero => exact ⟨by decide, by decide⟩
  | succ n ih =>
    obtain ⟨h1, h2⟩ := ih
    unfold isqN
    split
    · rename_i h; exact ⟨by omega, h⟩
    · rename_i h
      refine ⟨by omega, ?_⟩
      have : (isqN n + 1) * (isqN n + 1) < (isqN n + 1 + 1) * (isqN n + 1 + 1) := Nat.mul_lt_mul'' (by omega) (by omega)
      omega
theorem isqN_spec_eq {n r : Nat} (h : IsSq n r) : isqN n = r := (isqN_spec n).unique h
/-- What Sqrt returns: an integer's root, rounded down; 0 and an error for a negative one. -/
def isq (z : Int) : Int := if z < 0 then 0 else (isqN z.natAbs : Int)
def isqE (z : Int) : Int := if z < 0 then 7 else 0
def RetSqA (z : Int) (w : World) (e : Ending) (w' : World) : Prop :=
  ∃ v, e = .returned (.tuple #[v, .int .i64 (isqE z)]) ∧ IsInt w' v (isq z) ∧ Ext w w'

end Go.Proofs.Ytdleiiboffkidaa
end

/- ---- Sxa ---- -/
section
/-
  Terms and what is known of values: the words of a walker that goes by reckoning.
-/
set_option maxRecDepth 100000
namespace Go.Proofs.Ytdleiiboffkidaa
open Go.RowKit

/-- The functions of one and of two integers that terms may name. -/
def fn1 : Nat → Int → Int
  | 0, x => -x
  | 1, x => de x
  | 2, x => isq x
  | 3, x => isqE x
  | 4, x => ((limbs x.natAbs).length : Int)
  | 5, x => (x.natAbs : Int)
  | 20, x => IntKind.i64.wrap x
  | 21, x => IntKind.u64.wrap x
  | 22, x => IntKind.u32.wrap x
  | 30, x => 2 ^ x.toNat
  | _, x => x
def fn2 : Nat → Int → Int → Int
  | 0, x, y => x + y
  | 1, x, y => x - y
  | 2, x, y => x * y
  | 3, x, y => cmpZ x y
  | 4, x, y => dq x y
  | 5, x, y => dr x y
  | 6, x, y => ((Nat.gcd x.natAbs y.natAbs : Nat) : Int)
  | 7, x, y => (Rat.divInt x y).num
  | 8, x, y => ((Rat.divInt x y).den : Int)
  | 9, x, y => ((x.natAbs / y.natAbs : Nat) : Int)
  | 10, x, y => ((x.natAbs % y.natAbs : Nat) : Int)
  | 11, x, y => if y = 0 then 0 else ((Rat.divInt x y).den : Int)
  | 12, x, y => if y < x then y else x
  | 13, x, y => if y > x then y else x
  | 19, x, y => x * y / 18446744073709551616
  | 14, x, y => IntKind.u64.wrap ((BitVec.ofInt 64 x ||| BitVec.ofInt 64 y).toNat : Int)
  | 15, x, y => x.tmod y
  | 16, x, y => x.tdiv y
  | 17, x, y => x * 2 ^ y.toNat
  | 18, x, y => x.fdiv (2 ^ y.toNat)
  | _, x, _ => x
/-- The sign of a + sgn(s) sqrt|s|, and that number rounded down (where |s| is no square). -/
def sgS (a s : Rat) : Int := if s.num = 0 then cmpZ a.num 0 else if cmpZ a.num 0 = - cmpZ s.num 0 then cmpZ a.num 0 * cmpZ (a.num * a.num * (s.den : Int)) ((s.num.natAbs : Int) * ((a.den : Int) * (a.den : Int))) else cmpZ s.num 0
def flS (a s : Rat) : Int := if s.num = 0 then dq a.num (a.den : Int) else dq (a.num * (s.den : Int) + (if s.num < 0 then - (isq ((s.num.natAbs : Int) * (s.den : Int) * ((a.den : Int) * (a.den : Int))) + 1) else isq ((s.num.natAbs : Int) * (s.den : Int) * ((a.den : Int) * (a.den : Int))))) ((a.den : Int) * (s.den : Int))
/-- Whether c is a radicand that goes with b: both 0, or b is not and c is positive and no square. -/
def sqz (z : Int) : Bool := isq z * isq z == z
def Rdb (b c : Rat) : Bool := (b.num == 0 && c.num == 0) || (b.num != 0 && (decide (0 < c.num) && !(sqz c.num && sqz (c.den : Int))))
def ratF : Nat → Rat → Rat → Rat
  | 0, a, b => a + b
  | 1, a, b => a - b
  | 2, a, b => a * b
  | 5, a, b => if a.num = 0 then 0 else b
  | 6, a, b => if a.num = 0 then b else 0
  | 7, a, b => if a.num < 0 then - (a * a * b) else a * a * b
  | 8, a, s => (sgS a s : Rat)
  | 9, a, s => (flS a s : Rat)
  | 10, b, c => if Rdb b c then 1 else 0
  | _, a, b => a / b
def fn4 (f : Nat) (x y z t : Int) : Int := if f % 2 = 0 then (ratF (f / 2) (Rat.divInt x y) (Rat.divInt z t)).num else if f = 9 ∧ Rat.divInt z t = 0 then 0 else ((ratF (f / 2) (Rat.divInt x y) (Rat.divInt z t)).den : Int)
inductive IT where
  | var (i : Nat)
  | lit (z : Int)
  | rlen (i : Nat)
  | slen (i : Nat)
  | a1 (f : Nat) (x : IT)
  | a2 (f : Nat) (x y : IT)
  | a4 (f : Nat) (x y z t : IT)
structure Env where
  i : Nat → Int
  b : Nat → Bool
  r : Nat → Bool × List Nat
  s : Nat → List UInt8
def IT.den (E : Env) : IT → Int
  | .var i => E.i i
  | .lit z => z
  | .rlen i => ((E.r i).2.length : Int)
  | .slen i => ((E.s i).length : Int)
  | .a1 f x => fn1 f (x.den E)
  | .a2 f x y => fn2 f (x.den E) (y.den E)
  | .a4 f x y z t => fn4 f (x.den E) (y.den E) (z.den E) (t.den E)
def IT.beq : IT → IT → Bool
  | .var i, .var j => i == j
  | .lit x, .lit y => x == y
  | .rlen i, .rlen j => i == j
  | .slen i, .slen j => i == j
  | .a1 f x, .a1 g y => f == g && x.beq y
  | .a2 f x y, .a2 g z t => f == g && (x.beq z && y.beq t)
  | .a4 f x y z t, .a4 g x' y' z' t' => f == g && (x.beq x' && (y.beq y' && (z.beq z' && t.beq t')))
  | _, _ => false
theorem IT.eq_of_beq : ∀ {x y : IT}, x.beq y = true → x = y := by
  intro x
  induction x with
  | var i => intro y h; cases y <;> simp_all [IT.beq]
  | lit i => intro y h; cases y <;> simp_all [IT.beq]
  | rlen i => intro y h; cases y <;> simp_all [IT.beq]
  | slen i => intro y h; cases y <;> simp_all [IT.beq]
  | a1 f x ih =>
    intro y h
    cases y <;> simp only [IT.beq, Bool.false_eq_true, Bool.and_eq_true, beq_iff_eq] at h
    rw [h.1, ih h.2]
  | a2 f x y ihx ihy =>
    intro y h
    cases y <;> simp only [IT.beq, Bool.false_eq_true, Bool.and_eq_true, beq_iff_eq] at h
    rw [h.1, ihx h.2.1, ihy h.2.2]
  | a4 f x y z t ihx ihy ihz iht =>
    intro y h
    cases y <;> simp only [IT.beq, Bool.false_eq_true, Bool.and_eq_true, beq_iff_eq] at h
    rw [h.1, ihx h.2.1, ihy h.2.2.1, ihz h.2.2.2.1, iht h.2.2.2.2]
/-- Texts. -/
inductive ST where
  | lit (l : List UInt8)
  | var (i : Nat)
  | fmt (z : IT)
  | cat (x y : ST)
def ST.den (E : Env) : ST → List UInt8
  | .lit l => l
  | .var i => E.s i
  | .fmt z => Lib.itoa (z.den E)
  | .cat x y => x.den E ++ y.den E
def ST.beq : ST → ST → Bool
  | .lit l, .lit m => l == m
  | .var i, .var j => i == j
  | .fmt z, .fmt y => z.beq y
  | .cat x y, .cat z t => x.beq z && y.beq t
  | _, _ => false
theorem ST.eq_of_beq : ∀ {x y : ST}, x.beq y = true → x = y := by
  intro x
  induction x with
  | lit l => intro y h; cases y <;> simp_all [ST.beq]
  | var i => intro y h; cases y <;> simp_all [ST.beq]
  | fmt z => intro y h; cases y <;> simp only [ST.beq, Bool.false_eq_true] at h; rw [IT.eq_of_beq h]
  | cat x y ihx ihy =>
    intro z h
    cases z <;> simp only [ST.beq, Bool.false_eq_true, Bool.and_eq_true] at h
    rw [ihx h.1, ihy h.2]
/-- Tests. -/
inductive BT where
  | seq (x y : ST)
  | lit (b : Bool)
  | var (i : Nat)
  | eq (x y : IT)
  | lt (x y : IT)
  | le (x y : IT)
  | ok (i : Nat)
  | and (x y : BT)
  | not (x : BT)
def BT.den (E : Env) : BT → Bool
  | .seq x y => x.den E == y.den E
  | .lit b => b
  | .var i => E.b i
  | .eq x y => x.den E == y.den E
  | .lt x y => decide (x.den E < y.den E)
  | .le x y => decide (x.den E ≤ y.den E)
  | .ok i => okB (E.r i).1 (E.r i).2
  | .and x y => x.den E && y.den E
  | .not x => !(x.den E)
def BT.beq : BT → BT → Bool
  | .seq x y, .seq z t => x.beq z && y.beq t
  | .lit a, .lit b => a == b
  | .var i, .var j => i == j
  | .eq x y, .eq z t => x.beq z && y.beq t
  | .lt x y, .lt z t => x.beq z && y.beq t
  | .le x y, .le z t => x.beq z && y.beq t
  | .ok i, .ok j => i == j
  | .and x y, .and z t => x.beq z && y.beq t
  | .not x, .not y => x.beq y
  | _, _ => false
theorem BT.den_of_beq (E : Env) : ∀ {x y : BT}, x.beq y = true → x.den E = y.den E := by
  intro x
  induction x with
  | seq a b =>
    intro y h
    cases y <;> simp only [BT.beq, Bool.false_eq_true, Bool.and_eq_true] at h
    rw [BT.den, BT.den, ST.eq_of_beq h.1, ST.eq_of_beq h.2]
  | not x ih =>
    intro y h
    cases y <;> simp only [BT.beq, Bool.false_eq_true] at h
    simp only [BT.den, ih h]
  | lit a => intro y h; cases y <;> simp_all [BT.beq, BT.den]
  | and a b iha ihb =>
    intro y h
    cases y <;> simp only [BT.beq, Bool.false_eq_true, Bool.and_eq_true] at h
    simp only [BT.den, iha h.1, ihb h.2]
  | var a => intro y h; cases y <;> simp_all [BT.beq, BT.den]
  | ok a => intro y h; cases y <;> simp_all [BT.beq, BT.den]
  | eq a b =>
    intro y h
    cases y <;> simp only [BT.beq, Bool.false_eq_true, Bool.and_eq_true] at h
    rw [BT.den, BT.den, IT.eq_of_beq h.1, IT.eq_of_beq h.2]
  | lt a b =>
    intro y h
    cases y <;> simp only [BT.beq, Bool.false_eq_true, Bool.and_eq_true] at h
    rw [BT.den, BT.den, IT.eq_of_beq h.1, IT.eq_of_beq h.2]
  | le a b =>
    intro y h
    cases y <;> simp only [BT.beq, Bool.false_eq_true, Bool.and_eq_true] at h
    rw [BT.den, BT.den, IT.eq_of_beq h.1, IT.eq_of_beq h.2]
/-- What has been assumed of tests. -/
abbrev Asm := List (BT × Bool)
def Asm.holds (E : Env) (G : Asm) : Prop := ∀ p ∈ G, p.1.den E = p.2
def Asm.find : Asm → BT → Option Bool
  | [], _ => none
  | p :: G, t => if p.1.beq t then some p.2 else Asm.find G t
theorem Asm.find_spec {E : Env} : ∀ {G : Asm} {t : BT} {b : Bool}, G.holds E → G.find t = some b → t.den E = b
  | [], _, _, _, h => by simp [Asm.find] at h
  | p :: G, t, b, hG, h => by
    unfold Asm.find at h
    split at h
    · rename_i hb
      injection h with h
      rw [← BT.den_of_beq E hb, hG p (by simp), h]
    · exact Asm.find_spec (fun q hq => hG q (by simp [hq])) h
def andE : Option Bool → Option Bool → Option Bool → Option Bool
  | some false, _, _ => some false
  | some true, some b, _ => some b
  | none, some false, _ => some false
  | _, _, d => d
theorem andE_spec {p q b : Bool} {x y d : Option Bool} (hx : ∀ c, x = some c → p = c) (hy : ∀ c, y = some c → q = c) (hd : d = some b → (p && q) = b) (h : andE x y d = some b) : (p && q) = b := by
  unfold andE at h
  split at h
  · injection h with h; rw [hx _ rfl, ← h]; rfl
  · injection h with h; rw [hx _ rfl, hy _ rfl, ← h]; rfl
  · injection h with h; rw [hy _ rfl, ← h, Bool.and_false]
  · exact hd h
/-- What a term without variables comes to. -/
def IT.cl : IT → Option Int
  | .lit z => some z
  | .a1 f x => match x.cl with
    | some a => some (fn1 f a)
    | none => none
  | .a2 f x y => match x.cl, y.cl with
    | some a, some b => some (fn2 f a b)
    | _, _ => none
  | .a4 f x y z t => match x.cl, y.cl, z.cl, t.cl with
    | some a, some b, some c, some d => some (fn4 f a b c d)
    | _, _, _, _ => none
  | _ => none
theorem IT.cl_spec {E : Env} : ∀ {x : IT} {z : Int}, x.cl = some z → x.den E = z := by
  intro x
  induction x with
  | lit z => intro y h; unfold IT.cl at h; injection h
  | a1 f x ih =>
    intro z h
    unfold IT.cl at h
    split at h
    · rename_i a ha
      injection h with h
      rw [← h, ← ih ha]; rfl
    · cases h
  | a2 f x y ihx ihy =>
    intro z h
    unfold IT.cl at h
    split at h
    · rename_i a b ha hb
      injection h with h
      rw [← h, ← ihx ha, ← ihy hb]; rfl
    · cases h
  | a4 f x y z t ihx ihy ihz iht =>
    intro u h
    unfold IT.cl at h
    split at h
    · rename_i a b c d ha hb hc hd
      injection h with h
      rw [← h, ← ihx ha, ← ihy hb, ← ihz hc, ← iht hd]; rfl
    · cases h
  | _ => intro z h; cases h
/-- What a text without variables comes to. -/
def ST.cl : ST → Option (List UInt8)
  | .lit l => some l
  | .fmt z => match z.cl with
    | some n => some (Lib.itoa n)
    | none => none
  | .cat x y => match x.cl, y.cl with
    | some a, some b => some (a ++ b)
    | _, _ => none
  | .var _ => none
theorem ST.cl_spec {E : Env} : ∀ {x : ST} {l : List UInt8}, x.cl = some l → x.den E = l := by
  intro x
  induction x with
  | lit l => intro y h; unfold ST.cl at h; injection h
  | var i => intro y h; cases h
  | fmt z =>
    intro y h
    unfold ST.cl at h
    split at h
    · rename_i n hn
      injection h with h
      rw [← h, ← IT.cl_spec hn]; rfl
    · cases h
  | cat x y ihx ihy =>
    intro z h
    unfold ST.cl at h
    split at h
    · rename_i a b ha hb
      injection h with h
      rw [← h, ← ihx ha, ← ihy hb]; rfl
    · cases h
/-- A test as far as it can be reckoned. -/
def BT.ev (G : Asm) : BT → Option Bool
  | .lit b => some b
  | .not x => (x.ev G).map (!·)
  | .eq x y => match x.cl, y.cl with
    | some a, some b => some (a == b)
    | _, _ => if x.beq y then some true else G.find (.eq x y)
  | .lt x y => match x.cl, y.cl with
    | some a, some b => some (decide (a < b))
    | _, _ => G.find (.lt x y)
  | .le x y => match x.cl, y.cl with
    | some a, some b => some (decide (a ≤ b))
    | _, _ => G.find (.le x y)
  | .and x y => andE (x.ev G) (y.ev G) (G.find (.and x y))
  | .seq x y => match x.cl, y.cl with
    | some a, some b => some (a == b)
    | _, _ => if x.beq y then some true else G.find (.seq x y)
  | t => G.find t
theorem BT.ev_spec {E : Env} {G : Asm} (hG : G.holds E) : ∀ {t : BT} {b : Bool}, t.ev G = some b → t.den E = b := by
  intro t
  induction t with
  | not x ih =>
    intro b h
    unfold BT.ev at h
    obtain ⟨c, hc, rfl⟩ := Option.map_eq_some_iff.1 h
    rw [BT.den, ih hc]
  | lit a => intro b h; unfold BT.ev at h; injection h
  | and x y ihx ihy =>
    intro b h
    unfold BT.ev at h
    exact andE_spec (fun c hc => ihx hc) (fun c hc => ihy hc) (fun hd => Asm.find_spec (t := .and x y) hG hd) h
  | var i => intro b h; unfold BT.ev at h; exact Asm.find_spec hG h
  | ok i => intro b h; unfold BT.ev at h; exact Asm.find_spec hG h
  | seq x y =>
    intro b h
    unfold BT.ev at h
    split at h
    · rename_i c d hc hd
      injection h with h
      rw [← h, BT.den, ST.cl_spec hc, ST.cl_spec hd]
    · split at h
      · rename_i hb
        injection h with h
        rw [BT.den, ST.eq_of_beq hb, ← h]
        simp
      · exact Asm.find_spec hG h
  | eq x y =>
    intro b h
    unfold BT.ev at h
    split at h
    · rename_i c d hc hd
      injection h with h
      rw [← h, BT.den, IT.cl_spec hc, IT.cl_spec hd]
    · split at h
      · rename_i hb
        injection h with h
        rw [BT.den, IT.eq_of_beq hb, ← h]
        simp
      · exact Asm.find_spec hG h
  | lt x y =>
    intro b h
    unfold BT.ev at h
    split at h
    · rename_i c d hc hd
      injection h with h
      rw [← h, BT.den, IT.cl_spec hc, IT.cl_spec hd]
    · exact Asm.find_spec hG h
  | le x y =>
    intro b h
    unfold BT.ev at h
    split at h
    · rename_i c d hc hd
      injection h with h
      rw [← h, BT.den, IT.cl_spec hc, IT.cl_spec hd]
    · exact Asm.find_spec hG h
/-- A test, reckoned where it can be. -/
def BT.norm (G : Asm) (t : BT) : BT := match t.ev G with | some b => .lit b | none => t
theorem BT.norm_den {E : Env} {G : Asm} (hG : G.holds E) (t : BT) : (t.norm G).den E = t.den E := by
  unfold BT.norm
  split
  · rename_i b h; rw [BT.ev_spec hG h]; rfl
  · rfl

/-- What is known of one or two cells. -/
inductive Chunk where
  | b (t : BT)
  | n (k : IntKind) (t : IT)
  | int (t : IT) (lim : Nat)
  | raw (i : Nat)
  | mag (t : IT) (lim : Nat)
  | rmag (i : Nat)
  | fn (f : Nat)
  | nilSlice
  | str (t : ST) (lim : Nat)
def Chunk.size : Chunk → Nat
  | .int _ _ => 2
  | .raw _ => 2
  | _ => 1
def Chunk.holds (E : Env) (w : World) : Chunk → List Value → Prop
  | .b t, vs => vs = [.bool (t.den E)]
  | .n k t, vs => vs = [.int k (t.den E)]
  | .int t l, vs => ∃ x y, vs = [x, y] ∧ IsInt w (.agg #[x, y]) (t.den E) ∧ Lim l (t.den E)
  | .raw i, vs => ∃ x y, vs = [x, y] ∧ Raw w (.agg #[x, y]) (E.r i).1 (E.r i).2
  | .mag t l, vs => ∃ x, vs = [x] ∧ IsLimbs (t.den E).natAbs x w ∧ Lim l (t.den E)
  | .rmag i, vs => ∃ x, vs = [x] ∧ ∃ ao c, x = .slice ao (E.r i).2.length c ∧ (E.r i).2.length ≤ c ∧ c ≤ 9223372036854775807 ∧ Cells w ao (E.r i).2
  | .fn f, vs => vs = [.func (.func f) #[] #[]]
  | .nilSlice, vs => vs = [.slice none 0 0]
  | .str t l, vs => vs = [.string ⟨(t.den E).toArray⟩] ∧ (t.den E).length ≤ l
/-- Numbers in memory stay; nothing below B turns. -/
structure Kp (B : Nat) (w w' : World) : Prop where
  below : Below B w w'
  u32 : ∀ p x, w.cell? p = some (.int .u32 x) → w'.cell? p = some (.int .u32 x)
theorem Kp.refl (B : Nat) (w : World) : Kp B w w := ⟨Below.refl _ _, fun _ _ h => h⟩
theorem Kp.trans {B : Nat} {a b c : World} (h : Kp B a b) (k : Kp B b c) : Kp B a c := ⟨h.below.trans k.below, fun p x hp => k.u32 p x (h.u32 p x hp)⟩
theorem Kp.of {B : Nat} {w w' : World} (e : Ext w w') (h : B ≤ w.heap.size) : Kp B w w' := ⟨Below.mono e h, fun _ _ hc => e.cell hc⟩
theorem Kp.cells {B : Nat} {w w' : World} (k : Kp B w w') {ao : Option Addr} {xs : List Nat} (h : Cells w ao xs) : Cells w' ao xs := by
  rcases h with h | ⟨b, off, rfl, h⟩
  · exact .inl h
  · exact .inr ⟨b, off, rfl, fun i hi => k.u32 _ _ (h i hi)⟩
theorem Chunk.keep {E : Env} {B : Nat} {w w' : World} (k : Kp B w w') : ∀ {c : Chunk} {vs : List Value}, c.holds E w vs → c.holds E w' vs
  | .b _, _, h => h
  | .n _ _, _, h => h
  | .int _ _, _, ⟨x, y, hv, ⟨ao, cap, h1, h2, h3, h4⟩, hl⟩ => ⟨x, y, hv, ⟨ao, cap, h1, h2, h3, k.cells h4⟩, hl⟩
  | .raw _, _, ⟨x, y, hv, ⟨ao, cap, h1, h2, h3, h4⟩⟩ => ⟨x, y, hv, ⟨ao, cap, h1, h2, h3, k.cells h4⟩⟩
  | .mag _ _, _, ⟨x, hv, ⟨ao, cap, h1, h2, h3, h4⟩, hl⟩ => ⟨x, hv, ⟨ao, cap, h1, h2, h3, k.cells h4⟩, hl⟩
  | .rmag _, _, ⟨x, hv, ao, c, h1, h2, h3, h4⟩ => ⟨x, hv, ao, c, h1, h2, h3, k.cells h4⟩
  | .fn _, _, h => h
  | .nilSlice, _, h => h
  | .str _ _, _, h => h
/-- Cells, chunk after chunk. -/
def chunks (E : Env) (w : World) : List Chunk → List Value → Prop
  | [], vs => vs = []
  | c :: cs, vs => ∃ l r, vs = l ++ r ∧ c.holds E w l ∧ chunks E w cs r
theorem Chunk.len {E : Env} {w : World} {c : Chunk} {vs : List Value} (h : c.holds E w vs) : vs.length = c.size := by
  cases c with
  | b _ => simp only [Chunk.holds] at h; subst h; rfl
  | n _ _ => simp only [Chunk.holds] at h; subst h; rfl
  | int _ _ => obtain ⟨x, y, rfl, _⟩ := h; rfl
  | raw _ => obtain ⟨x, y, rfl, _⟩ := h; rfl
  | mag _ _ => obtain ⟨x, rfl, _⟩ := h; rfl
  | rmag _ => obtain ⟨x, rfl, _⟩ := h; rfl
  | fn _ => simp only [Chunk.holds] at h; subst h; rfl
  | nilSlice => simp only [Chunk.holds] at h; subst h; rfl
  | str _ _ => obtain ⟨rfl, _⟩ := h; rfl
def sizes : List Chunk → Nat
  | [] => 0
  | c :: cs => c.size + sizes cs
theorem chunks_len {E : Env} {w : World} : ∀ {cs : List Chunk} {vs : List Value}, chunks E w cs vs → vs.length = sizes cs
  | [], _, h => by simp only [chunks] at h; subst h; rfl
  | c :: cs, _, ⟨l, r, hv, hc, hr⟩ => by subst hv; rw [List.length_append, c.len hc, chunks_len hr]; rfl
theorem chunks_keep {E : Env} {B : Nat} {w w' : World} (k : Kp B w w') : ∀ {cs : List Chunk} {vs : List Value}, chunks E w cs vs → chunks E w' cs vs
  | [], _, h => h
  | _ :: _, _, ⟨l, r, hv, hc, hr⟩ => ⟨l, r, hv, Chunk.keep k hc, chunks_keep k hr⟩
theorem chunks_append {E : Env} {w : World} : ∀ {cs ds : List Chunk} {vs us : List Value}, chunks E w cs vs → chunks E w ds us → chunks E w (cs ++ ds) (vs ++ us)
  | [], _, _, _, h, k => by simp only [chunks] at h; subst h; exact k
  | c :: cs, ds, _, us, ⟨l, r, hv, hc, hr⟩, k => by subst hv; exact ⟨l, r ++ us, by rw [List.append_assoc], hc, chunks_append hr k⟩
/-- The chunks before an offset, and those behind it. -/
def splitC : List Chunk → Nat → Option (List Chunk × List Chunk)
  | cs, 0 => some ([], cs)
  | [], _ + 1 => none
  | c :: cs, n + 1 => if c.size ≤ n + 1 then (splitC cs (n + 1 - c.size)).map fun p => (c :: p.1, p.2) else none
theorem splitC_spec {E : Env} {w : World} : ∀ (cs : List Chunk) (n : Nat) (l r : List Chunk) (vs : List Value), splitC cs n = some (l, r) → chunks E w cs vs →
    cs = l ++ r ∧ sizes l = n ∧ chunks E w l (vs.take n) ∧ chunks E w r (vs.drop n)
  | cs, 0, l, r, vs, h, k => by
    unfold splitC at h
    injection h with h
    injection h with h1 h2
    subst h1 h2
    exact ⟨rfl, rfl, by simp [chunks], by simpa using k⟩
  | [], n + 1, l, r, vs, h, k => by simp [splitC] at h
  | c :: cs, n + 1, l, r, vs, h, k => by
    unfold splitC at h
    split at h
    · rename_i hle
      obtain ⟨p, hp, he⟩ := Option.map_eq_some_iff.1 h
      obtain ⟨p1, p2⟩ := p
      injection he with h1 h2
      subst h1 h2
      obtain ⟨a, b, rfl, ha, hb⟩ := k
      obtain ⟨k1, k2, k3, k4⟩ := splitC_spec cs (n + 1 - c.size) p1 p2 b hp hb
      have hl := c.len ha
      refine ⟨by rw [k1]; rfl, by simp only [sizes, k2]; omega, ⟨a, b.take (n + 1 - c.size), ?_, ha, k3⟩, ?_⟩
      · rw [List.take_append, hl, List.take_of_length_le (by omega)]
      · rw [List.drop_append, hl, List.drop_of_length_le (by omega), List.nil_append]; exact k4
    · cases h

end Go.Proofs.Ytdleiiboffkidaa
end

/- ---- Sxb ---- -/
section
/-
  A walker that goes by reckoning: states, and what one operation does.
-/
set_option maxRecDepth 100000
namespace Go.Proofs.Ytdleiiboffkidaa
open Go.RowKit

/-- What is known of a slot. -/
inductive AV where
  | val (ag : Bool) (cs : List Chunk)
  | ptr (x off : Nat)
  | tup (l : List (Bool × List Chunk))
  | bad
def one (E : Env) (w : World) (p : Bool × List Chunk) (v : Value) : Prop :=
  match p.1 with
  | true => ∃ vs : List Value, v = .agg vs.toArray ∧ chunks E w p.2 vs
  | false => chunks E w p.2 [v] ∧ v.cells = #[v]
def tupAll (E : Env) (w : World) : List (Bool × List Chunk) → List Value → Prop
  | [], vs => vs = []
  | p :: l, vs => ∃ v r, vs = v :: r ∧ one E w p v ∧ tupAll E w l r
/-- Where offsets begin that stand for rows: offset and length at once. -/
def big : Nat := 1000000000000
/-- Where variables begin that are only read. -/
def ro : Nat := 1000000
def pv (b off : Nat) : Value := if off < big then .pointer (some ⟨b, off, none⟩) else .slice (some ⟨b, 0, none⟩) (off - big) (off - big)
def AV.holds (E : Env) (β : Nat → Nat) (w : World) : AV → Value → Prop
  | .val ag cs, v => one E w (ag, cs) v
  | .ptr x off, v => v = pv (β x) off
  | .tup l, v => ∃ vs : List Value, v = .tuple vs.toArray ∧ tupAll E w l vs
  | .bad, v => v = Go.undef
section
variable {E : Env} {β : Nat → Nat} {B : Nat} {w w' : World}
theorem one_keep (k : Kp B w w') {p : Bool × List Chunk} {v : Value} (h : one E w p v) : one E w' p v := by
  obtain ⟨ag, cs⟩ := p
  cases ag
  · exact ⟨chunks_keep k h.1, h.2⟩
  · obtain ⟨vs, hv, hc⟩ := h
    exact ⟨vs, hv, chunks_keep k hc⟩
theorem tupAll_keep (k : Kp B w w') : ∀ {l : List (Bool × List Chunk)} {vs : List Value}, tupAll E w l vs → tupAll E w' l vs
  | [], _, h => h
  | _ :: _, _, ⟨v, r, hv, ho, hr⟩ => ⟨v, r, hv, one_keep k ho, tupAll_keep k hr⟩
theorem AV.keep (k : Kp B w w') : ∀ {x : AV} {v : Value}, x.holds E β w v → x.holds E β w' v
  | .val _ _, _, h => one_keep k h
  | .ptr _ _, _, h => h
  | .tup _, _, ⟨vs, hv, h⟩ => ⟨vs, hv, tupAll_keep k h⟩
  | .bad, _, h => h
theorem one_cells {p : Bool × List Chunk} {v : Value} (h : one E w p v) : chunks E w p.2 v.cells.toList := by
  obtain ⟨ag, cs⟩ := p
  cases ag
  · rw [h.2]; exact h.1
  · obtain ⟨vs, hv, hc⟩ := h
    subst hv
    exact hc
/-- A variable's block. -/
def VarAt (E : Env) (w : World) (b : Nat) (cs : List Chunk) : Prop :=
  ∃ vs : List Value, chunks E w cs vs ∧ ∀ i v, vs[i]? = some v → w.cell? ⟨b, i, none⟩ = some v ∧ w.frozen? ⟨b, i, none⟩ = false
theorem VarAt.ext {b : Nat} {cs : List Chunk} (h : VarAt E w b cs) (e : Ext w w') : VarAt E w' b cs := by
  obtain ⟨vs, h1, h2⟩ := h
  refine ⟨vs, chunks_keep (Kp.of e (Nat.le_refl _)) h1, fun i v hv => ?_⟩
  obtain ⟨k1, k2⟩ := h2 i v hv
  exact ⟨e.cell k1, e.frozen (p := ⟨b, i, none⟩) (lt_of_cell k1) k2⟩
end

/-- The types that a walk meets, and what calls leave. -/
structure Cfg where
  zero : TypeId → Option (List Chunk)
  ag : TypeId → Option (Bool × Nat)
  fld : TypeId → Nat → Option Nat
  flds : TypeId → Option (List (Nat × Nat))
  bool : TypeId → Bool
  slc : TypeId → Bool
  strT : TypeId → Bool
  cnv : TypeId → TypeId → Option IntKind := fun _ _ => none
  row : TypeId → Option TypeId
  arr : TypeId → Option (Nat × TypeId)
  calls : Nat → List AV → List (Option (List Chunk)) → Asm → Option AV
  need : Nat → List AV → List (Option (List Chunk)) → Asm → Option BT := fun _ _ _ _ => none
  wok : World → Prop
  eq2 : TypeId → Bool := fun _ => false
structure CfgOK (P : Program) (E : Env) (C : Cfg) : Prop where
  zero : ∀ t cs, C.zero t = some cs → ∀ w, ∃ z, (zeroValue t).run P w = .ok z w ∧ chunks E w cs z.cells.toList
  ag : ∀ t b n, C.ag t = some (b, n) → ∀ w, (isAgg t).run P w = .ok b w ∧ (sizeOf t).run P w = .ok n w ∧ (b = false → n = 1)
  fld : ∀ t k off, C.fld t k = some off → ∀ w a, (Instr.fieldAt t (.pointer (some a)) k).run P w = .ok (.pointer (some (a.add off))) w
  flds : ∀ t l, C.flds t = some l → ∃ fields, P.underlying t = some (.struct fields) ∧ ∀ w, (fields.mapM fun f => do pure (f.offset, ← sizeOf f.type) : Sem (Array (Nat × Nat))).run P w = .ok l.toArray w
  bool : ∀ t, C.bool t = true → P.underlying t = some .bool
  row : ∀ t e, C.row t = some e → P.underlying t = some (.slice e)
  arr : ∀ t n e, C.arr t = some (n, e) → P.underlying t = some (.array n e)
  calls : ∀ f args M G r, C.calls f args M G = some r → G.holds E → ∀ (β : Nat → Nat) (w : World) (vs : List Value), C.wok w → (∀ (i : Nat) (x : AV), args[i]? = some x → ∃ v, vs[i]? = some v ∧ x.holds E β w v) → vs.length = args.length →
    (∀ (i x off : Nat) (cs : List Chunk), args[i]? = some (.ptr x off) → M[i]? = some (some cs) → VarAt E w (β x) cs) →
    Calls P f vs.toArray w (fun e w' => ∃ v, e = .returned v ∧ r.holds E β w' v ∧ Ext w w')
  nptr : ∀ f args M G r, C.calls f args M G = some r → ∀ x off, r ≠ .ptr x off
  body : ∀ f args M G r, C.calls f args M G = some r → ∃ fn, P.funcs[f]? = some fn ∧ fn.name ≠ "runtime.NumGoroutine" ∧ fn.body.isNone = false
  slc : ∀ t, C.slc t = true → ∃ e, P.underlying t = some (.slice e)
  strT : ∀ t, C.strT t = true → P.underlying t = some .string
  cnv : ∀ s d k, C.cnv s d = some k → (∃ u, P.underlying s = some u) ∧ P.underlying d = some (.int k)
  apd : ∀ t, C.slc t = true → ∀ (ty : TypeId) (w : World) (n : Nat) (x : Value), (limbs n).length ≤ 1099511627776 → IsLimbs n x w → ∃ y w', (Builtin.append_ #[t, t] ty #[.slice none 0 0, x]).run P w = .ok y w' ∧ IsLimbs n y w' ∧ Ext w w'
  eq2 : ∀ t, C.eq2 t = true → ∀ (w : World) (x y : Operand) (a b c d : Int), (do eqGuard .eql t x y (.agg #[.int .i64 a, .int .i64 b]) (.agg #[.int .i64 c, .int .i64 d]); binOp .eql t (.agg #[.int .i64 a, .int .i64 b]) (.agg #[.int .i64 c, .int .i64 d]) : Sem Value).run P w = .ok (.bool (a == c && b == d)) w

/-- A configuration where a call begins: what it asks of the world stands in all that follow. -/
structure CfgAt (P : Program) (E : Env) (C : Cfg) (B : Nat) (w0 : World) : Prop where
  ok : CfgOK P E C
  wk : ∀ w', Below B w0 w' → C.wok w'

/-- What an operation leaves. -/
inductive Eff where
  | set (x : AV)
  | new (t : TypeId) (cs : List Chunk) (off : Nat)
  | put (x : Nat) (cs : List Chunk)
def avOf : Value → Option AV
  | .bool b => some (.val false [.b (.lit b)])
  | .int k n => some (.val false [.n k (.lit n)])
  | .func (.func f) a c => if a.isEmpty && c.isEmpty then some (.val false [.fn f]) else none
  | .slice none 0 0 => some (.val false [.nilSlice])
  | .string s => some (.val false [.str (.lit s.data.toList) s.data.toList.length])
  | _ => none
theorem avOf_spec {E : Env} {β : Nat → Nat} {w : World} {v : Value} {x : AV} (h : avOf v = some x) : x.holds E β w v := by
  unfold avOf at h
  split at h
  · injection h with h; subst h; exact ⟨⟨_, [], rfl, rfl, rfl⟩, rfl⟩
  · injection h with h; subst h; exact ⟨⟨_, [], rfl, rfl, rfl⟩, rfl⟩
  · rename_i f a c
    split at h
    · rename_i hc
      rw [Bool.and_eq_true] at hc
      have h1 := Array.isEmpty_iff.1 hc.1
      have h2 := Array.isEmpty_iff.1 hc.2
      subst h1 h2
      injection h with h; subst h; exact ⟨⟨_, [], rfl, rfl, rfl⟩, rfl⟩
    · cases h
  · injection h with h; subst h; exact ⟨⟨_, [], rfl, rfl, rfl⟩, rfl⟩
  · injection h with h; subst h; exact ⟨⟨_, [], rfl, ⟨rfl, Nat.le_refl _⟩, rfl⟩, rfl⟩
  · cases h
def opnd (look : Nat → Option AV) : Operand → Option AV
  | .tmp t => look t
  | .const v => avOf v
  | .func f => some (.val false [.fn f])
  | _ => none
theorem opnd_spec {E : Env} {β : Nat → Nat} {w : World} {a : Act} {look : Nat → Option AV} (hl : ∀ t x, look t = some x → x.holds E β w (a.tmps.getD t undef)) {o : Operand} {x : AV} (h : opnd look o = some x) : x.holds E β w (a.eval o) := by
  cases o with
  | tmp t => exact hl t x h
  | const v => exact avOf_spec h
  | global g => cases h
  | func f => injection h with h; subst h; exact ⟨⟨_, [], rfl, rfl, rfl⟩, rfl⟩
/-- The cells of a part: a chunk's, or one cell of a number. -/
def part1 (r : List Chunk) (b : Bool) (n : Nat) : Option AV :=
  match splitC r n with
  | some (l, _) => some (.val b l)
  | none => match r, b, n with
    | .int t _ :: _, false, 1 => some (.val false [.b (.lt t (.lit 0))])
    | _, _, _ => none
def loadE (C : Cfg) (cs : List Chunk) (off : Nat) (t : TypeId) : Option AV :=
  match C.ag t with
  | some (b, n) =>
    match splitC cs off with
    | some (_, r) => part1 r b n
    | none => match b, off with
      | false, o + 1 => match splitC cs o with
        | some (_, .int t l :: _) => some (.val false [.mag t l])
        | some (_, .raw i :: _) => some (.val false [.rmag i])
        | _ => none
      | _, _ => none
  | none => none
def noU32 : List Chunk → Bool
  | [] => true
  | .n .u32 _ :: _ => false
  | _ :: cs => noU32 cs

end Go.Proofs.Ytdleiiboffkidaa
end

/- ---- Sxc ---- -/
section
/-
  A walker that goes by reckoning: loads, stores and the other operations, run in the model.
-/
set_option maxRecDepth 100000
namespace Go.Proofs.Ytdleiiboffkidaa
open Go.RowKit

section
variable {P : Program} {E : Env} {β : Nat → Nat} {B : Nat} {w w' : World}
theorem Chunk.cellish {c : Chunk} {vs : List Value} (h : c.holds E w vs) : ∀ v ∈ vs, v.oneCell' = true := by
  cases c with
  | b _ => simp only [Chunk.holds] at h; subst h; simp [Value.oneCell']
  | n _ _ => simp only [Chunk.holds] at h; subst h; simp [Value.oneCell']
  | int _ _ =>
    obtain ⟨x, y, rfl, ⟨ao, cap, hv, _⟩, _⟩ := h
    injection hv with hv
    have h0 := congrArg (fun a => a[0]?) hv
    have h1 := congrArg (fun a => a[1]?) hv
    simp at h0 h1
    subst h0 h1
    simp [Value.oneCell']
  | raw _ =>
    obtain ⟨x, y, rfl, ⟨ao, cap, hv, _⟩⟩ := h
    injection hv with hv
    have h0 := congrArg (fun a => a[0]?) hv
    have h1 := congrArg (fun a => a[1]?) hv
    simp at h0 h1
    subst h0 h1
    simp [Value.oneCell']
  | mag _ _ => obtain ⟨x, rfl, ⟨ao, cap, rfl, _⟩, _⟩ := h; simp [Value.oneCell']
  | rmag _ => obtain ⟨x, rfl, ao, c, rfl, _⟩ := h; simp [Value.oneCell']
  | fn _ => simp only [Chunk.holds] at h; subst h; simp [Value.oneCell']
  | nilSlice => simp only [Chunk.holds] at h; subst h; simp [Value.oneCell']
  | str _ _ => obtain ⟨rfl, _⟩ := h; simp [Value.oneCell']
theorem chunks_cellish : ∀ {cs : List Chunk} {vs : List Value}, chunks E w cs vs → ∀ v ∈ vs, v.oneCell' = true
  | [], _, h, v, hv => by simp only [chunks] at h; subst h; simp at hv
  | c :: cs, _, ⟨l, r, he, hc, hr⟩, v, hv => by
    subst he
    rcases List.mem_append.1 hv with h | h
    · exact Chunk.cellish hc v h
    · exact chunks_cellish hr v h
theorem cells_of_cellish {v : Value} (h : v.oneCell' = true) : v.cells = #[v] := by
  cases v <;> simp_all [Value.cells, Value.oneCell']

theorem add_addr (b off d : Nat) : (⟨b, off, none⟩ : Addr).add d = ⟨b, off + d, none⟩ := by unfold Addr.add; split <;> simp_all
theorem run_loadCells {b off : Nat} : ∀ (vs : List Value) (i : Nat) (acc : Array Value), (∀ j v, vs[j]? = some v → w.cell? ⟨b, off + i + j, none⟩ = some v) →
    (loadCellsFrom ⟨b, off, none⟩ i vs.length acc).run P w = .ok (acc ++ vs.toArray) w
  | [], i, acc, _ => by simp [loadCellsFrom]
  | v :: vs, i, acc, h => by
    have h0 := h 0 v rfl
    rw [Nat.add_zero] at h0
    have ih := run_loadCells vs (i + 1) (acc.push v) (fun j u hj => by
      have := h (j + 1) u (by simpa using hj)
      rwa [show off + (i + 1) + j = off + i + (j + 1) by omega])
    rw [List.length_cons]
    unfold loadCellsFrom
    simp only [Sem.run_bind, run_load, add_addr, h0, Result.andThen_ok]
    rw [ih]
    simp
theorem run_loadVar {b off : Nat} {t : TypeId} {bb : Bool} {n : Nat} (ha : (isAgg t).run P w = .ok bb w) (hs : (sizeOf t).run P w = .ok n w) (vs : List Value) (hl : vs.length = n) (h1 : bb = false → ∃ x, vs = [x])
    (h : ∀ j v, vs[j]? = some v → w.cell? ⟨b, off + j, none⟩ = some v) :
    ∃ v, (Instr.loadAt t (.pointer (some ⟨b, off, none⟩))).run P w = .ok v w ∧ (bb = true → v = .agg vs.toArray) ∧ (bb = false → vs = [v]) := by
  subst hl
  cases bb
  · obtain ⟨x, rfl⟩ := h1 rfl
    refine ⟨x, ?_, by simp, by simp⟩
    have := h 0 x rfl
    rw [Nat.add_zero] at this
    simp [Instr.loadAt, Instr.sureAddr, loadVar, ha, this]
  · refine ⟨.agg vs.toArray, ?_, by simp, by simp⟩
    have := run_loadCells (P := P) (b := b) (off := off) (w := w) vs 0 #[] (fun j v hj => by rw [Nat.add_zero]; exact h j v hj)
    simp [Instr.loadAt, Instr.sureAddr, loadVar, ha, hs, loadCells, this]
theorem isInt_pair {x y : Value} {z : Int} (h : IsInt w (.agg #[x, y]) z) : x = .bool (decide (z < 0)) ∧ IsLimbs z.natAbs y w := by
  obtain ⟨ao, cap, hv, h1, h2, h3⟩ := h
  injection hv with hv
  have h0 := congrArg (fun a => a[0]?) hv
  have h1' := congrArg (fun a => a[1]?) hv
  simp at h0 h1'
  exact ⟨h0, ao, cap, h1', h1, h2, h3⟩
theorem loadE_sound {C : Cfg} (hC : CfgOK P E C) {cs : List Chunk} {b off : Nat} {t : TypeId} {x : AV} (h : loadE C cs off t = some x) (hv : VarAt E w b cs) :
    ∃ v, (Instr.loadAt t (.pointer (some ⟨b, off, none⟩))).run P w = .ok v w ∧ x.holds E β w v := by
  obtain ⟨vs, hc, hcell⟩ := hv
  unfold loadE at h
  split at h
  · rename_i bb n hag
    obtain ⟨ha, hs, hn1⟩ := hC.ag t bb n hag w
    have key : ∀ (l : List Value) (lc : List Chunk), l.length = n → chunks E w lc l → (∀ j v, l[j]? = some v → w.cell? ⟨b, off + j, none⟩ = some v) →
        ∃ v, (Instr.loadAt t (.pointer (some ⟨b, off, none⟩))).run P w = .ok v w ∧ (AV.val bb lc).holds E β w v := by
      intro l lc hl hlc hj
      obtain ⟨v, k1, k2, k3⟩ := run_loadVar ha hs l hl (fun hb => by
        have := hn1 hb
        rw [this] at hl
        match l, hl with
        | [y], _ => exact ⟨y, rfl⟩) hj
      refine ⟨v, k1, ?_⟩
      cases bb
      · have e := k3 rfl
        subst e
        exact ⟨hlc, cells_of_cellish (chunks_cellish hlc v (by simp))⟩
      · exact ⟨l, k2 rfl, hlc⟩
    have one1 : ∀ (u : Value), bb = false → n = 1 → w.cell? ⟨b, off, none⟩ = some u → (Instr.loadAt t (.pointer (some ⟨b, off, none⟩))).run P w = .ok u w := by
      intro u hb hn hu
      obtain ⟨v, k1, _, k3⟩ := run_loadVar ha hs [u] hn.symm (fun _ => ⟨u, rfl⟩) (fun j v hj => by
        match j, hj with
        | 0, hj => injection hj with hj; subst hj; exact hu)
      have := k3 hb
      injection this with this
      rw [this]; exact k1
    split at h
    · rename_i l0 r hsp
      obtain ⟨_, _, _, hr⟩ := splitC_spec _ _ _ _ _ hsp hc
      have hjr : ∀ j v, (vs.drop off)[j]? = some v → w.cell? ⟨b, off + j, none⟩ = some v := fun j v hj => (hcell (off + j) v (by rw [← List.getElem?_drop]; exact hj)).1
      unfold part1 at h
      split at h
      · rename_i l1 r1 hsp2
        obtain ⟨_, hsz, hl, _⟩ := splitC_spec _ _ _ _ _ hsp2 hr
        injection h with h
        subst h
        refine key _ _ (by rw [chunks_len hl, hsz]) hl (fun j v hj => hjr j v ?_)
        rw [List.getElem?_take] at hj
        split at hj
        · exact hj
        · cases hj
      · split at h
        · rename_i t' lim r' _ 
          injection h with h
          subst h
          obtain ⟨a, r2, hvs, ⟨x, y, rfl, hI, _⟩, _⟩ := hr
          obtain ⟨hx, _⟩ := isInt_pair hI
          refine ⟨x, one1 x rfl rfl ?_, ?_⟩
          · have := hjr 0 x (by rw [hvs]; rfl)
            rwa [Nat.add_zero] at this
          · subst hx
            exact ⟨⟨_, [], rfl, rfl, rfl⟩, rfl⟩
        · cases h
    · split at h
      · rename_i o _
        split at h
        · rename_i l0 t' lim r' hsp
          obtain ⟨_, _, _, hr⟩ := splitC_spec _ _ _ _ _ hsp hc
          injection h with h
          subst h
          obtain ⟨a, r2, hvs, ⟨x, y, rfl, hI, hlim⟩, _⟩ := hr
          obtain ⟨_, hy⟩ := isInt_pair hI
          refine ⟨y, one1 y rfl (hn1 rfl) ?_, ?_⟩
          · exact (hcell (o + 1) y (by rw [← List.getElem?_drop, hvs]; rfl)).1
          · refine ⟨⟨[y], [], rfl, ⟨y, rfl, hy, hlim⟩, rfl⟩, ?_⟩
            obtain ⟨ao, cap, rfl, _⟩ := hy
            rfl
        · rename_i l0 i r' hsp
          obtain ⟨_, _, _, hr⟩ := splitC_spec _ _ _ _ _ hsp hc
          injection h with h
          subst h
          obtain ⟨a, r2, hvs, ⟨x, y, rfl, ao, cap, hv, j1, j2, j3⟩, _⟩ := hr
          injection hv with hv
          have hv1 := congrArg (fun a => a[1]?) hv
          simp at hv1
          refine ⟨y, one1 y rfl (hn1 rfl) ?_, ?_⟩
          · exact (hcell (o + 1) y (by rw [← List.getElem?_drop, hvs]; rfl)).1
          · exact ⟨⟨[y], [], rfl, ⟨y, rfl, ao, cap, hv1, j1, j2, j3⟩, rfl⟩, by rw [hv1]; rfl⟩
        · cases h
      · cases h
  · cases h

/-- Stores into a block, one cell after the other. -/
theorem below_setCells {b : Nat} : ∀ (vs : List Value) (o : Nat) (w : World), B ≤ b → Below B w (w.setCells b o vs)
  | [], _, _, _ => Below.refl _ _
  | v :: r, o, w, h => ((Below.refl B w).setCell (p := ⟨b, o, none⟩) h v).trans (below_setCells r (o + 1) _ h)
theorem size_setCells {b : Nat} : ∀ (vs : List Value) (o : Nat) (w : World), (w.setCells b o vs).heap.size = w.heap.size
  | [], _, _ => rfl
  | v :: r, o, w => by rw [World.setCells, size_setCells r]; simp [World.setCell]
theorem noU32_spec : ∀ {cs : List Chunk} {vs : List Value}, noU32 cs = true → chunks E w cs vs → ∀ x, Value.int .u32 x ∉ vs
  | [], _, _, h, x => by simp only [chunks] at h; subst h; simp
  | c :: cs, _, hn, ⟨l, r, he, hc, hr⟩, x => by
    subst he
    intro hx
    rcases List.mem_append.1 hx with h | h
    · cases c with
      | b _ => simp only [Chunk.holds] at hc; subst hc; simp at h
      | n k t =>
        simp only [Chunk.holds] at hc
        subst hc
        simp at h
        obtain ⟨rfl, _⟩ := h
        simp [noU32] at hn
      | int _ _ =>
        obtain ⟨x1, y1, rfl, hI, _⟩ := hc
        obtain ⟨rfl, ao, cap, rfl, _⟩ := isInt_pair hI
        simp at h
      | raw _ =>
        obtain ⟨x1, y1, rfl, ⟨ao, cap, hv, _⟩⟩ := hc
        injection hv with hv
        have h0 := congrArg (fun a => a[0]?) hv
        have h1 := congrArg (fun a => a[1]?) hv
        simp at h0 h1
        subst h0 h1
        simp at h
      | mag _ _ => obtain ⟨x1, rfl, ⟨ao, cap, rfl, _⟩, _⟩ := hc; simp at h
      | rmag _ => obtain ⟨x1, rfl, ao, cap, rfl, _⟩ := hc; simp at h
      | fn _ => simp only [Chunk.holds] at hc; subst hc; simp at h
      | nilSlice => simp only [Chunk.holds] at hc; subst hc; simp at h
      | str _ _ => obtain ⟨rfl, _⟩ := hc; simp at h
    · refine noU32_spec (cs := cs) ?_ hr x h
      unfold noU32 at hn
      split at hn
      · rename_i e; cases e
      · cases hn
      · rename_i e; injection e with _ e; subst e; exact hn
def storeE (C : Cfg) (cx : List Chunk) (off : Nat) (t : TypeId) (_b : Bool) (cs : List Chunk) : Option (List Chunk) :=
  match C.ag t with
  | some (_, n) =>
    match splitC cx off with
    | some (l, r) =>
      match splitC r n with
      | some (m, r') => if sizes cs == n && noU32 m then some (l ++ cs ++ r') else none
      | none => none
    | none => none
  | none => none
theorem storeE_sound {C : Cfg} (hC : CfgOK P E C) {cx cs c2 : List Chunk} {b off : Nat} {t : TypeId} {bb : Bool} {v : Value} (h : storeE C cx off t bb cs = some c2) (hv : VarAt E w b cx) (ho : one E w (bb, cs) v) (hB : B ≤ b) :
    ∃ w', (Instr.storeAt t (.pointer (some ⟨b, off, none⟩)) v).run P w = .ok () w' ∧ Kp B w w' ∧ (∀ p : Addr, p.block ≠ b → w'.cell? p = w.cell? p) ∧ (∀ p, w'.frozen? p = w.frozen? p) ∧ w'.heap.size = w.heap.size ∧ VarAt E w' b c2 := by
  obtain ⟨vs, hc, hcell⟩ := hv
  have hcs := one_cells ho
  unfold storeE at h
  split at h
  · rename_i b' n hag
    obtain ⟨ha, hs, hn1⟩ := hC.ag t b' n hag w
    split at h
    · rename_i l r hsp
      obtain ⟨e1, z1, hl, hr⟩ := splitC_spec _ _ _ _ _ hsp hc
      split at h
      · rename_i m r' hsp2
        obtain ⟨e2, z2, hm, hr'⟩ := splitC_spec _ _ _ _ _ hsp2 hr
        split at h
        · rename_i hcond
          rw [Bool.and_eq_true, beq_iff_eq] at hcond
          obtain ⟨hsz, hnu⟩ := hcond
          injection h with h
          subst h
          obtain ⟨us, hus⟩ : ∃ us, us = v.cells.toList := ⟨_, rfl⟩
          rw [← hus] at hcs
          have hul : us.length = n := by rw [chunks_len hcs, hsz]
          have hml : ((vs.drop off).take n).length = n := by rw [chunks_len hm, z2]
          rw [List.length_take, List.length_drop] at hml
          have hcl : ∀ j, j < us.length → ∃ u, vs[off + j]? = some u ∧ w.cell? ⟨b, off + j, none⟩ = some u ∧ w.frozen? ⟨b, off + j, none⟩ = false := by
            intro j hj
            obtain ⟨u, hu⟩ : ∃ u, vs[off + j]? = some u := ⟨vs[off + j]'(by omega), List.getElem?_eq_getElem _⟩
            exact ⟨u, hu, hcell _ u hu⟩
          have hst := run_storeCells_cells (P := P) b off us 0 w (fun j hj => by obtain ⟨u, _, hu, _⟩ := hcl j hj; rw [Nat.add_zero, hu]; rfl) (fun j hj => by obtain ⟨u, _, _, hu⟩ := hcl j hj; rw [Nat.add_zero]; exact hu) (chunks_cellish hcs)
          rw [Nat.add_zero] at hst
          have hcz : v.cells.size = n := by rw [← hul, hus]; simp
          have hin := World.cell?_setCells_in b us off w (fun j hj => by obtain ⟨u, _, hu, _⟩ := hcl j hj; rw [hu]; rfl)
          have hout := World.cell?_setCells_out b us off w
          have hK : Kp B w (w.setCells b off us) := by
            refine ⟨below_setCells _ _ _ hB, fun p x hp => ?_⟩
            rw [hout p ?_]
            · exact hp
            · intro hb hsn
              rcases Nat.lt_or_ge p.off off with h1 | h1
              · exact .inl h1
              rcases Nat.lt_or_ge p.off (off + us.length) with h2 | h2
              · exfalso
                obtain ⟨u, hu1, hu2, _⟩ := hcl (p.off - off) (by omega)
                rw [show off + (p.off - off) = p.off by omega] at hu1 hu2
                have hpe : p = ⟨b, p.off, none⟩ := by cases p; simp_all
                rw [hpe, hu2] at hp
                injection hp with hp
                subst hp
                refine noU32_spec hnu hm x ?_
                rw [List.mem_iff_getElem?]
                refine ⟨p.off - off, ?_⟩
                rw [List.getElem?_take, if_pos (by omega), List.getElem?_drop, show off + (p.off - off) = p.off by omega]
                exact hu1
              · exact .inr h2
          refine ⟨w.setCells b off us, ?_, hK, fun p hp => hout p (fun hb _ => absurd hb hp), fun p => World.frozen?_setCells b us off w p, size_setCells _ _ _, ?_⟩
          · simp only [Instr.storeAt, Instr.sureAddr, storeVar, Sem.run_bind, Sem.run_pure, Result.andThen_ok, hs, hcz, ne_eq, not_true_eq_false, if_false, ← hus]
            exact hst
          · refine ⟨vs.take off ++ us ++ (vs.drop off).drop n, chunks_append (chunks_append (chunks_keep hK hl) (chunks_keep hK hcs)) (chunks_keep hK hr'), fun i u hi => ?_⟩
            have htl : (vs.take off).length = off := by rw [chunks_len hl, z1]
            rw [World.frozen?_setCells]
            rcases Nat.lt_or_ge i off with h1 | h1
            · rw [List.append_assoc, List.getElem?_append_left (by omega), List.getElem?_take, if_pos h1] at hi
              rw [hout ⟨b, i, none⟩ (fun _ _ => .inl h1)]
              exact hcell i u hi
            rcases Nat.lt_or_ge i (off + us.length) with h2 | h2
            · rw [List.append_assoc, List.getElem?_append_right (by omega), List.getElem?_append_left (by omega), htl] at hi
              have hk := hin (i - off) (by omega)
              rw [show off + (i - off) = i by omega] at hk
              rw [List.getElem?_eq_getElem (by omega)] at hi
              obtain ⟨u', hu', _, hf⟩ := hcl (i - off) (by omega)
              rw [show off + (i - off) = i by omega] at hf
              exact ⟨by rw [hk]; exact hi, hf⟩
            · rw [List.getElem?_append_right (by rw [List.length_append]; omega), List.length_append, htl, List.getElem?_drop, List.getElem?_drop] at hi
              rw [hout ⟨b, i, none⟩ (fun _ _ => .inr h2)]
              refine hcell i u ?_
              rw [← hi]
              congr 1
              omega
        · cases h
      · cases h
    · cases h
  · cases h
end

end Go.Proofs.Ytdleiiboffkidaa
end

/- ---- Sxd ---- -/
section
/-
  A walker that goes by reckoning: what one operation leaves, and that it does.
-/
set_option maxRecDepth 100000
namespace Go.Proofs.Ytdleiiboffkidaa
open Go.RowKit

def cmpE (op : BinOp) (x y : IT) : Option BT :=
  match op with
  | .eql => some (.eq x y)
  | .neq => some (.not (.eq x y))
  | .lss => some (.lt x y)
  | .leq => some (.le x y)
  | .gtr => some (.lt y x)
  | .geq => some (.le y x)
  | _ => none
/-- Numbers that are small by their form. -/
def tiny : IT → Bool
  | .lit z => decide (-1000 ≤ z) && decide (z ≤ 1000)
  | .a2 3 _ _ => true
  | _ => false
theorem tiny_spec {E : Env} {t : IT} (h : tiny t = true) : -1000 ≤ t.den E ∧ t.den E ≤ 1000 := by
  unfold tiny at h
  split at h
  · rw [Bool.and_eq_true, decide_eq_true_iff, decide_eq_true_iff] at h; exact h
  · rename_i x y
    show -1000 ≤ cmpZ (x.den E) (y.den E) ∧ cmpZ (x.den E) (y.den E) ≤ 1000
    rcases cmpZ_cases (x.den E) (y.den E) with ⟨_, h⟩ | ⟨_, h⟩ | ⟨_, h⟩ <;> rw [h] <;> omega
  · cases h
/-- Numbers of a kind, wrapped. -/
def wrF : IntKind → Option Nat
  | .i64 => some 20
  | .u64 => some 21
  | .u32 => some 22
  | _ => none
theorem wrF_spec {k : IntKind} {f : Nat} (h : wrF k = some f) (x : Int) : fn1 f x = k.wrap x := by
  unfold wrF at h
  split at h <;> (try injection h with h; subst h; rfl)
  cases h
def IT.fold (t : IT) : IT := match t.cl with | some z => .lit z | none => t
theorem IT.fold_den {E : Env} (t : IT) : t.fold.den E = t.den E := by
  unfold IT.fold
  split
  · rename_i z hz; rw [IT.cl_spec hz]; rfl
  · rfl
def wrE (k : IntKind) (t : IT) : Option AV := (wrF k).map fun f => .val false [.n k (IT.a1 f t).fold]
def arE (op : BinOp) (k : IntKind) (a b : IT) : Option AV :=
  match op with
  | .add => wrE k (.a2 0 a b)
  | .sub => wrE k (.a2 1 a b)
  | .mul => wrE k (.a2 2 a b)
  | .or => if k = .u64 then some (.val false [.n k (IT.a2 14 a b).fold]) else none
  | .rem => match b.cl with
    | some z => if z = 0 then none else some (.val false [.n k (IT.a2 15 a (.lit z)).fold])
    | none => none
  | .quo => match b.cl with
    | some z => if z = 0 then none else wrE k (.a2 16 a (.lit z))
    | none => none
  | _ => none
def shE (op : BinOp) (k : IntKind) (a b : IT) : Option AV :=
  match b.cl with
  | some z => if decide (0 ≤ z) && decide (z < (k.bits : Int)) then
      match op with
      | .shl => wrE k (.a2 17 a (.lit z))
      | .shr => some (.val false [.n k (IT.a2 18 a (.lit z)).fold])
      | _ => none
    else none
  | none => none
def cvtE (C : Cfg) (s d : TypeId) (x : AV) : Option AV :=
  match x with
  | .val false [.n _ t] => match C.cnv s d with
    | some k => wrE k t
    | none => none
  | _ => none
def isSh (op : BinOp) : Bool := match op with | .shl => true | .shr => true | _ => false
def binE (C : Cfg) (G : Asm) (op : BinOp) (ty : TypeId) (x y : AV) : Option AV :=
  match x, y with
  | .val false [.str s l], .val false [.str t m] => match op with
    | .eql => some (.val false [.b ((BT.seq s t).norm G)])
    | .neq => some (.val false [.b ((BT.not (.seq s t)).norm G)])
    | .add => if decide (l + m ≤ 1000000000000) then some (.val false [.str (.cat s t) (l + m)]) else none
    | _ => none
  | .val false [.b s], .val false [.b t] => if C.bool ty then
      match op, s.ev G, t.ev G with
      | .neq, some a, some b => some (.val false [.b (.lit (a != b))])
      | .eql, some a, some b => some (.val false [.b (.lit (a == b))])
      | _, _, _ => none
    else none
  | .val false [.n k a], .val false [.n k' b] =>
    if isSh op then shE op k a b else
    if k = k' then
      match cmpE op a b with
      | some t => some (.val false [.b (t.norm G)])
      | none => match op, k with
        | .mul, .i64 => if tiny a && tiny b then some (.val false [.n .i64 (.a2 2 a b)]) else arE .mul .i64 a b
        | .add, .i64 => match a.cl, b.cl with
          | some p, some q => if decide (-1000000 ≤ p + q) && decide (p + q ≤ 1000000) then some (.val false [.n .i64 (.lit (p + q))]) else arE .add .i64 a b
          | none, some q => if q == 1 && (G.find (.lt a (.lit 300)) == some true && G.find (.le (.lit 0) a) == some true) then some (.val false [.n .i64 (.a2 0 a b)]) else arE .add .i64 a b
          | _, none => arE .add .i64 a b
        | op, k => arE op k a b
    else none
  | .val true [.n .i64 a, .n .i64 b], .val true [.n .i64 c, .n .i64 d] => if C.eq2 ty then match op with
      | .eql => some (.val false [.b ((BT.and (.eq a c) (.eq b d)).norm G)])
      | _ => none
    else none
  | _, _ => none
def unE (G : Asm) (op : UnOp) (x : AV) : Option AV :=
  match op, x with
  | .not, .val false [.b t] => some (.val false [.b ((BT.not t).norm G)])
  | .neg, .val false [.n .i64 (.lit z)] => if decide (-1000 ≤ z) && decide (z ≤ 1000) then some (.val false [.n .i64 (.lit (-z))]) else wrE .i64 (.a2 1 (.lit 0) (.lit z))
  | .neg, .val false [.n .i64 t] => if tiny t then some (.val false [.n .i64 (.a1 0 t)]) else wrE .i64 (.a2 1 (.lit 0) t)
  | .neg, .val false [.n k t] => wrE k (.a2 1 (.lit 0) t)
  | _, _ => none
def opnds (look : Nat → Option AV) : List Operand → Option (List AV)
  | [] => some []
  | o :: os => match opnd look o, opnds look os with
    | some x, some xs => some (x :: xs)
    | _, _ => none
/-- The parts of a struct, all of them and in order. -/
def partsE (look : Nat → Option AV) : List (Nat × Operand) → List (Nat × Nat) → Nat → Nat → Option (List Chunk)
  | [], [], _, _ => some []
  | (i, x) :: ps, (off, size) :: fs, k, at_ =>
    match opnd look x with
    | some (.val _ cs) => if i == k && (off == at_ && (size == sizes cs)) then (partsE look ps fs (k + 1) (at_ + size)).map (cs ++ ·) else none
    | _ => none
  | _, _, _, _ => none
/-- The parts of a struct, in order; what is not given is zero. -/
def partsZ (look : Nat → Option AV) : List (Nat × Nat) → List (Nat × Operand) → List Chunk → Nat → Nat → Option (List Chunk)
  | _, [], zs, _, _ => some zs
  | (off, size) :: fs, (i, x) :: ps, zs, k, at_ =>
    match splitC zs size with
    | some (zl, zr) =>
      if i == k then
        match opnd look x with
        | some (.val _ cs) => if off == at_ && size == sizes cs then (partsZ look fs ps zr (k + 1) (at_ + size)).map (cs ++ ·) else none
        | _ => none
      else (partsZ look fs ((i, x) :: ps) zr (k + 1) (at_ + size)).map (zl ++ ·)
    | none => none
  | [], _ :: _, _, _, _ => none
def partsB (look : Nat → Option AV) (fs : List (Nat × Nat)) (ps : List (Nat × Operand)) (zs : List Chunk) : Option (List Chunk) :=
  match partsE look ps fs 0 0 with
  | some cs => some cs
  | none => partsZ look fs ps zs 0 0
/-- A sign and limbs make an integer. -/
def fuse : List Chunk → List Chunk
  | [.b (.lt x (.lit 0)), .mag y l] => if x.beq y then [.int y l] else [.b (.lt x (.lit 0)), .mag y l]
  | cs => cs
theorem fuse_spec {E : Env} {w : World} {cs : List Chunk} {vs : List Value} (h : chunks E w cs vs) : chunks E w (fuse cs) vs := by
  unfold fuse
  split
  · rename_i x y l
    split
    · rename_i hb
      have := IT.eq_of_beq hb
      subst this
      obtain ⟨a, r, rfl, ha, b, r2, rfl, ⟨u, rfl, ⟨ao, cap, rfl, h1, h2, h3⟩, hl⟩, hr⟩ := h
      simp only [Chunk.holds] at ha
      simp only [chunks] at hr
      subst ha hr
      exact ⟨[_, _], [], rfl, ⟨_, _, rfl, ⟨ao, cap, rfl, h1, h2, h3⟩, hl⟩, rfl⟩
    · exact h
  · exact h
/-- How long a slice is. -/
def lenE : Chunk → Option AV
  | .mag t _ => some (.val false [.n .i64 (.a1 4 t)])
  | .rmag i => some (.val false [.n .i64 (.rlen i)])
  | .nilSlice => some (.val false [.n .i64 (.lit 0)])
  | _ => none
/-- How long a text is. -/
def slenE : Chunk → Option AV
  | .str (.var i) _ => some (.val false [.n .i64 (.slen i)])
  | .str (.lit l) _ => some (.val false [.n .i64 (.lit (l.length : Int))])
  | _ => none
/-- A place in a variable. -/
def opndP (look : Nat → Option AV) (o : Operand) : Option (Nat × Nat) :=
  match opnd look o with
  | some (.ptr x off) => if off < big then some (x, off) else none
  | _ => none
/-- What lies in the rows among arguments. -/
def memOf (var : Nat → Option (List Chunk)) : AV → Option (List Chunk)
  | .ptr x off => if off < big then none else var x
  | _ => none
def places (size : Nat) (len : Nat) : List (Nat × Nat) := (List.range len).map fun i => (i * size, size)
/-- The lesser one, the greater one of two numbers. -/
def mmE (f : Nat) (look : Nat → Option AV) : List Operand → Option AV
  | [x, y] => match opnd look x, opnd look y with
    | some (.val false [.n k a]), some (.val false [.n k' b]) => if k = k' then some (.val false [.n k (IT.a2 f a b).fold]) else none
    | _, _ => none
  | _ => none
/-- A part of an array or a struct. -/
def partV (cs : List Chunk) (off : Nat) (b : Bool) (n : Nat) : Option AV :=
  match splitC cs off with
  | some (_, r) => match splitC r n with
    | some (l, _) => some (.val b l)
    | none => none
  | none => none
def callE (C : Cfg) (G : Asm) (look : Nat → Option AV) (var : Nat → Option (List Chunk)) (c : Call) : Option AV :=
  match c.callee with
  | .value f => match opnd look f with
    | some (.val false [.fn g]) => match opnds look c.args.toList with
      | some xs => C.calls g xs (xs.map (memOf var)) G
      | none => none
    | _ => none
  | .builtin .len => match c.argTypes.toList, c.args.toList with
    | t :: _, [x] => match opnd look x with
      | some (.val false [ch]) => if C.slc t then lenE ch else if C.strT t then slenE ch else none
      | some (.ptr _ off) => if decide (big ≤ off) && (C.row t).isSome then some (.val false [.n .i64 (.lit ((off - big : Nat) : Int))]) else none
      | _ => none
    | _, _ => none
  | .builtin .append => match c.argTypes.toList, c.args.toList with
    | [t, u], [x, y] => match opnd look x, opnd look y with
      | some (.val false [.nilSlice]), some (.val false [.mag s l]) => if C.slc t && (t == u && decide (l ≤ 1099511627776)) then some (.val false [.mag s l]) else none
      | _, _ => none
    | _, _ => none
  | .builtin .min => mmE 12 look c.args.toList
  | .builtin .max => mmE 13 look c.args.toList
  | _ => none
/-- A place in a row or in an array. -/
def idxE (C : Cfg) (look : Nat → Option AV) (t : TypeId) (x i : Operand) : Option (Nat × Nat) :=
  match opnd look i with
  | some (.val false [.n _ ti]) => match ti.cl with
    | some z => match C.row t with
      | some e => match opnd look x, C.ag e with
        | some (.ptr y off), some (_, size) => if decide (big ≤ off) && (decide (0 ≤ z) && (decide (z < ((off - big : Nat) : Int)) && decide (z.toNat * size < big))) then some (y, z.toNat * size) else none
        | _, _ => none
      | none => match C.arr t with
        | some (len, e) => match opndP look x, C.ag e with
          | some (y, off), some (_, size) => if decide (0 ≤ z) && (decide (z < (len : Int)) && decide (off + z.toNat * size < big)) then some (y, off + z.toNat * size) else none
          | _, _ => none
        | none => none
    | none => none
  | _ => none
def opE (C : Cfg) (G : Asm) (look : Nat → Option AV) (var : Nat → Option (List Chunk)) (o : Op) : Option Eff :=
  match o with
  | .move x => (opnd look x).map .set
  | .assign x => (opnd look x).map .set
  | .pick c a b => match opnd look c with
    | some (.val false [.b t]) => match t.ev G with
      | some true => (opnd look a).map .set
      | some false => (opnd look b).map .set
      | none => none
    | _ => none
  | .alloc t => (C.zero t).map fun cs => .new t cs 0
  | .box t x => match opnd look x with
    | some (.val _ cs) => some (.new t cs 0)
    | _ => none
  | .buildSlice t len parts => match C.row t with
    | some e => match C.zero e, C.ag e with
      | some zs, some (_, size) => match partsE look parts.toList (places size len) 0 0 with
        | some cs => if sizes cs == len * size && (decide (len * size ≤ 1000) && (!(len * size == 0) && sizes zs == size)) then some (.new e cs (big + len)) else none
        | none => none
      | _, _ => none
    | none => none
  | .build t parts => match C.flds t, C.zero t with
    | some fs, some zs => if parts.isEmpty then some (.set (.val true zs)) else
      match partsB look fs parts.toList zs with
      | some cs => if sizes cs == sizes zs then some (.set (.val true (fuse cs))) else none
      | none => none
    | none, some zs => match C.arr t with
      | some (len, e) => match C.ag e with
        | some (_, size) => match partsB look (places size len) parts.toList zs with
          | some cs => if sizes cs == sizes zs then some (.set (.val true cs)) else none
          | none => none
        | none => none
      | none => none
    | _, _ => none
  | .load t a => match opndP look a with
    | some (x, off) => match var x with
      | some cs => (loadE C cs off t).map .set
      | none => none
    | _ => none
  | .store t a x => match opndP look a, opnd look x with
    | some (y, off), some (.val b cs) => match var y with
      | some cx => (storeE C cx off t b cs).map (.put y)
      | none => none
    | _, _ => none
  | .binOp op t x y _ => match opnd look x, opnd look y with
    | some a, some b => (binE C G op t a b).map .set
    | _, _ => none
  | .unOp op _ x => match opnd look x with
    | some a => (unE G op a).map .set
    | none => none
  | .convert s d x => match opnd look x with
    | some a => (cvtE C s d a).map .set
    | none => none
  | .fieldAddr t x k => match opndP look x, C.fld t k with
    | some (y, off), some d => if off + d < big then some (.set (.ptr y (off + d))) else none
    | _, _ => none
  | .indexAddr t x i => (idxE C look t x i).map fun p => .set (.ptr p.1 p.2)
  | .index t x i => match opnd look x, opnd look i with
    | some (.val true cs), some (.val false [.n _ ti]) => match ti.cl, C.arr t with
      | some z, some (len, e) => match C.ag e with
        | some (b, size) => if decide (0 ≤ z) && decide (z < (len : Int)) then (partV cs (z.toNat * size) b size).map .set else none
        | none => none
      | _, _ => none
    | _, _ => none
  | .extract x i => match opnd look x with
    | some (.tup l) => match l[i]? with
      | some p => some (.set (.val p.1 p.2))
      | none => none
    | _ => none
  | .call c => (callE C G look var c).map .set
  | _ => none

section
variable {P : Program} {E : Env} {β : Nat → Nat} {B : Nat} {w : World} {a : Act} {G : Asm} {C : Cfg} {look : Nat → Option AV} {var : Nat → Option (List Chunk)}
theorem wrE_nptr {k : IntKind} {t : IT} {x off : Nat} (h : wrE k t = some (.ptr x off)) : False := by
  unfold wrE at h
  obtain ⟨_, _, h⟩ := Option.map_eq_some_iff.1 h
  cases h
theorem arE_nptr {op : BinOp} {k : IntKind} {s t : IT} {x off : Nat} (h : arE op k s t = some (.ptr x off)) : False := by
  unfold arE at h
  split at h
  · exact wrE_nptr h
  · exact wrE_nptr h
  · exact wrE_nptr h
  · split at h <;> cases h
  · split at h
    · split at h <;> cases h
    · cases h
  · split at h
    · split at h
      · cases h
      · exact wrE_nptr h
    · cases h
  · cases h
theorem shE_nptr {op : BinOp} {k : IntKind} {s t : IT} {x off : Nat} (h : shE op k s t = some (.ptr x off)) : False := by
  unfold shE at h
  split at h
  · split at h
    · split at h
      · exact wrE_nptr h
      · cases h
      · cases h
    · cases h
  · cases h
theorem num_holds {k : IntKind} {t : IT} {z : Int} (h : t.den E = z) : (AV.val false [.n k t]).holds E β w (.int k z) :=
  ⟨⟨[.int k z], [], rfl, (by show [Value.int k z] = [.int k (t.den E)]; rw [h]), rfl⟩, rfl⟩
theorem wrE_spec {k : IntKind} {t : IT} {z : AV} (h : wrE k t = some z) : z.holds E β w (.int k (k.wrap (t.den E))) := by
  unfold wrE at h
  obtain ⟨f, hf, rfl⟩ := Option.map_eq_some_iff.1 h
  refine num_holds ?_
  rw [IT.fold_den]
  exact wrF_spec hf _
theorem arE_sound {op : BinOp} {k : IntKind} {s r : IT} {z : AV} (t : TypeId) (h : arE op k s r = some z) : ∃ v, (binOp op t (.int k (s.den E)) (.int k (r.den E))).run P w = .ok v w ∧ z.holds E β w v := by
  unfold arE at h
  split at h
  · exact ⟨_, by simp [binOp, Op.intArith]; rfl, wrE_spec h⟩
  · exact ⟨_, by simp [binOp, Op.intArith]; rfl, wrE_spec h⟩
  · exact ⟨_, by simp [binOp, Op.intArith]; rfl, wrE_spec h⟩
  · split at h
    · rename_i hk
      subst hk
      injection h with h
      subst h
      exact ⟨.int .u64 (IntKind.u64.wrap ((BitVec.ofInt 64 (s.den E) ||| BitVec.ofInt 64 (r.den E)).toNat : Int)), by simp [binOp]; rfl, num_holds (by rw [IT.fold_den]; rfl)⟩
    · cases h
  · split at h
    · rename_i c hc
      split at h
      · cases h
      · rename_i hz
        injection h with h
        subst h
        have hcv := IT.cl_spec (E := E) hc
        exact ⟨.int k ((s.den E).tmod c), by simp [binOp, Op.intDiv, hcv, hz], num_holds (by rw [IT.fold_den]; rfl)⟩
    · cases h
  · split at h
    · rename_i c hc
      split at h
      · cases h
      · rename_i hz
        have hcv := IT.cl_spec (E := E) hc
        exact ⟨.int k (k.wrap ((s.den E).tdiv c)), by simp [binOp, Op.intDiv, hcv, hz], wrE_spec h⟩
    · cases h
  · cases h
theorem shE_sound {op : BinOp} {k k' : IntKind} {s r : IT} {z : AV} (t : TypeId) (h : shE op k s r = some z) : ∃ v, (binOp op t (.int k (s.den E)) (.int k' (r.den E))).run P w = .ok v w ∧ z.holds E β w v := by
  unfold shE at h
  split at h
  · rename_i c hc
    split at h
    · rename_i hb
      simp only [Bool.and_eq_true, decide_eq_true_iff] at hb
      obtain ⟨b1, b2⟩ := hb
      have hcv := IT.cl_spec (E := E) hc
      have hmin : min c.toNat k.bits = c.toNat := by omega
      split at h
      · refine ⟨_, ?_, wrE_spec h⟩
        show (Op.shift .shl k (s.den E) k' (r.den E)).run P w = _
        rw [hcv]
        unfold Op.shift
        rw [if_neg (by omega)]
        simp only [hmin]
        rfl
      · injection h with h
        subst h
        refine ⟨.int k ((s.den E).fdiv (2 ^ c.toNat)), ?_, num_holds (by rw [IT.fold_den]; rfl)⟩
        show (Op.shift .shr k (s.den E) k' (r.den E)).run P w = _
        rw [hcv]
        unfold Op.shift
        rw [if_neg (by omega)]
        simp only [hmin]
        rfl
      · cases h
    · cases h
  · cases h
theorem wp_value {o : Oper} {K : Act → World → Prop} {Q : Exit → Act → World → Prop} {s : Sem Value} {v : Value} {w' : World} (he : execOp a.eval o = (do pure (.value (← s)))) (hr : s.run P w = .ok v w') (h : K (a.put o.dst v) w') : Oper.wp P o a w K Q := by
  unfold Oper.wp
  rw [he]
  simp only [Sem.run_bind, hr, Result.andThen_ok, Sem.run_pure, Oper.upon_value]
  exact h
theorem wp_unit {o : Oper} {K : Act → World → Prop} {Q : Exit → Act → World → Prop} {s : Sem Unit} {w' : World} (he : execOp a.eval o = (do s; pure .skip)) (hr : s.run P w = .ok () w') (h : K (a.put o.dst undef) w') : Oper.wp P o a w K Q := by
  unfold Oper.wp
  rw [he]
  simp only [Sem.run_bind, hr, Result.andThen_ok, Sem.run_pure, Oper.upon_skip]
  exact h
theorem opnds_spec (hl : ∀ t x, look t = some x → x.holds E β w (a.tmps.getD t Go.undef)) : ∀ {os : List Operand} {xs : List AV}, opnds look os = some xs →
    (∀ (i : Nat) (x : AV), xs[i]? = some x → ∃ v, (os.map a.eval)[i]? = some v ∧ x.holds E β w v) ∧ (os.map a.eval).length = xs.length
  | [], _, h => by simp only [opnds] at h; injection h with h; subst h; simp
  | o :: os, _, h => by
    unfold opnds at h
    split at h
    · rename_i x xs h1 h2
      injection h with h
      subst h
      obtain ⟨k1, k2⟩ := opnds_spec hl h2
      refine ⟨fun i y hy => ?_, by simp [← k2]⟩
      match i, hy with
      | 0, hy => injection hy with hy; subst hy; exact ⟨_, rfl, opnd_spec hl h1⟩
      | i + 1, hy => exact k1 i y hy
    · cases h

theorem sizes_append (ds rest : List Chunk) : sizes (ds ++ rest) = sizes ds + sizes rest := by
  induction ds with
  | nil => simp [sizes]
  | cons c ds ih => simp only [List.cons_append, sizes, ih]; omega
theorem foldl_set (off : Nat) : ∀ (l : List Value) (k : Nat) (A R : List Value), A.length = off + k → l.length ≤ R.length →
    (l.zipIdx k).foldl (fun (cs : Array Value) p => cs.setIfInBounds (off + p.2) p.1) (A ++ R).toArray = (A ++ l ++ R.drop l.length).toArray
  | [], k, A, R, _, _ => by simp
  | v :: l, k, A, R, h, hl => by
    match R, hl with
    | r :: R, hl =>
      rw [List.zipIdx_cons, List.foldl_cons]
      have e : ((A ++ r :: R).toArray.setIfInBounds (off + k) v) = ((A ++ [v]) ++ R).toArray := by
        simp [h]
      rw [e, foldl_set off l (k + 1) (A ++ [v]) R (by simp; omega) (by simpa using hl)]
      simp
theorem fill_seq (place : Nat → Option (Nat × Nat)) (hl : ∀ t x, look t = some x → x.holds E β w (a.tmps.getD t Go.undef)) : ∀ (ps : List (Nat × Operand)) (fs : List (Nat × Nat)) (k : Nat) (A R : List Value) (cs : List Chunk),
    partsE look ps fs k A.length = some cs → (∀ i p, fs[i]? = some p → place (k + i) = some p) → R.length = sizes cs →
    ∃ us, chunks E w cs us ∧ Instr.fill place (A ++ R).toArray (ps.map fun p => (p.1, a.eval p.2)) = some (A ++ us).toArray
  | [], [], k, A, R, cs, h, _, hR => by
    simp only [partsE] at h
    injection h with h
    subst h
    simp only [sizes, List.length_eq_zero_iff] at hR
    subst hR
    exact ⟨[], rfl, rfl⟩
  | [], _ :: _, _, _, _, _, h, _, _ => by simp [partsE] at h
  | _ :: _, [], _, _, _, _, h, _, _ => by simp [partsE] at h
  | (i, x) :: ps, (off, size) :: fs, k, A, R, cs, h, hp, hR => by
    unfold partsE at h
    split at h
    · rename_i bb ds hx
      split at h
      · rename_i hcond
        simp only [Bool.and_eq_true, beq_iff_eq] at hcond
        obtain ⟨rfl, rfl, rfl⟩ := hcond
        obtain ⟨rest, hrest, rfl⟩ := Option.map_eq_some_iff.1 h
        have hv := opnd_spec (E := E) (β := β) (w := w) hl hx
        obtain ⟨us, hus⟩ : ∃ us, us = (a.eval x).cells.toList := ⟨_, rfl⟩
        have hc := one_cells hv
        rw [← hus] at hc
        have hul : us.length = sizes ds := chunks_len hc
        have hsz : (a.eval x).cells.size = sizes ds := by rw [← hul, hus]; simp
        have hsum := sizes_append ds rest
        rw [hsum] at hR
        have hpl := hp 0 _ rfl
        rw [Nat.add_zero] at hpl
        obtain ⟨vs, h1, h2⟩ := fill_seq place hl ps fs (i + 1) (A ++ us) (R.drop us.length) rest (by rw [List.length_append, hul]; exact hrest) (fun j p hj => by
          have := hp (j + 1) p (by simpa using hj)
          rwa [show i + (j + 1) = i + 1 + j by omega] at this) (by rw [List.length_drop]; omega)
        refine ⟨us ++ vs, chunks_append hc h1, ?_⟩
        rw [List.map_cons]
        unfold Instr.fill
        simp only [hpl]
        have hcond : (decide ((a.eval x).cells.size ≠ sizes ds) || decide (A.length + (a.eval x).cells.size > (A ++ R).toArray.size)) = false := by
          rw [hsz]
          simp
          omega
        simp only [hcond, Bool.false_eq_true, if_false]
        rw [← Array.foldl_toList, Array.toList_zipIdx, ← hus, foldl_set A.length us 0 A R (by omega) (by omega)]
        rw [h2, List.append_assoc]
      · cases h
    · cases h

theorem fill_seqZ (place : Nat → Option (Nat × Nat)) (hl : ∀ t x, look t = some x → x.holds E β w (a.tmps.getD t Go.undef)) : ∀ (fs : List (Nat × Nat)) (ps : List (Nat × Operand)) (zs : List Chunk) (k : Nat) (A R : List Value) (cs : List Chunk),
    partsZ look fs ps zs k A.length = some cs → (∀ i p, fs[i]? = some p → place (k + i) = some p) → chunks E w zs R →
    ∃ us, chunks E w cs us ∧ Instr.fill place (A ++ R).toArray (ps.map fun p => (p.1, a.eval p.2)) = some (A ++ us).toArray := by
  intro fs
  induction fs with
  | nil =>
    intro ps zs k A R cs h hp hR
    cases ps with
    | nil =>
      simp only [partsZ] at h
      injection h with h
      subst h
      exact ⟨R, hR, rfl⟩
    | cons p ps => simp [partsZ] at h
  | cons f fs ih =>
    obtain ⟨off, size⟩ := f
    intro ps zs k A R cs h hp hR
    cases ps with
    | nil =>
      simp only [partsZ] at h
      injection h with h
      subst h
      exact ⟨R, hR, rfl⟩
    | cons p ps =>
      obtain ⟨i, x⟩ := p
      simp only [partsZ] at h
      split at h
      · rename_i zl zr hsp
        obtain ⟨hzs, hsz, hzl, hzr⟩ := splitC_spec zs size zl zr R hsp hR
        have hlen := chunks_len hR
        have hsum := sizes_append zl zr
        rw [← hzs, hsz] at hsum
        have htake : (R.take size).length = size := by rw [List.length_take]; omega
        have hpl := hp 0 _ rfl
        rw [Nat.add_zero] at hpl
        have hp' : ∀ j p, fs[j]? = some p → place (k + 1 + j) = some p := fun j p hj => by
          have := hp (j + 1) p (by simpa using hj)
          rwa [show k + (j + 1) = k + 1 + j by omega] at this
        split at h
        · rename_i hik
          rw [beq_iff_eq] at hik
          subst hik
          split at h
          · rename_i bb ds hx
            split at h
            · rename_i hcond
              simp only [Bool.and_eq_true, beq_iff_eq] at hcond
              obtain ⟨rfl, hsd⟩ := hcond
              obtain ⟨rest, hrest, rfl⟩ := Option.map_eq_some_iff.1 h
              have hv := opnd_spec (E := E) (β := β) (w := w) hl hx
              obtain ⟨us, hus⟩ : ∃ us, us = (a.eval x).cells.toList := ⟨_, rfl⟩
              have hc := one_cells hv
              rw [← hus] at hc
              have hul : us.length = sizes ds := chunks_len hc
              have hsz2 : (a.eval x).cells.size = sizes ds := by rw [← hul, hus]; simp
              obtain ⟨vs, h1, h2⟩ := ih ps zr (i + 1) (A ++ us) (R.drop size) rest (by rw [List.length_append, hul, ← hsd]; exact hrest) hp' hzr
              refine ⟨us ++ vs, chunks_append hc h1, ?_⟩
              rw [List.map_cons]
              unfold Instr.fill
              simp only [hpl]
              have hcond : (decide ((a.eval x).cells.size ≠ size) || decide (A.length + (a.eval x).cells.size > (A ++ R).toArray.size)) = false := by
                rw [hsz2, hsd]
                simp
                omega
              simp only [hcond, Bool.false_eq_true, if_false]
              rw [← Array.foldl_toList, Array.toList_zipIdx, ← hus, foldl_set A.length us 0 A R (by omega) (by omega)]
              rw [show us.length = size by rw [hul, hsd], h2, List.append_assoc]
            · cases h
          · cases h
        · obtain ⟨rest, hrest, rfl⟩ := Option.map_eq_some_iff.1 h
          obtain ⟨vs, h1, h2⟩ := ih ((i, x) :: ps) zr (k + 1) (A ++ R.take size) (R.drop size) rest (by rw [List.length_append, htake]; exact hrest) hp' hzr
          refine ⟨R.take size ++ vs, chunks_append hzl h1, ?_⟩
          rw [List.append_assoc, List.take_append_drop, List.append_assoc] at h2
          exact h2
      · cases h
set_option maxHeartbeats 1000000 in
theorem pv_lt {b off : Nat} (h : off < big) : pv b off = .pointer (some ⟨b, off, none⟩) := if_pos h
theorem opndP_spec (hl : ∀ t x, look t = some x → x.holds E β w (a.tmps.getD t Go.undef)) {x : Operand} {y off : Nat} (h : opndP look x = some (y, off)) : a.eval x = .pointer (some ⟨β y, off, none⟩) ∧ opnd look x = some (.ptr y off) := by
  unfold opndP at h
  split at h
  · rename_i y' off' hx
    split at h
    · rename_i hlt
      injection h with h
      injection h with h1 h2
      subst h1 h2
      have := opnd_spec (E := E) (β := β) (w := w) hl hx
      exact ⟨Eq.trans this (pv_lt hlt), hx⟩
    · cases h
  · cases h
theorem places_get {size len i : Nat} {p : Nat × Nat} (h : (places size len)[i]? = some p) : p = (i * size, size) := by
  unfold places at h
  rw [List.getElem?_map] at h
  obtain ⟨j, hj, rfl⟩ := Option.map_eq_some_iff.1 h
  obtain ⟨hlt, e⟩ := List.getElem?_eq_some_iff.1 hj
  rw [List.getElem_range] at e
  rw [e]
theorem idxE_sound (hC : CfgOK P E C) (hl : ∀ t x, look t = some x → x.holds E β w (a.tmps.getD t Go.undef)) {t : TypeId} {x i : Operand} {y off : Nat} (h : idxE C look t x i = some (y, off)) :
    off < big ∧ (Instr.indexAt t (a.eval x) (a.eval i)).run P w = .ok (.pointer (some ⟨β y, off, none⟩)) w ∧ ∃ off', opnd look x = some (.ptr y off') := by
  unfold idxE at h
  split at h
  · rename_i k ti hi
    obtain ⟨⟨l1, r1, h1, h2, h3⟩, _⟩ := opnd_spec (E := E) (β := β) (w := w) hl hi
    simp only [Chunk.holds] at h2
    simp only [chunks] at h3
    subst h2 h3
    injection h1 with h1
    split at h
    · rename_i z hz
      rw [IT.cl_spec hz] at h1
      split at h
      · rename_i e he
        split at h
        · rename_i y' off' bb size hx ha
          split at h
          · rename_i hb
            simp only [Bool.and_eq_true, decide_eq_true_iff] at hb
            obtain ⟨b1, b2, b3, b4⟩ := hb
            injection h with h
            injection h with e1 e2
            subst e1 e2
            obtain ⟨_, hso, _⟩ := hC.ag e bb size ha w
            have hxv : a.eval x = .slice (some ⟨β y', 0, none⟩) (off' - big) (off' - big) := by
              have := opnd_spec (E := E) (β := β) (w := w) hl hx
              refine Eq.trans this ?_
              unfold pv
              rw [if_neg (by omega)]
            refine ⟨b4, ?_, off', hx⟩
            rw [hxv, h1]
            unfold Instr.indexAt
            have hlt : (0 : Int) ≤ z ∧ z < ((off' - big : Nat) : Int) := ⟨b2, b3⟩
            simp only [asIntOf, Sem.run_bind, Sem.run_pure, Result.andThen_ok, run_underlying (hC.row t e he), if_pos hlt, hso, add_addr, Nat.zero_add]
          · cases h
        · cases h
      · split at h
        · rename_i len e he
          split at h
          · rename_i y' off' bb size hx ha
            split at h
            · rename_i hb
              simp only [Bool.and_eq_true, decide_eq_true_iff] at hb
              obtain ⟨b1, b2, b3⟩ := hb
              injection h with h
              injection h with e1 e2
              subst e1 e2
              obtain ⟨_, hso, _⟩ := hC.ag e bb size ha w
              obtain ⟨hxv, hx2⟩ := opndP_spec (E := E) (β := β) (w := w) hl hx
              refine ⟨b3, ?_, off', hx2⟩
              rw [hxv, h1]
              unfold Instr.indexAt
              have hlt : (0 : Int) ≤ z ∧ z < (len : Int) := ⟨b1, b2⟩
              simp only [asIntOf, Sem.run_bind, Sem.run_pure, Result.andThen_ok, run_underlying (hC.arr t len e he), Instr.sureAddr, if_pos hlt, hso, add_addr]
            · cases h
          · cases h
        · cases h
    · cases h
  · cases h
theorem mmE_spec (hl : ∀ t x, look t = some x → x.holds E β w (a.tmps.getD t Go.undef)) {f : Nat} {args : Array Operand} {r : AV} (h : mmE f look args.toList = some r) :
    ∃ x y k s t, args = #[x, y] ∧ a.eval x = .int k (s.den E) ∧ a.eval y = .int k (t.den E) ∧ r = .val false [.n k (IT.a2 f s t).fold] := by
  obtain ⟨os, hos⟩ : ∃ os, os = args.toList := ⟨_, rfl⟩
  rw [← hos] at h
  unfold mmE at h
  split at h
  · rename_i x y
    split at h
    · rename_i k s k' t hx hy
      split at h
      · rename_i hk
        subst hk
        injection h with h
        obtain ⟨⟨l1, r1, h1, h2, h3⟩, _⟩ := opnd_spec (E := E) (β := β) (w := w) hl hx
        simp only [Chunk.holds] at h2
        simp only [chunks] at h3
        subst h2 h3
        injection h1 with h1
        obtain ⟨⟨l2, r2, j1, j2, j3⟩, _⟩ := opnd_spec (E := E) (β := β) (w := w) hl hy
        simp only [Chunk.holds] at j2
        simp only [chunks] at j3
        subst j2 j3
        injection j1 with j1
        exact ⟨x, y, k, s, t, by apply Array.toList_inj.1; simpa using hos.symm, h1, j1, h.symm⟩
      · cases h
    · cases h
  · cases h
theorem opE_sound (hC : CfgOK P E C) (hwk : C.wok w) (hG : G.holds E) (hl : ∀ t x, look t = some x → x.holds E β w (a.tmps.getD t Go.undef)) (hv : ∀ x cs, var x = some cs → (x < ro → B ≤ β x) ∧ VarAt E w (β x) cs)
    {o : Oper} {eff : Eff} (h : opE C G look var o.op = some eff) (K : Act → World → Prop) (Q : Exit → Act → World → Prop) (hro : ∀ x cs, eff = .put x cs → x < ro)
    (hset : ∀ x v w', eff = .set x → x.holds E β w' v → Ext w w' → K (a.put o.dst v) w')
    (hnew : ∀ t cs vs off, eff = .new t cs off → chunks E w cs vs → K (a.put o.dst (pv w.heap.size off)) (w.alloc (.cells vs.toArray t)))
    (hput : ∀ x cs w', eff = .put x cs → Kp B w w' → (∀ p : Addr, p.block ≠ β x → w'.cell? p = w.cell? p) → (∀ p, w'.frozen? p = w.frozen? p) → w'.heap.size = w.heap.size → VarAt E w' (β x) cs → K (a.put o.dst undef) w') :
    Oper.wp P o a w K Q := by
  obtain ⟨dst, op, ty, pos, after, guard⟩ := o
  cases op with
  | move x =>
    simp only [opE] at h
    obtain ⟨y, hy, rfl⟩ := Option.map_eq_some_iff.1 h
    exact hset _ _ _ rfl (opnd_spec hl hy) (Ext.refl w)
  | assign x =>
    simp only [opE] at h
    obtain ⟨y, hy, rfl⟩ := Option.map_eq_some_iff.1 h
    exact hset _ _ _ rfl (opnd_spec hl hy) (Ext.refl w)
  | pick c x y =>
    simp only [opE] at h
    split at h
    · rename_i t hc
      have hcv := opnd_spec (E := E) (β := β) (w := w) hl hc
      obtain ⟨⟨l, r, h1, h2, h3⟩, _⟩ := hcv
      simp only [Chunk.holds] at h2
      simp only [chunks] at h3
      subst h2 h3
      injection h1 with h1
      have hrun : ∀ b, t.den E = b → execOp a.eval ⟨dst, .pick c x y, ty, pos, after, guard⟩ = (do pure (.value (if ← asBool (.bool b) then a.eval x else a.eval y))) := by
        intro b hb
        simp only [execOp, h1, hb]
      split at h
      · rename_i ht
        obtain ⟨z, hz, rfl⟩ := Option.map_eq_some_iff.1 h
        unfold Oper.wp
        rw [hrun true (BT.ev_spec hG ht)]
        simp [asBool]
        exact hset _ _ _ rfl (opnd_spec hl hz) (Ext.refl w)
      · rename_i ht
        obtain ⟨z, hz, rfl⟩ := Option.map_eq_some_iff.1 h
        unfold Oper.wp
        rw [hrun false (BT.ev_spec hG ht)]
        simp [asBool]
        exact hset _ _ _ rfl (opnd_spec hl hz) (Ext.refl w)
      · cases h
    · cases h
  | alloc t =>
    simp only [opE] at h
    obtain ⟨cs, hz, rfl⟩ := Option.map_eq_some_iff.1 h
    obtain ⟨z, h1, h2⟩ := hC.zero t cs hz w
    refine wp_value (s := Instr.alloc t true (.tuple #[])) rfl (v := .pointer (some ⟨w.heap.size, 0, none⟩)) (w' := w.alloc (.cells z.cells t)) ?_ ?_
    · simp [Instr.alloc, h1, newVar, newRow, newObj]; rfl
    · have := hnew t cs _ 0 rfl h2
      simpa [pv, big] using this
  | box t x =>
    simp only [opE] at h
    split at h
    · rename_i bb cs hx
      injection h with h
      subst h
      have h2 := one_cells (opnd_spec (E := E) (β := β) (w := w) hl hx)
      refine wp_value (s := Instr.box t (a.eval x)) rfl (v := .pointer (some ⟨w.heap.size, 0, none⟩)) (w' := w.alloc (.cells (a.eval x).cells t)) ?_ ?_
      · simp [Instr.box, newVar, newRow, newObj]; rfl
      · have := hnew t cs _ 0 rfl h2
        simpa [pv, big] using this
    · cases h
  | buildSlice t len parts =>
    simp only [opE] at h
    split at h
    · rename_i e he
      split at h
      · rename_i zs bb size hz ha
        split at h
        · rename_i cs hp
          split at h
          · rename_i hsz
            injection h with h
            subst h
            simp only [Bool.and_eq_true, beq_iff_eq, decide_eq_true_iff, Bool.not_eq_true', beq_eq_false_iff_ne] at hsz
            obtain ⟨s1, s2, s3, s4⟩ := hsz
            obtain ⟨z, hz1, hz2⟩ := hC.zero e zs hz w
            obtain ⟨_, hso, _⟩ := hC.ag e bb size ha w
            obtain ⟨us, h1, h2⟩ := fill_seq (E := E) (β := β) (w := w) (a := a) (fun i => some (i * size, size)) hl parts.toList (places size len) 0 [] ((Array.range (len * size)).map (z.cells[· % z.cells.size]!)).toList cs hp (fun i p hi => by rw [places_get hi, Nat.zero_add]) (by simp [s1])
            refine wp_value (s := Instr.buildSlice t len (Array.map (fun (p : Nat × Operand) => (p.1, a.eval p.2)) parts)) rfl (v := .slice (some ⟨w.heap.size, 0, none⟩) len len) (w' := w.alloc (.cells us.toArray e)) ?_ ?_
            · unfold Instr.buildSlice
              have s2' : ¬ len * size > 2 ^ 24 := by omega
              simp only [Sem.run_bind, run_underlying (hC.row t e he), Result.andThen_ok, hso, if_neg s2', if_neg s3, hz1, Sem.run_pure]
              rw [Array.toList_map]
              simp only [List.nil_append, Array.toArray_toList] at h2
              rw [h2]
              simp [newRow, newObj]
              rfl
            · have := hnew e cs us (big + len) rfl h1
              rw [show pv w.heap.size (big + len) = .slice (some ⟨w.heap.size, 0, none⟩) len len from by unfold pv; rw [if_neg (by omega), Nat.add_sub_cancel_left]] at this
              exact this
          · cases h
        · cases h
      · cases h
    · cases h
  | build t parts =>
    simp only [opE] at h
    split at h
    · rename_i fs zs hf hz
      obtain ⟨z, hz1, hz2⟩ := hC.zero t zs hz w
      obtain ⟨fields, hu, hm⟩ := hC.flds t fs hf
      have hrun : ∀ us, Instr.fill (fs.toArray[·]?) z.cells ((parts.map fun (p : Nat × Operand) => (p.1, a.eval p.2)).toList) = some us → (Instr.build t (parts.map fun (i, x) => (i, a.eval x))).run P w = .ok (.agg us) w := by
        intro us hus
        unfold Instr.build
        simp only [Sem.run_bind, hz1, Result.andThen_ok, run_underlying hu, hm w]
        rw [hus]
        simp
      split at h
      · rename_i hemp
        injection h with h
        subst h
        have he : parts = #[] := by simpa using hemp
        subst he
        refine wp_value (s := Instr.build t (Array.map (fun (p : Nat × Operand) => (p.1, a.eval p.2)) #[])) rfl (hrun z.cells (by simp [Instr.fill])) ?_
        exact hset _ _ _ rfl ⟨z.cells.toList, by simp, hz2⟩ (Ext.refl w)
      · split at h
        · rename_i cs hp
          split at h
          · rename_i hsz
            injection h with h
            subst h
            rw [beq_iff_eq] at hsz
            obtain ⟨us, h1, h2⟩ : ∃ us, chunks E w cs us ∧ Instr.fill (fun i => fs.toArray[i]?) ([] ++ z.cells.toList).toArray (parts.toList.map fun p => (p.1, a.eval p.2)) = some ([] ++ us).toArray := by
              unfold partsB at hp
              split at hp
              · rename_i cs' hp'
                injection hp with hp
                subst hp
                exact fill_seq (E := E) (β := β) (w := w) (a := a) (fun i => fs.toArray[i]?) hl parts.toList fs 0 [] z.cells.toList _ hp' (fun i p hi => by rw [Nat.zero_add]; simpa using hi) (by rw [chunks_len hz2, hsz])
              · exact fill_seqZ (E := E) (β := β) (w := w) (a := a) (fun i => fs.toArray[i]?) hl fs parts.toList zs 0 [] z.cells.toList cs hp (fun i p hi => by rw [Nat.zero_add]; simpa using hi) hz2
            refine wp_value (s := Instr.build t (Array.map (fun (p : Nat × Operand) => (p.1, a.eval p.2)) parts)) rfl (hrun us.toArray ?_) ?_
            · rw [Array.toList_map]
              simpa using h2
            · exact hset _ _ _ rfl ⟨us, rfl, fuse_spec h1⟩ (Ext.refl w)
          · cases h
        · cases h
    · rename_i zs hf hz
      obtain ⟨z, hz1, hz2⟩ := hC.zero t zs hz w
      split at h
      · rename_i len e he
        split at h
        · rename_i bb size ha
          obtain ⟨_, hso, _⟩ := hC.ag e bb size ha w
          split at h
          · rename_i cs hp
            split at h
            · rename_i hsz
              injection h with h
              subst h
              rw [beq_iff_eq] at hsz
              obtain ⟨us, h1, h2⟩ : ∃ us, chunks E w cs us ∧ Instr.fill (fun i => some (i * size, size)) ([] ++ z.cells.toList).toArray (parts.toList.map fun p => (p.1, a.eval p.2)) = some ([] ++ us).toArray := by
                unfold partsB at hp
                split at hp
                · rename_i cs' hp'
                  injection hp with hp
                  subst hp
                  exact fill_seq (E := E) (β := β) (w := w) (a := a) (fun i => some (i * size, size)) hl parts.toList (places size len) 0 [] z.cells.toList _ hp' (fun i p hi => by rw [places_get hi, Nat.zero_add]) (by rw [chunks_len hz2, hsz])
                · exact fill_seqZ (E := E) (β := β) (w := w) (a := a) (fun i => some (i * size, size)) hl (places size len) parts.toList zs 0 [] z.cells.toList cs hp (fun i p hi => by rw [places_get hi, Nat.zero_add]) hz2
              refine wp_value (s := Instr.build t (Array.map (fun (p : Nat × Operand) => (p.1, a.eval p.2)) parts)) rfl (v := .agg us.toArray) (w' := w) ?_ ?_
              · unfold Instr.build
                simp only [Sem.run_bind, hz1, Result.andThen_ok, run_underlying (hC.arr t len e he), hso]
                rw [Array.toList_map]
                simp only [List.nil_append, Array.toArray_toList] at h2
                rw [h2]
                simp
              · exact hset _ _ _ rfl ⟨us, rfl, h1⟩ (Ext.refl w)
            · cases h
          · cases h
        · cases h
      · cases h
    · cases h
  | load t x =>
    simp only [opE] at h
    split at h
    · rename_i y off hx
      split at h
      · rename_i cs hy
        obtain ⟨z, hz, rfl⟩ := Option.map_eq_some_iff.1 h
        have he : a.eval x = .pointer (some ⟨β y, off, none⟩) := (opndP_spec (E := E) (β := β) (w := w) hl hx).1
        obtain ⟨v, k1, k2⟩ := loadE_sound (β := β) hC hz (hv y cs hy).2
        refine wp_value (s := Instr.loadAt t (a.eval x)) rfl (by rw [he]; exact k1) ?_
        exact hset _ _ _ rfl k2 (Ext.refl w)
      · cases h
    · cases h
  | store t x y =>
    simp only [opE] at h
    split at h
    · rename_i z off bb cs hx hy
      split at h
      · rename_i cx hz
        obtain ⟨c2, hc2, rfl⟩ := Option.map_eq_some_iff.1 h
        have he : a.eval x = .pointer (some ⟨β z, off, none⟩) := (opndP_spec (E := E) (β := β) (w := w) hl hx).1
        obtain ⟨hB, hva⟩ := hv z cx hz
        obtain ⟨w', k1, k2, k3, k4, k5, k6⟩ := storeE_sound hC hc2 hva (opnd_spec (E := E) (β := β) (w := w) hl hy) (hB (hro _ _ rfl))
        refine wp_unit (s := Instr.storeAt t (a.eval x) (a.eval y)) rfl (by rw [he]; exact k1) ?_
        exact hput _ _ _ rfl k2 k3 k4 k5 k6
      · cases h
    · cases h
  | binOp op t x y ty2 =>
    simp only [opE] at h
    split at h
    · rename_i u v hx hy
      obtain ⟨z, hz, rfl⟩ := Option.map_eq_some_iff.1 h
      have hxv := opnd_spec (E := E) (β := β) (w := w) hl hx
      have hyv := opnd_spec (E := E) (β := β) (w := w) hl hy
      unfold binE at hz
      split at hz
      · rename_i s l r m
        obtain ⟨⟨l1, r1, h1, ⟨h2, h4⟩, h3⟩, _⟩ := hxv
        simp only [chunks] at h3
        subst h2 h3
        injection h1 with h1
        obtain ⟨⟨l2, r2, j1, ⟨j2, j4⟩, j3⟩, _⟩ := hyv
        simp only [chunks] at j3
        subst j2 j3
        injection j1 with j1
        have hg : ∀ (o : BinOp) (x' y' : ByteArray), o = .eql ∨ o = .neq ∨ o = .add → eqGuard o t x y (.string x') (.string y') = pure () := by
          rintro o x' y' (rfl | rfl | rfl) <;> rfl
        split at hz
        · injection hz with hz
          subst hz
          refine wp_value (s := (do eqGuard .eql t x y (a.eval x) (a.eval y); binOp .eql t (a.eval x) (a.eval y))) rfl (v := .bool (s.den E == r.den E)) (w' := w) ?_ (hset _ _ _ rfl ⟨⟨[_], [], rfl, ?_, rfl⟩, rfl⟩ (Ext.refl w))
          · rw [h1, j1, hg _ _ _ (.inl rfl), binOp_string_eql, ByteArray.toList_mk, ByteArray.toList_mk]
            rfl
          · show [Value.bool _] = [.bool _]
            rw [BT.norm_den hG]; rfl
        · injection hz with hz
          subst hz
          refine wp_value (s := (do eqGuard .neq t x y (a.eval x) (a.eval y); binOp .neq t (a.eval x) (a.eval y))) rfl (v := .bool (!(s.den E == r.den E))) (w' := w) ?_ (hset _ _ _ rfl ⟨⟨[_], [], rfl, ?_, rfl⟩, rfl⟩ (Ext.refl w))
          · rw [h1, j1, hg _ _ _ (.inr (.inl rfl)), binOp_string_neq, ByteArray.toList_mk, ByteArray.toList_mk]
            rfl
          · show [Value.bool _] = [.bool _]
            rw [BT.norm_den hG]; rfl
        · split at hz
          · rename_i hlm
            have hlm' := of_decide_eq_true hlm
            injection hz with hz
            subst hz
            refine wp_value (s := (do eqGuard .add t x y (a.eval x) (a.eval y); binOp .add t (a.eval x) (a.eval y))) rfl (v := .string ⟨(s.den E ++ r.den E).toArray⟩) (w' := w) ?_ (hset _ _ _ rfl ⟨⟨[_], [], rfl, ⟨rfl, ?_⟩, rfl⟩, rfl⟩ (Ext.refl w))
            · rw [h1, j1, hg _ _ _ (.inr (.inr rfl)), binOp_string_add]
              simp only [Sem.run_bind, Sem.run_pure, Result.andThen_ok]
              rw [run_string_add_sum _ _ _ (by show (s.den E).toArray.size + (r.den E).toArray.size ≤ _; rw [List.size_toArray, List.size_toArray]; omega)]
              congr 2
            · show (s.den E ++ r.den E).length ≤ _
              rw [List.length_append]; omega
          · cases hz
        · cases hz
      · rename_i s r
        split at hz
        · rename_i hbt
          split at hz
          · rename_i b1 b2 e1 e2
            injection hz with hz
            subst hz
            obtain ⟨⟨l1, r1, h1, h2, h3⟩, _⟩ := hxv
            simp only [Chunk.holds] at h2
            simp only [chunks] at h3
            subst h2 h3
            injection h1 with h1
            obtain ⟨⟨l2, r2, j1, j2, j3⟩, _⟩ := hyv
            simp only [Chunk.holds] at j2
            simp only [chunks] at j3
            subst j2 j3
            injection j1 with j1
            rw [BT.ev_spec hG e1] at h1
            rw [BT.ev_spec hG e2] at j1
            refine wp_value (s := (do eqGuard .neq t x y (a.eval x) (a.eval y); binOp .neq t (a.eval x) (a.eval y))) rfl (v := .bool (b1 != b2)) (w' := w) ?_ (hset _ _ _ rfl ⟨⟨_, [], rfl, rfl, rfl⟩, rfl⟩ (Ext.refl w))
            rw [h1, j1, eqGuard_at_bool]
            have := run_equalIn_bool w 9999 t b1 b2 (hC.bool t hbt)
            simp only [binOp, Op.equal, Op.maxDepth, Sem.run_bind, Sem.run_pure, Result.andThen_ok]
            rw [this]
            cases b1 <;> cases b2 <;> rfl
          · rename_i b1 b2 e1 e2
            injection hz with hz
            subst hz
            obtain ⟨⟨l1, r1, h1, h2, h3⟩, _⟩ := hxv
            simp only [Chunk.holds] at h2
            simp only [chunks] at h3
            subst h2 h3
            injection h1 with h1
            obtain ⟨⟨l2, r2, j1, j2, j3⟩, _⟩ := hyv
            simp only [Chunk.holds] at j2
            simp only [chunks] at j3
            subst j2 j3
            injection j1 with j1
            rw [BT.ev_spec hG e1] at h1
            rw [BT.ev_spec hG e2] at j1
            refine wp_value (s := (do eqGuard .eql t x y (a.eval x) (a.eval y); binOp .eql t (a.eval x) (a.eval y))) rfl (v := .bool (b1 == b2)) (w' := w) ?_ (hset _ _ _ rfl ⟨⟨_, [], rfl, rfl, rfl⟩, rfl⟩ (Ext.refl w))
            rw [h1, j1, eqGuard_at_bool]
            have := run_equalIn_bool w 9999 t b1 b2 (hC.bool t hbt)
            simp only [binOp, Op.equal, Op.maxDepth, Sem.run_bind, Sem.run_pure, Result.andThen_ok]
            rw [this]
            cases b1 <;> cases b2 <;> rfl
          · cases hz
        · cases hz
      · rename_i k s k' r
        obtain ⟨⟨l1, r1, h1, h2, h3⟩, _⟩ := hxv
        simp only [Chunk.holds] at h2
        simp only [chunks] at h3
        subst h2 h3
        injection h1 with h1
        obtain ⟨⟨l2, r2, j1, j2, j3⟩, _⟩ := hyv
        simp only [Chunk.holds] at j2
        simp only [chunks] at j3
        subst j2 j3
        injection j1 with j1
        split at hz
        · obtain ⟨v', r1, r2⟩ := shE_sound (P := P) (E := E) (β := β) (w := w) (k' := k') t hz
          refine wp_value (s := (do eqGuard op t x y (a.eval x) (a.eval y); binOp op t (a.eval x) (a.eval y))) rfl (v := v') (w' := w) ?_ (hset _ _ _ rfl r2 (Ext.refl w))
          rw [h1, j1, eqGuard_at_int]
          simpa using r1
        split at hz
        · rename_i hk
          subst hk
          have hex : ∀ z, (binOp op t (.int k (s.den E)) (.int k (r.den E))).run P w = .ok z w → K (a.put dst z) w → Oper.wp P ⟨dst, .binOp op t x y ty2, ty, pos, after, guard⟩ a w K Q := by
            intro z hr hk
            refine wp_value (s := (do eqGuard op t x y (a.eval x) (a.eval y); binOp op t (a.eval x) (a.eval y))) rfl (v := z) (w' := w) ?_ hk
            rw [h1, j1, eqGuard_at_int]
            simpa using hr
          split at hz
          · rename_i tt htt
            injection hz with hz
            subst hz
            have fin : ∀ bb, tt.den E = bb → (AV.val false [.b (tt.norm G)]).holds E β w (.bool bb) := by
              intro bb hbb
              refine ⟨⟨[.bool bb], [], rfl, ?_, rfl⟩, rfl⟩
              show [Value.bool bb] = [.bool ((tt.norm G).den E)]
              rw [BT.norm_den hG, hbb]
            cases op <;> simp only [cmpE] at htt <;> cases htt
            · exact hex (.bool (s.den E == r.den E)) (by simp [binOp_eql]) (hset _ _ _ rfl (fin _ rfl) (Ext.refl w))
            · exact hex (.bool (s.den E != r.den E)) (by simp [binOp_neq]) (hset _ _ _ rfl (fin _ rfl) (Ext.refl w))
            · exact hex (.bool (decide (s.den E < r.den E))) (by simp [binOp_lss]) (hset _ _ _ rfl (fin _ rfl) (Ext.refl w))
            · exact hex (.bool (decide (s.den E ≤ r.den E))) (by simp [binOp_leq]) (hset _ _ _ rfl (fin _ rfl) (Ext.refl w))
            · exact hex (.bool (decide (s.den E > r.den E))) (by simp [binOp_gtr]) (hset _ _ _ rfl (fin _ rfl) (Ext.refl w))
            · exact hex (.bool (decide (s.den E ≥ r.den E))) (by simp [binOp_geq]) (hset _ _ _ rfl (fin _ rfl) (Ext.refl w))
          · split at hz
            · split at hz
              · rename_i ht
                rw [Bool.and_eq_true] at ht
                injection hz with hz
                subst hz
                have b1 := tiny_spec (E := E) ht.1
                have b2 := tiny_spec (E := E) ht.2
                refine hex (.int .i64 (s.den E * r.den E)) ?_ (hset _ _ _ rfl ⟨⟨_, [], rfl, rfl, rfl⟩, rfl⟩ (Ext.refl w))
                have hb : -1000000 ≤ s.den E * r.den E ∧ s.den E * r.den E ≤ 1000000 := by
                  have := Int.natAbs_mul (s.den E) (r.den E)
                  have h3 : (s.den E).natAbs * (r.den E).natAbs ≤ 1000 * 1000 := Nat.mul_le_mul (by omega) (by omega)
                  omega
                have hw : IntKind.i64.wrap (s.den E * r.den E) = s.den E * r.den E := IntWalk.i64_in _ (by omega)
                simp [binOp, Op.intArith, hw]
              · obtain ⟨v', r1, r2⟩ := arE_sound (P := P) (E := E) (β := β) (w := w) t hz
                exact hex v' r1 (hset _ _ _ rfl r2 (Ext.refl w))
            · split at hz
              · rename_i p q hp hq
                split at hz
                · rename_i ht
                  rw [Bool.and_eq_true, decide_eq_true_iff, decide_eq_true_iff] at ht
                  injection hz with hz
                  subst hz
                  refine hex (.int .i64 (p + q)) ?_ (hset _ _ _ rfl ⟨⟨_, [], rfl, rfl, rfl⟩, rfl⟩ (Ext.refl w))
                  have hw : IntKind.i64.wrap (p + q) = p + q := IntWalk.i64_in _ (by omega)
                  rw [IT.cl_spec hp, IT.cl_spec hq]
                  simp [binOp, Op.intArith, hw]
                · obtain ⟨v', r1, r2⟩ := arE_sound (P := P) (E := E) (β := β) (w := w) t hz
                  exact hex v' r1 (hset _ _ _ rfl r2 (Ext.refl w))
              · rename_i q hp hq
                split at hz
                · rename_i ht
                  simp only [Bool.and_eq_true, beq_iff_eq] at ht
                  obtain ⟨rfl, g1, g2⟩ := ht
                  have f1 := of_decide_eq_true (Asm.find_spec hG g1)
                  have f2 := of_decide_eq_true (Asm.find_spec hG g2)
                  simp only [IT.den] at f1 f2
                  have hb := IT.cl_spec (E := E) hq
                  injection hz with hz
                  subst hz
                  refine hex (.int .i64 (s.den E + 1)) ?_ (hset _ _ _ rfl ⟨⟨_, [], rfl, (show [Value.int .i64 (s.den E + 1)] = [Value.int .i64 (s.den E + r.den E)] by rw [hb]), rfl⟩, rfl⟩ (Ext.refl w))
                  have hw : IntKind.i64.wrap (s.den E + 1) = s.den E + 1 := IntWalk.i64_in _ (by omega)
                  rw [hb]
                  simp [binOp, Op.intArith, hw]
                · obtain ⟨v', r1, r2⟩ := arE_sound (P := P) (E := E) (β := β) (w := w) t hz
                  exact hex v' r1 (hset _ _ _ rfl r2 (Ext.refl w))
              · obtain ⟨v', r1, r2⟩ := arE_sound (P := P) (E := E) (β := β) (w := w) t hz
                exact hex v' r1 (hset _ _ _ rfl r2 (Ext.refl w))
            · obtain ⟨v', r1, r2⟩ := arE_sound (P := P) (E := E) (β := β) (w := w) t hz
              exact hex v' r1 (hset _ _ _ rfl r2 (Ext.refl w))
        · cases hz
      · rename_i p1 p2 p3 p4
        split at hz
        · rename_i he2
          split at hz
          · injection hz with hz
            subst hz
            obtain ⟨vs, hx1, l1, r1, hv1, hc1, l2, r2, hv2, hc2, hn⟩ := hxv
            obtain ⟨us, hy1, m1, s1, hu1, hd1, m2, s2, hu2, hd2, hm⟩ := hyv
            simp only [Chunk.holds] at hc1 hc2 hd1 hd2
            simp only [chunks] at hn hm
            subst hc1 hc2 hd1 hd2 hn hm
            subst hv2 hu2
            subst hv1 hu1
            refine wp_value (s := (do eqGuard .eql t x y (a.eval x) (a.eval y); binOp .eql t (a.eval x) (a.eval y))) rfl (v := .bool (p1.den E == p3.den E && p2.den E == p4.den E)) (w' := w) ?_ (hset _ _ _ rfl ⟨⟨[_], [], rfl, ?_, rfl⟩, rfl⟩ (Ext.refl w))
            · rw [hx1, hy1]
              exact hC.eq2 t he2 w x y _ _ _ _
            · show [Value.bool _] = [.bool _]
              rw [BT.norm_den hG]; rfl
          · cases hz
        · cases hz
      · cases hz
    · cases h
  | unOp op t x =>
    simp only [opE] at h
    split at h
    · rename_i u hx
      obtain ⟨z, hz, rfl⟩ := Option.map_eq_some_iff.1 h
      have hxv := opnd_spec (E := E) (β := β) (w := w) hl hx
      unfold unE at hz
      split at hz
      · rename_i tt
        injection hz with hz
        subst hz
        obtain ⟨⟨l1, r1, h1, h2, h3⟩, _⟩ := hxv
        simp only [Chunk.holds] at h2
        simp only [chunks] at h3
        subst h2 h3
        injection h1 with h1
        refine wp_value (s := Op.unary .not (a.eval x)) rfl (v := .bool (!(tt.den E))) (w' := w) (by rw [h1]; simp [Op.unary]) ?_
        refine hset _ _ _ rfl ⟨⟨[.bool (!(tt.den E))], [], rfl, ?_, rfl⟩, rfl⟩ (Ext.refl w)
        show [Value.bool _] = [.bool (((BT.not tt).norm G).den E)]
        rw [BT.norm_den hG]
        rfl
      · rename_i zz
        split at hz
        · rename_i hb
          rw [Bool.and_eq_true, decide_eq_true_iff, decide_eq_true_iff] at hb
          injection hz with hz
          subst hz
          obtain ⟨⟨l1, r1, h1, h2, h3⟩, _⟩ := hxv
          simp only [Chunk.holds] at h2
          simp only [chunks] at h3
          subst h2 h3
          injection h1 with h1
          have hw : IntKind.i64.wrap (-zz) = -zz := IntWalk.i64_in _ (by omega)
          refine wp_value (s := Op.unary .neg (a.eval x)) rfl (v := .int .i64 (-zz)) (w' := w) (by rw [h1]; simp [Op.unary, Op.intArith, IT.den, hw]) ?_
          exact hset _ _ _ rfl ⟨⟨_, [], rfl, rfl, rfl⟩, rfl⟩ (Ext.refl w)
        · obtain ⟨⟨l1, r1, h1, h2, h3⟩, _⟩ := hxv
          simp only [Chunk.holds] at h2
          simp only [chunks] at h3
          subst h2 h3
          injection h1 with h1
          refine wp_value (s := Op.unary .neg (a.eval x)) rfl (v := .int .i64 (IntKind.i64.wrap ((IT.a2 1 (.lit 0) (.lit zz)).den E))) (w' := w) (by rw [h1]; rfl) (hset _ _ _ rfl (wrE_spec hz) (Ext.refl w))
      · rename_i tt _
        split at hz
        · rename_i hb
          injection hz with hz
          subst hz
          obtain ⟨⟨l1, r1, h1, h2, h3⟩, _⟩ := hxv
          simp only [Chunk.holds] at h2
          simp only [chunks] at h3
          subst h2 h3
          injection h1 with h1
          have b1 := tiny_spec (E := E) hb
          have hw : IntKind.i64.wrap (-(tt.den E)) = -(tt.den E) := IntWalk.i64_in _ (by omega)
          refine wp_value (s := Op.unary .neg (a.eval x)) rfl (v := .int .i64 (-(tt.den E))) (w' := w) (by rw [h1]; simp [Op.unary, Op.intArith, hw]) ?_
          exact hset _ _ _ rfl ⟨⟨_, [], rfl, rfl, rfl⟩, rfl⟩ (Ext.refl w)
        · obtain ⟨⟨l1, r1, h1, h2, h3⟩, _⟩ := hxv
          simp only [Chunk.holds] at h2
          simp only [chunks] at h3
          subst h2 h3
          injection h1 with h1
          refine wp_value (s := Op.unary .neg (a.eval x)) rfl (v := .int .i64 (IntKind.i64.wrap ((IT.a2 1 (.lit 0) tt).den E))) (w' := w) (by rw [h1]; rfl) (hset _ _ _ rfl (wrE_spec hz) (Ext.refl w))
      · rename_i k tt _ _
        obtain ⟨⟨l1, r1, h1, h2, h3⟩, _⟩ := hxv
        simp only [Chunk.holds] at h2
        simp only [chunks] at h3
        subst h2 h3
        injection h1 with h1
        refine wp_value (s := Op.unary .neg (a.eval x)) rfl (v := .int k (k.wrap ((IT.a2 1 (.lit 0) tt).den E))) (w' := w) (by rw [h1]; rfl) (hset _ _ _ rfl (wrE_spec hz) (Ext.refl w))
      · cases hz
    · cases h
  | convert s d x =>
    simp only [opE] at h
    split at h
    · rename_i u hx
      obtain ⟨z, hz, rfl⟩ := Option.map_eq_some_iff.1 h
      have hxv := opnd_spec (E := E) (β := β) (w := w) hl hx
      unfold cvtE at hz
      split at hz
      · rename_i k0 tt
        split at hz
        · rename_i k hk
          obtain ⟨⟨us, hu1⟩, hu2⟩ := hC.cnv s d k hk
          obtain ⟨⟨l1, r1, h1, h2, h3⟩, _⟩ := hxv
          simp only [Chunk.holds] at h2
          simp only [chunks] at h3
          subst h2 h3
          injection h1 with h1
          refine wp_value (s := convert s d (a.eval x)) rfl (v := .int k (k.wrap (tt.den E))) (w' := w) ?_ (hset _ _ _ rfl (wrE_spec hz) (Ext.refl w))
          rw [h1]
          unfold convert
          simp only [Sem.run_bind, run_underlying hu1, run_underlying hu2, Result.andThen_ok]
          rfl
        · cases hz
      · cases hz
    · cases h
  | fieldAddr t x k =>
    simp only [opE] at h
    split at h
    · rename_i y off d hx hd
      split at h
      rotate_left
      · cases h
      rename_i hlt
      injection h with h
      subst h
      have he : a.eval x = .pointer (some ⟨β y, off, none⟩) := (opndP_spec (E := E) (β := β) (w := w) hl hx).1
      refine wp_value (s := Instr.fieldAt t (a.eval x) k) rfl (by rw [he]; exact hC.fld t k d hd w _) ?_
      exact hset _ _ _ rfl (by rw [add_addr]; show _ = pv (β y) (off + d); rw [pv_lt hlt]) (Ext.refl w)
    · cases h
  | indexAddr t x i =>
    simp only [opE] at h
    obtain ⟨⟨y, off⟩, hy, rfl⟩ := Option.map_eq_some_iff.1 h
    obtain ⟨k1, k2, _⟩ := idxE_sound (E := E) (β := β) (w := w) hC hl hy
    refine wp_value (s := Instr.indexAt t (a.eval x) (a.eval i)) rfl k2 ?_
    exact hset _ _ _ rfl (by show _ = pv (β y) off; rw [pv_lt k1]) (Ext.refl w)
  | index t x i =>
    simp only [opE] at h
    split at h
    · rename_i cs k ti hx hi
      obtain ⟨vs, hxv, hcs⟩ := opnd_spec (E := E) (β := β) (w := w) hl hx
      obtain ⟨⟨l1, r1, h1, h2, h3⟩, _⟩ := opnd_spec (E := E) (β := β) (w := w) hl hi
      simp only [Chunk.holds] at h2
      simp only [chunks] at h3
      subst h2 h3
      injection h1 with h1
      split at h
      · rename_i z len e hz he
        rw [IT.cl_spec hz] at h1
        split at h
        · rename_i bb size ha
          obtain ⟨hag, hso, hn1⟩ := hC.ag e bb size ha w
          split at h
          · rename_i hb
            simp only [Bool.and_eq_true, decide_eq_true_iff] at hb
            obtain ⟨y, hy, rfl⟩ := Option.map_eq_some_iff.1 h
            unfold partV at hy
            split at hy
            · rename_i l0 r hsp
              obtain ⟨_, _, _, hr⟩ := splitC_spec _ _ _ _ _ hsp hcs
              split at hy
              · rename_i l r' hsp2
                obtain ⟨_, hsz, hlc, _⟩ := splitC_spec _ _ _ _ _ hsp2 hr
                injection hy with hy
                subst hy
                have hlen := chunks_len hlc
                rw [hsz] at hlen
                obtain ⟨us, hus⟩ : ∃ us, us = (vs.drop (z.toNat * size)).take size := ⟨_, rfl⟩
                rw [← hus] at hlc hlen
                have hidx : ∀ v, (part e vs.toArray (z.toNat * size)).run P w = .ok v w → (Instr.index t (a.eval x) (a.eval i)).run P w = .ok v w := by
                  intro v hv
                  rw [hxv, h1]
                  unfold Instr.index
                  have hlt : (0 : Int) ≤ z ∧ z < (len : Int) := hb
                  simp only [asIntOf, Sem.run_bind, Sem.run_pure, Result.andThen_ok, run_underlying (hC.arr t len e he), if_pos hlt, hso]
                  exact hv
                cases bb with
                | true =>
                  refine wp_value (s := Instr.index t (a.eval x) (a.eval i)) rfl (hidx (.agg us.toArray) ?_) (hset _ _ _ rfl ⟨us, rfl, hlc⟩ (Ext.refl w))
                  unfold part
                  simp only [Sem.run_bind, hag, Result.andThen_ok, if_true, hso, Sem.run_pure]
                  rw [hus]
                  simp
                | false =>
                  have hn := hn1 rfl
                  subst hn
                  obtain ⟨v, rfl⟩ : ∃ v, us = [v] := by
                    match us, hlen with
                    | [v], _ => exact ⟨v, rfl⟩
                  refine wp_value (s := Instr.index t (a.eval x) (a.eval i)) rfl (hidx v ?_) (hset _ _ _ rfl ⟨hlc, cells_of_cellish (chunks_cellish hlc v (by simp))⟩ (Ext.refl w))
                  have hv : vs.toArray[z.toNat * 1]? = some v := by
                    have := congrArg (fun l => l[0]?) hus
                    simp only [List.getElem?_take, List.getElem?_drop] at this
                    simpa using this.symm
                  unfold part
                  simp only [Sem.run_bind, hag, Result.andThen_ok, Bool.false_eq_true, if_false, hv, Sem.run_pure]
              · cases hy
            · cases hy
          · cases h
        · cases h
      · cases h
    · cases h
  | extract x i =>
    simp only [opE] at h
    split at h
    · rename_i l hx
      split at h
      · rename_i p hp
        injection h with h
        subst h
        obtain ⟨vs, he, ht⟩ := opnd_spec (E := E) (β := β) (w := w) hl hx
        have hti : ∀ (l : List (Bool × List Chunk)) (vs : List Value) (i : Nat) p, tupAll E w l vs → l[i]? = some p → ∃ v, vs[i]? = some v ∧ one E w p v := by
          intro l
          induction l with
          | nil => intro vs i p _ h; simp at h
          | cons q l ih =>
            intro vs i p ⟨v, r, hv, ho, hr⟩ hp
            subst hv
            match i, hp with
            | 0, hp => injection hp with hp; subst hp; exact ⟨v, rfl, ho⟩
            | i + 1, hp => exact ih r i p hr hp
        obtain ⟨v, hvi, ho⟩ := hti l vs i p ht hp
        refine wp_value (s := Instr.extract (a.eval x) i) rfl (v := v) (w' := w) (by rw [he]; simp [Instr.extract, hvi]) ?_
        exact hset _ _ _ rfl ho (Ext.refl w)
      · cases h
    · cases h
  | call c =>
    simp only [opE] at h
    obtain ⟨r, hr, rfl⟩ := Option.map_eq_some_iff.1 h
    unfold callE at hr
    split at hr
    · rename_i f hf
      split at hr
      · rename_i g hg
        split at hr
        · rename_i xs has
          obtain ⟨⟨l1, r1, h1, h2, h3⟩, _⟩ := opnd_spec (E := E) (β := β) (w := w) hl hg
          simp only [Chunk.holds] at h2
          simp only [chunks] at h3
          subst h2 h3
          injection h1 with h1
          obtain ⟨k1, k2⟩ := opnds_spec (E := E) (β := β) (w := w) hl has
          obtain ⟨fn, hfn, hname, hbody⟩ := hC.body g xs _ G r hr
          have hb2 : fn.body ≠ none := by intro e; rw [e] at hbody; cases hbody
          have hcall := hC.calls g xs _ G r hr hG β w _ hwk k1 k2 (fun i x off cs hi hm => by
            rw [List.getElem?_map, hi] at hm
            simp only [Option.map_some, Option.some.injEq, memOf] at hm
            split at hm
            · cases hm
            · exact (hv x cs hm).2)
          unfold Oper.wp
          have harr : (c.args.toList.map a.eval).toArray = c.args.map a.eval := by
            apply Array.toList_inj.1
            simp
          have hres : (execOp a.eval ⟨dst, .call c, ty, pos, after, guard⟩).run P w = .ok (.enter g (c.args.toList.map a.eval).toArray) w := by
            simp only [execOp, resolve, hf, h1, Deferred.ofValue]
            rw [harr]
            simp [invoke, callFunc, hfn, hname, hb2]
          rw [hres, Oper.upon_enter]
          refine hcall.mono ?_
          rintro e w' ⟨v, rfl, hv, ex⟩
          exact hset _ _ _ rfl hv ex
        · cases hr
      · cases hr
    · rename_i hf
      split at hr
      · rename_i t ts x hat har
        have hargs : c.args = #[x] := by apply Array.toList_inj.1; simpa using har
        have hat0 : c.argTypes[0]? = some t := by rw [← Array.getElem?_toList, hat]; rfl
        have fin : (∃ el, P.underlying t = some (.slice el)) → (∃ (ao : Option Addr) (n cp : Nat) (m : IT), a.eval x = .slice ao n cp ∧ r = .val false [.n .i64 m] ∧ m.den E = (n : Int)) → Oper.wp P ⟨dst, .call c, ty, pos, after, guard⟩ a w K Q := by
          rintro ⟨el, hel⟩ ⟨ao, n, cp, m, hev, rfl, hm⟩
          have hres : (execOp a.eval ⟨dst, .call c, ty, pos, after, guard⟩).run P w = .ok (.value (.int .i64 (n : Int))) w := by
            simp [execOp, resolve, hf, invoke, hargs, builtin, Builtin.len_, hat0, hev, run_underlying hel, goInt]
          unfold Oper.wp
          rw [hres]
          simp only [Oper.upon_value]
          exact hset _ _ _ rfl ⟨⟨_, [], rfl, congrArg (fun z => [Value.int .i64 z]) hm.symm, rfl⟩, rfl⟩ (Ext.refl w)
        split at hr
        · rename_i ch hx
          split at hr
          · rename_i hsl
            refine fin (hC.slc t hsl) ?_
            obtain ⟨⟨l1, r1, h1, h2, h3⟩, _⟩ := opnd_spec (E := E) (β := β) (w := w) hl hx
            simp only [chunks] at h3
            subst h3
            unfold lenE at hr
            split at hr
            · rename_i tt _
              injection hr with hr
              obtain ⟨u, rfl, ⟨ao, cp, rfl, _⟩, _⟩ := h2
              injection h1 with h1
              exact ⟨ao, _, cp, _, h1, hr.symm, rfl⟩
            · rename_i i
              injection hr with hr
              obtain ⟨u, rfl, ao, cp, rfl, _⟩ := h2
              injection h1 with h1
              exact ⟨ao, _, cp, _, h1, hr.symm, rfl⟩
            · injection hr with hr
              simp only [Chunk.holds] at h2
              subst h2
              injection h1 with h1
              exact ⟨none, 0, 0, _, h1, hr.symm, rfl⟩
            · cases hr
          · split at hr
            · rename_i hst
              obtain ⟨⟨l1, r1, h1, h2, h3⟩, _⟩ := opnd_spec (E := E) (β := β) (w := w) hl hx
              simp only [chunks] at h3
              subst h3
              have fin2 : ∀ (u : List UInt8) (m : IT), a.eval x = .string ⟨u.toArray⟩ → r = .val false [.n .i64 m] → m.den E = (u.length : Int) → Oper.wp P ⟨dst, .call c, ty, pos, after, guard⟩ a w K Q := by
                intro u m hev hrr hm
                subst hrr
                have hres : (execOp a.eval ⟨dst, .call c, ty, pos, after, guard⟩).run P w = .ok (.value (.int .i64 (u.length : Int))) w := by
                  have hsz : (⟨u.toArray⟩ : ByteArray).size = u.length := by simp [ByteArray.size]
                  simp [execOp, resolve, hf, invoke, hargs, builtin, Builtin.len_, hat0, hev, run_underlying (hC.strT t hst), goInt, hsz]
                unfold Oper.wp
                rw [hres]
                simp only [Oper.upon_value]
                exact hset _ _ _ rfl ⟨⟨_, [], rfl, congrArg (fun z => [Value.int .i64 z]) hm.symm, rfl⟩, rfl⟩ (Ext.refl w)
              unfold slenE at hr
              split at hr
              · injection hr with hr
                obtain ⟨rfl, _⟩ := h2
                injection h1 with h1
                exact fin2 _ _ h1 hr.symm rfl
              · injection hr with hr
                obtain ⟨rfl, _⟩ := h2
                injection h1 with h1
                exact fin2 _ _ h1 hr.symm rfl
              · cases hr
            · cases hr
        · rename_i y off hx
          split at hr
          · rename_i hb
            rw [Bool.and_eq_true, decide_eq_true_iff] at hb
            obtain ⟨e, he⟩ := Option.isSome_iff_exists.1 hb.2
            injection hr with hr
            have hv' : a.eval x = pv (β y) off := opnd_spec (E := E) (β := β) (w := w) hl hx
            refine fin ⟨e, hC.row t e he⟩ ⟨some ⟨β y, 0, none⟩, off - big, off - big, _, ?_, hr.symm, rfl⟩
            rw [hv']
            unfold pv
            rw [if_neg (by omega)]
          · cases hr
        · cases hr
      · cases hr
    · rename_i hf
      split at hr
      · rename_i t u x y hat har
        split at hr
        · rename_i ss l hx hy
          split at hr
          · rename_i hc
            simp only [Bool.and_eq_true, beq_iff_eq, decide_eq_true_iff] at hc
            obtain ⟨hsl, rfl, hl2⟩ := hc
            injection hr with hr
            subst hr
            have hargs : c.args = #[x, y] := by apply Array.toList_inj.1; simpa using har
            have hats : c.argTypes = #[t, t] := by apply Array.toList_inj.1; simpa using hat
            obtain ⟨⟨l1, r1, h1, h2, h3⟩, _⟩ := opnd_spec (E := E) (β := β) (w := w) hl hx
            simp only [Chunk.holds] at h2
            simp only [chunks] at h3
            subst h2 h3
            injection h1 with h1
            obtain ⟨⟨l2, r2, j1, ⟨v, rfl, j2, j4⟩, j3⟩, _⟩ := opnd_spec (E := E) (β := β) (w := w) hl hy
            simp only [chunks] at j3
            subst j3
            injection j1 with j1
            obtain ⟨z, w', k1, k2, k3⟩ := hC.apd t hsl ty w _ v (Nat.le_trans j4 hl2) j2
            have hres : (execOp a.eval ⟨dst, .call c, ty, pos, after, guard⟩).run P w = .ok (.value z) w' := by
              simp [execOp, resolve, hf, invoke, hargs, hats, builtin, h1, j1, k1]
            unfold Oper.wp
            rw [hres]
            simp only [Oper.upon_value]
            refine hset _ _ _ rfl ⟨⟨[z], [], rfl, ⟨z, rfl, k2, j4⟩, rfl⟩, ?_⟩ k3
            obtain ⟨ao, cap, rfl, _⟩ := k2
            rfl
          · cases hr
        · cases hr
      · cases hr
    · rename_i hf
      obtain ⟨x, y, k, s, r1, hargs, e1, e2, rfl⟩ := mmE_spec (E := E) (β := β) (w := w) hl hr
      have hres : (execOp a.eval ⟨dst, .call c, ty, pos, after, guard⟩).run P w = .ok (.value (.int k (if r1.den E < s.den E then r1.den E else s.den E))) w := by
        simp [execOp, resolve, hf, invoke, hargs, builtin, Builtin.min_, Builtin.min2, e1, e2]
      unfold Oper.wp
      rw [hres]
      simp only [Oper.upon_value]
      exact hset _ _ _ rfl (num_holds (by rw [IT.fold_den]; rfl)) (Ext.refl w)
    · rename_i hf
      obtain ⟨x, y, k, s, r1, hargs, e1, e2, rfl⟩ := mmE_spec (E := E) (β := β) (w := w) hl hr
      have hres : (execOp a.eval ⟨dst, .call c, ty, pos, after, guard⟩).run P w = .ok (.value (.int k (if r1.den E > s.den E then r1.den E else s.den E))) w := by
        simp [execOp, resolve, hf, invoke, hargs, builtin, Builtin.max_, Builtin.max2, e1, e2]
      unfold Oper.wp
      rw [hres]
      simp only [Oper.upon_value]
      exact hset _ _ _ rfl (num_holds (by rw [IT.fold_den]; rfl)) (Ext.refl w)
    · cases hr
  | _ => simp [opE] at h
end

end Go.Proofs.Ytdleiiboffkidaa
end
