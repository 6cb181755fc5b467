/-
  DivMod as a function of two integers.
-/
import Derived.Test.YtfjaboolfjgleaaDivok
import Derived.Test.YtfjaboolfjgleaaDivz
namespace Go.Proofs.Ytfjaboolfjgleaa
open Go.RowKit

def dq (a b : Int) : Int := if b = 0 then 0 else a.fdiv b
def dr (a b : Int) : Int := if b = 0 then 0 else a.fmod b
def de (b : Int) : Int := if b = 0 then 6 else 0
theorem quo_unique {a b q r q' r' : Int} (h : a = q * b + r) (k : a = q' * b + r') (hr : 0 ≤ r ∧ r < b ∨ b < r ∧ r ≤ 0) (kr : 0 ≤ r' ∧ r' < b ∨ b < r' ∧ r' ≤ 0) : q = q' ∧ r = r' := by
  have hq : q = q' := by
    rcases Int.lt_trichotomy q q' with h1 | h1 | h1
    · exfalso
      obtain ⟨n, rfl⟩ : ∃ n : Int, q' = q + 1 + n := ⟨q' - q - 1, by omega⟩
      have hn : 0 ≤ n := by omega
      rw [Int.add_mul, Int.add_mul, Int.one_mul] at k
      rcases hr with hr | hr
      · have := Int.mul_nonneg hn (show 0 ≤ b by omega); omega
      · have := Int.mul_nonpos_of_nonneg_of_nonpos hn (show b ≤ 0 by omega); omega
    · exact h1
    · exfalso
      obtain ⟨n, rfl⟩ : ∃ n : Int, q = q' + 1 + n := ⟨q - q' - 1, by omega⟩
      have hn : 0 ≤ n := by omega
      rw [Int.add_mul, Int.add_mul, Int.one_mul] at h
      rcases hr with hr | hr
      · have := Int.mul_nonneg hn (show 0 ≤ b by omega); omega
      · have := Int.mul_nonpos_of_nonneg_of_nonpos hn (show b ≤ 0 by omega); omega
  subst hq
  exact ⟨rfl, by omega⟩
theorem fmod_range (a : Int) {b : Int} (h : b ≠ 0) : 0 ≤ a.fmod b ∧ a.fmod b < b ∨ b < a.fmod b ∧ a.fmod b ≤ 0 := by
  rcases Int.lt_or_gt_of_ne h with h1 | h1
  · right
    have e := Int.neg_fmod_neg a b
    have h2 := Int.fmod_nonneg_of_pos (-a) (show 0 < -b by omega)
    have h3 := Int.fmod_lt_of_pos (-a) (show 0 < -b by omega)
    omega
  · left
    exact ⟨Int.fmod_nonneg_of_pos a h1, Int.fmod_lt_of_pos a h1⟩
theorem dm_fn {a b q r : Int} (h : DM a b q r) (hb : b ≠ 0) : q = dq a b ∧ r = dr a b := by
  unfold dq dr
  rw [if_neg hb, if_neg hb]
  have e := Int.mul_fdiv_add_fmod a b
  exact quo_unique h.1 (by rw [Int.mul_comm]; omega) h.2.1 (fmod_range a hb)

/-- What DivMod returns, for every divisor. -/
def RetDMF (a b : Int) (w : World) (e : Ending) (w' : World) : Prop :=
  ∃ v1 v2, e = .returned (.tuple #[v1, v2, .int .i64 (de b)]) ∧ IsInt w' v1 (dq a b) ∧ IsInt w' v2 (dr a b) ∧ Ext w w'
theorem divMod_fn (w : World) (v1 v2 : Value) (a b : Int) (h : IsInt w v1 a) (k : IsInt w v2 b) (l1 : Sm a) (l2 : Sm b) :
    Calls Try.prog 33 #[v1, v2] w (RetDMF a b w) := by
  by_cases hb : b = 0
  · subst hb
    refine (divMod_zero w v1 v2 a h k).mono ?_
    rintro e w' ⟨u1, u2, rfl, h1, h2, h3⟩
    exact ⟨u1, u2, rfl, h1, h2, h3⟩
  · refine (divMod_any w v1 v2 a b h k l1 l2 hb).mono ?_
    rintro e w' ⟨u1, u2, q, r, rfl, h1, h2, h3, h4⟩
    obtain ⟨rfl, rfl⟩ := dm_fn h3 hb
    exact ⟨u1, u2, by unfold de; rw [if_neg hb], h1, h2, h4⟩
theorem dq_dr {a b : Int} (hb : b ≠ 0) : dq a b * b + dr a b = a ∧ (0 ≤ dr a b ∧ dr a b < b ∨ b < dr a b ∧ dr a b ≤ 0) := by
  unfold dq dr
  rw [if_neg hb, if_neg hb]
  have e := Int.mul_fdiv_add_fmod a b
  exact ⟨by rw [Int.mul_comm]; exact e, fmod_range a hb⟩
theorem dr_small {a b : Int} (l : Sm b) : Sm (dr a b) := by
  by_cases hb : b = 0
  · subst hb; exact l
  · have := (dq_dr (a := a) hb).2
    unfold Sm at *
    exact Nat.le_trans (limbs_len_mono (by omega)) l
theorem sgn_self (a : Int) : sgn (decide (a < 0)) a.natAbs = a := by
  by_cases h : a < 0
  · rw [decide_eq_true h]; simp [sgn]; omega
  · rw [decide_eq_false h]; simp [sgn]; omega
theorem dm_exists (a : Int) {b : Int} (hb : b ≠ 0) : ∃ q r, DM a b q r := by
  have ha := sgn_self a
  have hb' := sgn_self b
  by_cases h : decide (a < 0) = decide (b < 0) ∨ a.natAbs % b.natAbs = 0
  · have := dm_same (decide (a < 0)) (decide (b < 0)) a.natAbs b.natAbs (by omega) h
    rw [ha, hb'] at this
    exact ⟨_, _, this⟩
  · have := dm_other (decide (a < 0)) (decide (b < 0)) a.natAbs b.natAbs (by omega) (fun e => h (.inl e)) (fun e => h (.inr e))
    rw [ha, hb'] at this
    exact ⟨_, _, this⟩
theorem dq_abs (a b : Int) : (dq a b).natAbs ≤ a.natAbs := by
  by_cases hb : b = 0
  · unfold dq; rw [if_pos hb]; simp
  · obtain ⟨q, r, h⟩ := dm_exists a hb
    rw [← (dm_fn h hb).1]
    exact h.2.2.1
theorem dr_abs (a : Int) {b : Int} (hb : b ≠ 0) : (dr a b).natAbs < b.natAbs := by
  obtain ⟨q, r, h⟩ := dm_exists a hb
  rw [← (dm_fn h hb).2]
  exact h.2.2.2

end Go.Proofs.Ytfjaboolfjgleaa
