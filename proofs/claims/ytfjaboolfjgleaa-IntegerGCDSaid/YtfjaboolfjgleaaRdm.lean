/-
  The long division of the reference: what its loops keep.
-/
import Derived.Test.YtfjaboolfjgleaaRby
import Derived.Test.YtfjaboolfjgleaaDivok
namespace Go.Proofs.Ytfjaboolfjgleaa
open Go.RowKit

/-- An append of which it is known what it leaves. -/
theorem wpList_append_run {P : Program} {w : World} {ops : Array Oper} {rest : List Oper} {o : Oper} {a : Act} {Q : Exit → Act → World → Prop} (hgd : o.guard = none) (s x : Operand) (t : TypeId)
    (ho : o.op = .call { callee := .builtin .append, args := #[s, x], argTypes := #[t, t] }) {vs vx v' : Value} {w' : World} (hs : a.eval s = vs) (hx : a.eval x = vx)
    (hrun : (Builtin.append_ #[t, t] o.type #[vs, vx]).run P w = .ok v' w') (h : wpList P ops Q rest (a.put o.dst v') w') : wpList P ops Q (o :: rest) a w := by
  refine wpList_plain hgd fun K hK => ?_
  unfold Oper.wp
  simp [execOp, ho, resolve, invoke, builtin, hs, hx, hrun, Result.andThen]
  exact hK _ _ h

/-- What the outer loop of parts keeps. -/
def PartRel (w : World) (g : Nat) (us : List Nat) (V k R : Nat) (qs : List Nat) (wr : World) : Prop :=
  qs.length = us.length ∧ Dig qs ∧ Blk wr g qs ∧ Ext w wr ∧ val (us.drop k) = V * val (qs.drop k) + R ∧ R < V
section
variable {w : World} {g : Nat} {us : List Nat} {V k R : Nat} {qs : List Nat} {wr : World}
theorem PartRel.step (h : PartRel w g us V (k + 1) R qs wr) (hg : w.heap.size ≤ g) (hk : k < us.length) (dx : Dig us) {w2 : World} (e : Ext wr w2) (R' q R2 : Nat) (hR : R' = us.getD k 0 + 1000000000 * R) (hq : q = R' / V) (hr : R2 = R' % V) {Y : Int} (hY : Y = q) :
    PartRel w g us V k R2 (qs.set k q) (w2.setCell ⟨g, k, none⟩ (.int .u32 Y)) ∧ q < 1000000000 := by
  obtain ⟨h1, h2, h3, h4, h5, h6⟩ := h
  have hx := dx k
  have hq1 : q < 1000000000 := by rw [hq]; exact Nat.div_lt_of_lt_mul (by rw [Nat.mul_comm]; omega)
  have hr1 : R2 < V := by rw [hr]; exact Nat.mod_lt _ (by omega)
  refine ⟨⟨by simpa using h1, h2.set k hq1, (h3.ext e).set' k q (by omega) hY, (h4.trans e).setCell (p := ⟨g, k, none⟩) hg _, ?_, hr1⟩, hq1⟩
  have e1 := val_drop us k hk
  have e2 := val_drop (qs.set k q) k (by simpa [h1] using hk)
  have e3 : (qs.set k q).getD k 0 = q := by simp [List.getD_eq_getElem?_getD, h1, hk]
  have e4 : (qs.set k q).drop (k + 1) = qs.drop (k + 1) := by rw [List.drop_set_of_lt (by omega)]
  have e5 := Nat.div_add_mod R' V
  rw [← hq, ← hr] at e5
  rw [e3, e4] at e2
  rw [e1, e2, h5]
  generalize val (qs.drop (k + 1)) = D
  generalize us.getD k 0 = x at *
  have e6 : V * (q + 1000000000 * D) = 1000000000 * (V * D) + V * q := by rw [Nat.mul_add, Nat.mul_left_comm]; omega
  omega
theorem PartRel.done (h : PartRel w g us V 0 R qs wr) : val qs = val us / V ∧ R = val us % V := by
  obtain ⟨h1, h2, h3, h4, h5, h6⟩ := h
  rw [List.drop_zero, List.drop_zero] at h5
  have := (Nat.div_mod_unique (a := val us) (d := val qs) (c := R) (b := V) (by omega)).2 ⟨by omega, h6⟩
  exact ⟨this.1.symm, this.2.symm⟩
end
/-- The digit's estimate is not too small. -/
theorem ref_est {R' V L : Nat} (hV : (limbs V).length = L + 1) (hR : R' < 1000000000 * V) :
    R' / V ≤ val ((limbs R').drop L) / val ((limbs V).drop L) ∧ R' / V ≤ 999999999 ∧ 0 < val ((limbs V).drop L) ∧ val ((limbs V).drop L) < 1000000000 ∧ (limbs R').length ≤ L + 2 := by
  have hVp : 0 < V := by omega
  have hl : (limbs R').length ≤ L + 2 := by
    have h1 := lt_of_limbs_len (n := V) (k := L + 1) (by omega)
    refine limbs_len_le ?_
    rw [Nat.pow_succ]; omega
  have t0 := limbs_last V (by intro e; rw [e] at hV; simp at hV)
  rw [hV, Nat.add_sub_cancel] at t0
  have hd := val_drop (limbs V) L (by omega)
  rw [List.drop_of_length_le (by omega : (limbs V).length ≤ L + 1)] at hd
  simp only [val] at hd
  have ht := dig_limbs V L
  have s1 := val_split (limbs V) L (by omega)
  rw [val_limbs] at s1
  refine ⟨?_, ?_, by omega, by omega, hl⟩
  · rw [Nat.le_div_iff_mul_le (by omega)]
    have hq := Nat.div_mul_le_self R' V
    rcases Nat.lt_or_ge L (limbs R').length with hlt | hge
    · have s2 := val_split (limbs R') L (by omega)
      rw [val_limbs] at s2
      have b2 := val_lt ((dig_limbs R').take L)
      rw [List.length_take, Nat.min_eq_left (by omega)] at b2
      generalize R' / V = Q at *
      generalize val ((limbs V).drop L) = T at *
      generalize val ((limbs R').drop L) = H at *
      generalize 1000000000 ^ L = p at *
      have e1 : Q * (p * T) ≤ Q * V := Nat.mul_le_mul_left _ (by omega)
      have e2 : Q * T * p < (H + 1) * p := by
        rw [Nat.mul_assoc, Nat.mul_comm T p, Nat.add_mul, Nat.mul_comm H p]; omega
      have := Nat.lt_of_mul_lt_mul_right e2
      omega
    · have hlt : R' < V := by
        refine lt_of_len ?_
        omega
      rw [Nat.div_eq_of_lt hlt, Nat.zero_mul]; exact Nat.zero_le _
  · have : R' / V < 1000000000 := by
      rw [Nat.div_lt_iff_lt_mul hVp]; exact hR
    omega
/-- The upper limbs of the part, as the reference reads them. -/
theorem ref_high {R' L : Nat} (hl : (limbs R').length ≤ L + 2) :
    val ((limbs R').drop L) = (if L + 1 < (limbs R').length then (limbs R').getD (L + 1) 0 * 1000000000 else 0) + (if L + 1 ≤ (limbs R').length then (limbs R').getD L 0 else 0) := by
  by_cases h1 : L + 1 ≤ (limbs R').length
  · rw [if_pos h1, val_drop _ L (by omega)]
    by_cases h2 : L + 1 < (limbs R').length
    · rw [if_pos h2, val_drop _ (L + 1) (by omega), List.drop_of_length_le (by omega)]
      simp only [val]; omega
    · rw [if_neg h2, List.drop_of_length_le (by omega)]
      simp only [val]; omega
  · rw [if_neg h1, if_neg (by omega), List.drop_of_length_le (by omega)]
    rfl
/-- What the inner loop of parts lowers. -/
theorem low_digit {R' V d : Nat} (hV : 0 < V) : (R' < V * d ↔ R' / V < d) := by
  rw [Nat.div_lt_iff_lt_mul hV, Nat.mul_comm]
/-- What is scaled, and back. -/
theorem scaled {m n s : Nat} (hs : 0 < s) : m * s / (n * s) = m / n ∧ m * s % (n * s) / s = m % n := by
  rw [Nat.mul_div_mul_right _ _ hs, Nat.mul_mod_mul_right, Nat.mul_div_cancel _ hs]
  exact ⟨rfl, rfl⟩

end Go.Proofs.Ytfjaboolfjgleaa
