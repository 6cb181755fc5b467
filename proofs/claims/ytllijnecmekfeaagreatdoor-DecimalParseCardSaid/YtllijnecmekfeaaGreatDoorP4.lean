/-
  Texts of this seat, joined.
-/
import Derived.Test.YtllijnecmekfeaaGreatDoorP3
import Derived.Shelf.LaysM
import Derived.Shelf.Strings.Cut
import Derived.Shelf.Strconv.AppendUint10
import Derived.Laws.IdiomStrings
import Derived.Lib.LaidTab
import Derived.Shelf.Small.Wraps
import Derived.Deep.DeepCutAuto
import Derived.LaidMore
import Derived.Stop.Joined
import Derived.Stop.LaidErr
import Derived.LaidLaws
import Derived.Handed
import Derived.Shelf.Strings.Trim
import Derived.Shelf.Strings.Prefix
import Derived.Shelf.Strings.Repeat
import Derived.Shelf.Strconv.Itoa4
section
set_option maxRecDepth 100000
namespace Go.Proofs.YtllijnecmekfeaaGreatDoor
open Go.RowKit
def tDM : Tree := .ite (.eq (.a1 4 (.var 1)) (.lit 0)) (.leaf [(true, [.int (.lit 0) 0]), (true, [.int (.lit 0) 0]), (false, [.n .i64 (.lit 6)])]) (.ite (.lt (.var 0) (.lit 0)) (.ite (.lt (.var 1) (.lit 0)) (.ite (.lt (.lit 0) (.a1 4 (.a2 10 (.var 0) (.var 1)))) (.leaf [(true, [.int (.a1 5 (.a2 9 (.var 0) (.var 1))) 400000]), (true, [.int (.a1 0 (.a1 5 (.a2 10 (.var 0) (.var 1)))) 400000]), (false, [.n .i64 (.lit 0)])]) (.leaf [(true, [.int (.a1 5 (.a2 9 (.var 0) (.var 1))) 400000]), (true, [.int (.a1 0 (.a1 5 (.a2 10 (.var 0) (.var 1)))) 400000]), (false, [.n .i64 (.lit 0)])])) (.ite (.lt (.lit 0) (.a1 4 (.a2 10 (.var 0) (.var 1)))) (.leaf [(true, [.int (.a2 1 (.a1 0 (.a1 5 (.a2 9 (.var 0) (.var 1)))) (.lit 1)) 400001]), (true, [.int (.a2 0 (.a1 0 (.a1 5 (.a2 10 (.var 0) (.var 1)))) (.var 1)) 400001]), (false, [.n .i64 (.lit 0)])]) (.leaf [(true, [.int (.a1 0 (.a1 5 (.a2 9 (.var 0) (.var 1)))) 400000]), (true, [.int (.a1 0 (.a1 5 (.a2 10 (.var 0) (.var 1)))) 400000]), (false, [.n .i64 (.lit 0)])]))) (.ite (.lt (.var 1) (.lit 0)) (.ite (.lt (.lit 0) (.a1 4 (.a2 10 (.var 0) (.var 1)))) (.leaf [(true, [.int (.a2 1 (.a1 0 (.a1 5 (.a2 9 (.var 0) (.var 1)))) (.lit 1)) 400001]), (true, [.int (.a2 0 (.a1 5 (.a2 10 (.var 0) (.var 1))) (.var 1)) 400001]), (false, [.n .i64 (.lit 0)])]) (.leaf [(true, [.int (.a1 0 (.a1 5 (.a2 9 (.var 0) (.var 1)))) 400000]), (true, [.int (.a1 5 (.a2 10 (.var 0) (.var 1))) 400000]), (false, [.n .i64 (.lit 0)])])) (.ite (.lt (.lit 0) (.a1 4 (.a2 10 (.var 0) (.var 1)))) (.leaf [(true, [.int (.a1 5 (.a2 9 (.var 0) (.var 1))) 400000]), (true, [.int (.a1 5 (.a2 10 (.var 0) (.var 1))) 400000]), (false, [.n .i64 (.lit 0)])]) (.leaf [(true, [.int (.a1 5 (.a2 9 (.var 0) (.var 1))) 400000]), (true, [.int (.a1 5 (.a2 10 (.var 0) (.var 1))) 400000]), (false, [.n .i64 (.lit 0)])]))))
theorem dmZ {a b q r : Int} (hb : b ≠ 0) (h1 : a = q * b + r) (h2 : 0 ≤ r ∧ r < b ∨ b < r ∧ r ≤ 0) : q = dq a b ∧ r = dr a b := by
  obtain ⟨k1, k2⟩ := dq_dr (a := a) hb
  exact quo_unique h1 k1.symm h2 k2
theorem parts_eq (a b : Int) (hb : b ≠ 0) : (b.natAbs : Int) * ((a.natAbs / b.natAbs : Nat) : Int) + ((a.natAbs % b.natAbs : Nat) : Int) = (a.natAbs : Int) ∧ ((a.natAbs % b.natAbs : Nat) : Int) < (b.natAbs : Int) := by
  have e := Nat.div_add_mod a.natAbs b.natAbs
  have hlt := Nat.mod_lt a.natAbs (show 0 < b.natAbs by omega)
  refine ⟨?_, by omega⟩
  rw [← Int.natCast_mul, ← Int.natCast_add, e]
theorem rdm_same {a b : Int} (hb : b ≠ 0) (h : 0 ≤ a ∧ 0 < b) : ((a.natAbs / b.natAbs : Nat) : Int) = dq a b ∧ ((a.natAbs % b.natAbs : Nat) : Int) = dr a b := by
  obtain ⟨e, hlt⟩ := parts_eq a b hb
  generalize ((a.natAbs / b.natAbs : Nat) : Int) = Q at *
  have h0 : 0 ≤ ((a.natAbs % b.natAbs : Nat) : Int) := by omega
  generalize ((a.natAbs % b.natAbs : Nat) : Int) = R at *
  have hN : (b.natAbs : Int) = b := by omega
  rw [hN] at e hlt
  exact dmZ hb (by rw [Int.mul_comm]; omega) (by omega)
theorem rdm_neg {a b : Int} (hb : b ≠ 0) (h : a < 0 ∧ b < 0) : ((a.natAbs / b.natAbs : Nat) : Int) = dq a b ∧ -((a.natAbs % b.natAbs : Nat) : Int) = dr a b := by
  obtain ⟨e, hlt⟩ := parts_eq a b hb
  generalize ((a.natAbs / b.natAbs : Nat) : Int) = Q at *
  have h0 : 0 ≤ ((a.natAbs % b.natAbs : Nat) : Int) := by omega
  generalize ((a.natAbs % b.natAbs : Nat) : Int) = R at *
  have hN : (b.natAbs : Int) = -b := by omega
  rw [hN] at e hlt
  rw [Int.neg_mul] at e
  exact dmZ hb (by rw [Int.mul_comm]; omega) (by omega)
theorem rdm_np {a b : Int} (hb : b ≠ 0) (h : a < 0 ∧ 0 < b) (hr : 0 < ((a.natAbs % b.natAbs : Nat) : Int)) : -((a.natAbs / b.natAbs : Nat) : Int) - 1 = dq a b ∧ -((a.natAbs % b.natAbs : Nat) : Int) + b = dr a b := by
  obtain ⟨e, hlt⟩ := parts_eq a b hb
  generalize ((a.natAbs / b.natAbs : Nat) : Int) = Q at *
  generalize ((a.natAbs % b.natAbs : Nat) : Int) = R at *
  have hN : (b.natAbs : Int) = b := by omega
  rw [hN] at e hlt
  exact dmZ hb (by rw [Int.mul_comm, Int.mul_sub, Int.mul_neg]; omega) (by omega)
theorem rdm_np0 {a b : Int} (hb : b ≠ 0) (h : a < 0 ∧ 0 < b) (hr : ((a.natAbs % b.natAbs : Nat) : Int) = 0) : -((a.natAbs / b.natAbs : Nat) : Int) = dq a b ∧ -((a.natAbs % b.natAbs : Nat) : Int) = dr a b := by
  obtain ⟨e, hlt⟩ := parts_eq a b hb
  generalize ((a.natAbs / b.natAbs : Nat) : Int) = Q at *
  generalize ((a.natAbs % b.natAbs : Nat) : Int) = R at *
  have hN : (b.natAbs : Int) = b := by omega
  rw [hN] at e hlt
  exact dmZ hb (by rw [Int.mul_comm, Int.mul_neg]; omega) (by omega)
theorem rdm_pn {a b : Int} (hb : b ≠ 0) (h : 0 ≤ a ∧ b < 0) (hr : 0 < ((a.natAbs % b.natAbs : Nat) : Int)) : -((a.natAbs / b.natAbs : Nat) : Int) - 1 = dq a b ∧ ((a.natAbs % b.natAbs : Nat) : Int) + b = dr a b := by
  obtain ⟨e, hlt⟩ := parts_eq a b hb
  generalize ((a.natAbs / b.natAbs : Nat) : Int) = Q at *
  generalize ((a.natAbs % b.natAbs : Nat) : Int) = R at *
  have hN : (b.natAbs : Int) = -b := by omega
  rw [hN] at e hlt
  rw [Int.neg_mul] at e
  exact dmZ hb (by rw [Int.mul_comm, Int.mul_sub, Int.mul_neg]; omega) (by omega)
theorem rdm_pn0 {a b : Int} (hb : b ≠ 0) (h : 0 ≤ a ∧ b < 0) (hr : ((a.natAbs % b.natAbs : Nat) : Int) = 0) : -((a.natAbs / b.natAbs : Nat) : Int) = dq a b ∧ ((a.natAbs % b.natAbs : Nat) : Int) = dr a b := by
  obtain ⟨e, hlt⟩ := parts_eq a b hb
  generalize ((a.natAbs / b.natAbs : Nat) : Int) = Q at *
  generalize ((a.natAbs % b.natAbs : Nat) : Int) = R at *
  have hN : (b.natAbs : Int) = -b := by omega
  rw [hN] at e hlt
  rw [Int.neg_mul] at e
  exact dmZ hb (by rw [Int.mul_comm, Int.mul_neg]; omega) (by omega)
theorem len_pos_iff (n : Nat) : (0 : Int) < ((limbs n).length : Int) ↔ 0 < (n : Int) := by
  rcases Nat.eq_zero_or_pos n with h | h
  · subst h; simp [limbs_zero]
  · have := limbs_pos h; omega
theorem rdivMod_fn (w : World) (v1 v2 : Value) (a b : Int) (h : IsInt w v1 a) (k : IsInt w v2 b) (l1 : Lim 400000 a) (l2 : Lim 400000 b) :
    Calls Tryz.prog 127 #[v1, v2] w (RetDMF a b w) := by
  refine (walkZ2 (T := tDM) tabR1_ok Tryz.func127 (by kernel_rfl) (by decide +kernel) (by decide +kernel) h k l1 l2).mono ?_
  rintro e w' ⟨β, v, rfl, hh, ex⟩
  have fin : ∀ (x y : IT) (l m : Nat), (AV.tup [(true, [.int x l]), (true, [.int y m]), (false, [.n .i64 (.lit 0)])]).holds (zE [a, b]) β w' v → b ≠ 0 → (x.den (zE [a, b]) = dq a b ∧ y.den (zE [a, b]) = dr a b) → RetDMF a b w (.returned v) w' := by
    intro x y l m hx hb hq
    obtain ⟨vs, rfl, u1, r1, rfl, k1, u2, r2, rfl, k2, u3, r3, rfl, k3, hn⟩ := hx
    simp only [tupAll] at hn
    subst hn
    have e3 := one_num.1 k3
    subst e3
    refine ⟨u1, u2, ?_, ?_, ?_, ex⟩
    · unfold de; rw [if_neg hb]; rfl
    · rw [← hq.1]; exact (one_int.1 k1).1
    · rw [← hq.2]; exact (one_int.1 k2).1
  have t1 : (BT.eq (.a1 4 (.var 1)) (.lit 0)).den (zE [a, b]) = decide (b = 0) := by
    show (((limbs b.natAbs).length : Int) == 0) = _
    have := len_pos_iff b.natAbs
    by_cases hb : b = 0
    · rw [decide_eq_true hb, beq_iff_eq]; omega
    · rw [decide_eq_false hb, beq_eq_false_iff_ne]; omega
  have t2 : (BT.lt (.var 0) (.lit 0)).den (zE [a, b]) = decide (a < 0) := rfl
  have t3 : (BT.lt (.var 1) (.lit 0)).den (zE [a, b]) = decide (b < 0) := rfl
  have t4 : (BT.lt (.lit 0) (.a1 4 (.a2 10 (.var 0) (.var 1)))).den (zE [a, b]) = decide (0 < ((a.natAbs % b.natAbs : Nat) : Int)) := by
    show decide ((0 : Int) < ((limbs (a.natAbs % b.natAbs)).length : Int)) = _
    rw [decide_eq_decide]
    exact len_pos_iff _
  have h0 : 0 ≤ ((a.natAbs % b.natAbs : Nat) : Int) := Int.natCast_nonneg _
  simp only [tDM, Tree.pick, t1, t2, t3, t4, decide_eq_true_iff] at hh
  split at hh
  · rename_i hb0
    have hb : b = 0 := hb0
    obtain ⟨vs, rfl, u1, r1, rfl, k1, u2, r2, rfl, k2, u3, r3, rfl, k3, hn⟩ := hh
    simp only [tupAll] at hn
    subst hn
    have e3 := one_num.1 k3
    subst e3
    subst hb
    exact ⟨u1, u2, rfl, (one_int.1 k1).1, (one_int.1 k2).1, ex⟩
  · rename_i hb0
    have hb : b ≠ 0 := hb0
    split at hh
    · split at hh
      · split at hh
        · have hq := rdm_neg (a := a) (b := b) hb (by omega); exact fin _ _ _ _ hh hb hq
        · have hq := rdm_neg (a := a) (b := b) hb (by omega); exact fin _ _ _ _ hh hb hq
      · split at hh
        · have hq := rdm_np (a := a) (b := b) hb (by omega) (by omega); exact fin _ _ _ _ hh hb hq
        · have hq := rdm_np0 (a := a) (b := b) hb (by omega) (by omega); exact fin _ _ _ _ hh hb hq
    · split at hh
      · split at hh
        · have hq := rdm_pn (a := a) (b := b) hb (by omega) (by omega); exact fin _ _ _ _ hh hb hq
        · have hq := rdm_pn0 (a := a) (b := b) hb (by omega) (by omega); exact fin _ _ _ _ hh hb hq
      · split at hh
        · have hq := rdm_same (a := a) (b := b) hb (by omega); exact fin _ _ _ _ hh hb hq
        · have hq := rdm_same (a := a) (b := b) hb (by omega); exact fin _ _ _ _ hh hb hq

end Go.Proofs.YtllijnecmekfeaaGreatDoor
end

section
set_option maxRecDepth 100000
namespace Go.Proofs.YtllijnecmekfeaaGreatDoor
open Go.RowKit
def tabDiv : List (Nat × Con) := (171, k0 (.lit 1) 3) :: (111, kII (.a2 6) max) :: (113, kII (.a2 4) fun l _ => l) :: (112, kI id id) :: tabInt
theorem tabDiv_ok {E : Env} : TabOK Tryz.prog E tabDiv := by
  refine .cons (k0_ok 1 rfl (fun w => one_calls w) (lim3 (by decide) (by decide)) ⟨_, Tryz.func171, by decide +kernel, by kernel_rfl⟩) ?_
  refine .cons (kII_ok (fun x y => ((Nat.gcd x.natAbs y.natAbs : Nat) : Int)) (fun _ _ => rfl) (fun w v1 v2 z1 z2 l m h1 h2 l1 l2 b1 b2 => divisor_calls w v1 v2 z1 z2 h1 h2 (l1.mono b1) (l2.mono b2)) (fun _ _ _ _ h k => gcd_lim h k) ⟨_, Tryz.func111, by decide +kernel, by kernel_rfl⟩) ?_
  refine .cons (kII_ok dq (fun _ _ => rfl) (fun w v1 v2 z1 z2 l m h1 h2 l1 l2 b1 b2 => quotient_calls w v1 v2 z1 z2 h1 h2 (l1.mono b1) (l2.mono b2)) (fun _ _ _ _ h _ => h.natAbs_le (dq_abs _ _)) ⟨_, Tryz.func113, by decide +kernel, by kernel_rfl⟩) ?_
  exact .cons (kI_ok id (fun _ => rfl) (fun w v1 z1 l h1 l1 b1 => clone_int_calls w v1 z1 h1 (l1.mono b1)) (fun _ _ h => h) ⟨_, Tryz.func112, by decide +kernel, by kernel_rfl⟩) tabInt_ok

theorem gcd_pos_right (x : Int) (n : Nat) (h : 0 < n) : 0 < Nat.gcd x.natAbs n := Nat.gcd_pos_of_pos_right _ h
theorem dq_cast (x : Int) {n : Nat} (h : 0 < n) : dq x (n : Int) = x / (n : Int) := dq_pos (by omega)
theorem dq_cast2 (m : Nat) {n : Nat} (h : 0 < n) : dq (m : Int) (n : Int) = ((m / n : Nat) : Int) := by rw [dq_cast _ h]; exact (Int.natCast_ediv m n).symm
theorem mul_dq (a b : Rat) : dq a.num ((Nat.gcd a.num.natAbs (b.den : Int).natAbs : Nat) : Int) * dq b.num ((Nat.gcd b.num.natAbs (a.den : Int).natAbs : Nat) : Int) = (a * b).num ∧
    dq (a.den : Int) ((Nat.gcd b.num.natAbs (a.den : Int).natAbs : Nat) : Int) * dq (b.den : Int) ((Nat.gcd a.num.natAbs (b.den : Int).natAbs : Nat) : Int) = ((a * b).den : Int) := by
  obtain ⟨h1, h2⟩ := mul_parts a b
  simp only [Int.natAbs_natCast]
  have p1 := gcd_pos_right a.num b.den b.den_pos
  have p2 := gcd_pos_right b.num a.den a.den_pos
  rw [h1, h2, dq_cast _ p1, dq_cast _ p2, dq_cast2 _ p1, dq_cast2 _ p2, Int.natCast_mul]
  exact ⟨rfl, rfl⟩

theorem mul_rat_calls (w : World) (v1 v2 : Value) (a b : Rat) (h1 : IsRat w v1 a) (h2 : IsRat w v2 b) (l1 : LimQ 100000 a) (l2 : LimQ 100000 b) :
    Calls Tryz.prog 121 #[v1, v2] w (Ret (fun v w' => IsRat w' v (a * b)) w) := by
  refine (walkQ2 (T := .leaf [(true, [.int (.a2 2 (.a2 4 (.var 0) (.a2 6 (.var 0) (.var 3))) (.a2 4 (.var 2) (.a2 6 (.var 2) (.var 1)))) 200000, .int (.a2 2 (.a2 4 (.var 1) (.a2 6 (.var 2) (.var 1))) (.a2 4 (.var 3) (.a2 6 (.var 0) (.var 3)))) 200000])])
    tabDiv_ok Tryz.func121 (by kernel_rfl) (by decide +kernel) (by decide +kernel) h1 h2 l1 l2).mono ?_
  rintro e w' ⟨β, v, rfl, hh, ex⟩
  obtain ⟨x, y, z, t, rfl, k1, _, k2, _⟩ := one_rat.1 hh
  obtain ⟨m1, m2⟩ := mul_dq a b
  refine ⟨_, rfl, ⟨x, y, z, t, rfl, ?_, ?_⟩, ex⟩
  · rw [← m1]; exact k1
  · rw [← m2]; exact k2
theorem neg_rat_calls (w : World) (v1 : Value) (a : Rat) (h1 : IsRat w v1 a) (l1 : LimQ 100000 a) :
    Calls Tryz.prog 144 #[v1] w (Ret (fun v w' => IsRat w' v (-a)) w) := by
  refine (walkQ1 (T := .leaf [(true, [.int (.a1 0 (.var 0)) 100000, .int (.var 1) 100000])])
    tabDiv_ok Tryz.func144 (by kernel_rfl) (by decide +kernel) (by decide +kernel) h1 l1).mono ?_
  rintro e w' ⟨β, v, rfl, hh, ex⟩
  obtain ⟨x, y, z, t, rfl, k1, _, k2, _⟩ := one_rat.1 hh
  exact ⟨_, rfl, ⟨x, y, z, t, rfl, k1, k2⟩, ex⟩
theorem sum_dq (a b : Rat) (N : Int) (hN : N = a.num * dq (b.den : Int) ((Nat.gcd (a.den : Int).natAbs (b.den : Int).natAbs : Nat) : Int) + b.num * dq (a.den : Int) ((Nat.gcd (a.den : Int).natAbs (b.den : Int).natAbs : Nat) : Int)) :
    dq N ((Nat.gcd N.natAbs ((Nat.gcd (a.den : Int).natAbs (b.den : Int).natAbs : Nat) : Int).natAbs : Nat) : Int) = (a + b).num ∧
    dq (a.den : Int) ((Nat.gcd (a.den : Int).natAbs (b.den : Int).natAbs : Nat) : Int) * dq (b.den : Int) ((Nat.gcd N.natAbs ((Nat.gcd (a.den : Int).natAbs (b.den : Int).natAbs : Nat) : Int).natAbs : Nat) : Int) = ((a + b).den : Int) := by
  obtain ⟨h1, h2⟩ := add_parts a b
  simp only [Int.natAbs_natCast] at hN ⊢
  have p0 : 0 < a.den.gcd b.den := Nat.gcd_pos_of_pos_right _ b.den_pos
  rw [dq_cast2 _ p0, dq_cast2 _ p0] at hN
  rw [← hN] at h1 h2
  have p1 := gcd_pos_right N (a.den.gcd b.den) p0
  have d1 : N.natAbs.gcd (a.den.gcd b.den) ∣ b.den := Nat.dvd_trans (Nat.gcd_dvd_right _ _) (Nat.gcd_dvd_right _ _)
  rw [dq_cast _ p1, dq_cast2 _ p1, dq_cast2 _ p0, h1, h2, Nat.mul_div_assoc _ d1, Int.natCast_mul]
  exact ⟨rfl, rfl⟩
theorem sum_ones (a b : Rat) (h1 : (a.den : Int) = 1) (h2 : (b.den : Int) = 1) : a.num + b.num = (a + b).num ∧ (1 : Int) = ((a + b).den : Int) := by
  obtain ⟨k1, k2⟩ := add_parts a b
  have e1 : a.den = 1 := by omega
  have e2 : b.den = 1 := by omega
  rw [e1, e2] at k1 k2
  rw [k1, k2]
  simp
theorem sum_add_calls (w : World) (v1 v2 : Value) (a b : Rat) (h1 : IsRat w v1 a) (h2 : IsRat w v2 b) (l1 : LimQ 100000 a) (l2 : LimQ 100000 b) :
    Calls Tryz.prog 119 #[v1, v2, .func (.func 120) #[] #[]] w (Ret (fun v w' => IsRat w' v (a + b)) w) := by
  refine (walkQ2f (T := .ite (.eq (.var 1) (.lit 1)) (.ite (.eq (.var 3) (.lit 1)) (.leaf [(true, [.int (.a2 0 (.var 0) (.var 2)) 100001, .int (.lit 1) 3])]) (.leaf [(true, [.int (.a2 4 (.a2 0 (.a2 2 (.var 0) (.a2 4 (.var 3) (.a2 6 (.var 1) (.var 3)))) (.a2 2 (.var 2) (.a2 4 (.var 1) (.a2 6 (.var 1) (.var 3))))) (.a2 6 (.a2 0 (.a2 2 (.var 0) (.a2 4 (.var 3) (.a2 6 (.var 1) (.var 3)))) (.a2 2 (.var 2) (.a2 4 (.var 1) (.a2 6 (.var 1) (.var 3))))) (.a2 6 (.var 1) (.var 3)))) 200001, .int (.a2 2 (.a2 4 (.var 1) (.a2 6 (.var 1) (.var 3))) (.a2 4 (.var 3) (.a2 6 (.a2 0 (.a2 2 (.var 0) (.a2 4 (.var 3) (.a2 6 (.var 1) (.var 3)))) (.a2 2 (.var 2) (.a2 4 (.var 1) (.a2 6 (.var 1) (.var 3))))) (.a2 6 (.var 1) (.var 3))))) 200000])])) (.leaf [(true, [.int (.a2 4 (.a2 0 (.a2 2 (.var 0) (.a2 4 (.var 3) (.a2 6 (.var 1) (.var 3)))) (.a2 2 (.var 2) (.a2 4 (.var 1) (.a2 6 (.var 1) (.var 3))))) (.a2 6 (.a2 0 (.a2 2 (.var 0) (.a2 4 (.var 3) (.a2 6 (.var 1) (.var 3)))) (.a2 2 (.var 2) (.a2 4 (.var 1) (.a2 6 (.var 1) (.var 3))))) (.a2 6 (.var 1) (.var 3)))) 200001, .int (.a2 2 (.a2 4 (.var 1) (.a2 6 (.var 1) (.var 3))) (.a2 4 (.var 3) (.a2 6 (.a2 0 (.a2 2 (.var 0) (.a2 4 (.var 3) (.a2 6 (.var 1) (.var 3)))) (.a2 2 (.var 2) (.a2 4 (.var 1) (.a2 6 (.var 1) (.var 3))))) (.a2 6 (.var 1) (.var 3))))) 200000])]))
    tabDiv_ok Tryz.func119 (by kernel_rfl) (by decide +kernel) (by decide +kernel) h1 h2 l1 l2).mono ?_
  rintro e w' ⟨β, v, rfl, hh, ex⟩
  obtain ⟨m1, m2⟩ := sum_dq a b _ rfl
  simp only [Tree.pick] at hh
  split at hh
  · rename_i hz1
    split at hh
    · rename_i hz2
      obtain ⟨x, y, z, t, rfl, k1, _, k2, _⟩ := one_rat.1 hh
      obtain ⟨s1, s2⟩ := sum_ones a b (eq_of_beq hz1) (eq_of_beq hz2)
      refine ⟨_, rfl, ⟨x, y, z, t, rfl, ?_, ?_⟩, ex⟩
      · rw [← s1]; exact k1
      · rw [← s2]; exact k2
    · obtain ⟨x, y, z, t, rfl, k1, _, k2, _⟩ := one_rat.1 hh
      refine ⟨_, rfl, ⟨x, y, z, t, rfl, ?_, ?_⟩, ex⟩
      · rw [← m1]; exact k1
      · rw [← m2]; exact k2
  · obtain ⟨x, y, z, t, rfl, k1, _, k2, _⟩ := one_rat.1 hh
    refine ⟨_, rfl, ⟨x, y, z, t, rfl, ?_, ?_⟩, ex⟩
    · rw [← m1]; exact k1
    · rw [← m2]; exact k2
end Go.Proofs.YtllijnecmekfeaaGreatDoor
end

section
set_option maxRecDepth 100000
namespace Go.Proofs.YtllijnecmekfeaaGreatDoor
open Go.RowKit
theorem LimQ.mul {l m k j : Nat} {a b : Rat} (h1 : Lim l a.num) (h2 : Lim m (a.den : Int)) (h3 : Lim k b.num) (h4 : Lim j (b.den : Int)) : Lim (l + m + k + j + 1) (a * b).num ∧ Lim (l + m + k + j + 1) ((a * b).den : Int) := by
  obtain ⟨m1, m2⟩ := mul_dq a b
  rw [← m1, ← m2]
  exact ⟨((h1.natAbs_le (dq_abs _ _)).mul (h3.natAbs_le (dq_abs _ _))).mono (by omega), ((h2.natAbs_le (dq_abs _ _)).mul (h4.natAbs_le (dq_abs _ _))).mono (by omega)⟩
theorem LimQ.add {l m k j : Nat} {a b : Rat} (h1 : Lim l a.num) (h2 : Lim m (a.den : Int)) (h3 : Lim k b.num) (h4 : Lim j (b.den : Int)) : Lim (l + m + k + j + 1) (a + b).num ∧ Lim (l + m + k + j + 1) ((a + b).den : Int) := by
  obtain ⟨m1, m2⟩ := sum_dq a b _ rfl
  rw [← m1, ← m2]
  refine ⟨Lim.natAbs_le ?_ (dq_abs _ _), ((h2.natAbs_le (dq_abs _ _)).mul (h4.natAbs_le (dq_abs _ _))).mono (by omega)⟩
  exact ((h1.mul (h4.natAbs_le (dq_abs _ _))).add2 (h3.mul (h2.natAbs_le (dq_abs _ _)))).mono (by omega)
theorem LimQ.sub {l m k j : Nat} {a b : Rat} (h1 : Lim l a.num) (h2 : Lim m (a.den : Int)) (h3 : Lim k b.num) (h4 : Lim j (b.den : Int)) : Lim (l + m + k + j + 1) (a - b).num ∧ Lim (l + m + k + j + 1) ((a - b).den : Int) := by
  rw [Rat.sub_eq_add_neg]
  exact LimQ.add (b := -b) h1 h2 (by rw [Rat.neg_num]; exact h3.neg) h4

def QEnv (E : Env) : Prop := ∀ i, i % 2 = 0 → ∃ q : Rat, E.i i = q.num ∧ E.i (i + 1) = (q.den : Int)
def canon0 : IT → IT → Bool
  | .var i, .var j => i % 2 == 0 && j == i + 1
  | .lit z, .lit d => decide (0 < d) && Nat.gcd z.natAbs d.natAbs == 1
  | .a1 f x, t => f == 0 && canon0 x t
  | .a2 f x y, .a2 g z t => f == 7 && (g == 8 && (x.beq z && y.beq t))
  | .a4 f x y z t, .a4 g x' y' z' t' => f % 2 == 0 && (g == f + 1 && (f != 8 && (x.beq x' && (y.beq y' && (z.beq z' && t.beq t')))))
  | _, _ => false
theorem canon0_spec {E : Env} (hE : QEnv E) : ∀ {s t : IT}, canon0 s t = true → ∃ q : Rat, s.den E = q.num ∧ t.den E = (q.den : Int) := by
  intro s
  induction s with
  | var i =>
    intro t h
    cases t <;> simp only [canon0, Bool.false_eq_true, Bool.and_eq_true, beq_iff_eq] at h
    obtain ⟨h1, rfl⟩ := h
    exact hE i h1
  | lit z =>
    intro t h
    cases t with
    | lit d =>
      simp only [canon0, Bool.and_eq_true, beq_iff_eq, decide_eq_true_iff] at h
      obtain ⟨h1, h2⟩ := h
      exact ⟨⟨z, d.natAbs, by omega, h2⟩, rfl, (by show d = (d.natAbs : Int); omega)⟩
    | _ => simp [canon0] at h
  | rlen i => intro t h; cases t <;> simp [canon0] at h
  | slen i => intro t h; cases t <;> simp [canon0] at h
  | a1 f x ih =>
    intro t h
    simp only [canon0, Bool.and_eq_true, beq_iff_eq] at h
    obtain ⟨rfl, h⟩ := h
    obtain ⟨q, h1, h2⟩ := ih h
    exact ⟨-q, by rw [Rat.neg_num, ← h1]; rfl, h2⟩
  | a2 f x y _ _ =>
    intro t h
    cases t <;> simp only [canon0, Bool.false_eq_true, Bool.and_eq_true, beq_iff_eq] at h
    obtain ⟨rfl, rfl, h1, h2⟩ := h
    rw [← IT.eq_of_beq h1, ← IT.eq_of_beq h2]
    exact ⟨_, rfl, rfl⟩
  | a4 f x y z t _ _ _ _ =>
    intro u h
    cases u <;> simp only [canon0, Bool.false_eq_true, Bool.and_eq_true, beq_iff_eq] at h
    obtain ⟨h0, rfl, h8, h1, h2, h3, h4⟩ := h
    have h8' : f ≠ 8 := by simpa using h8
    rw [← IT.eq_of_beq h1, ← IT.eq_of_beq h2, ← IT.eq_of_beq h3, ← IT.eq_of_beq h4]
    refine ⟨_, if_pos h0, ?_⟩
    show fn4 (f + 1) _ _ _ _ = _
    unfold fn4
    rw [if_neg (by omega), if_neg (by omega), show (f + 1) / 2 = f / 2 by omega]
def canon (s t : IT) : Bool := t.beq (.lit 1) || canon0 s t
theorem canon_spec {E : Env} (hE : QEnv E) {s t : IT} (h : canon s t = true) : ∃ q : Rat, s.den E = q.num ∧ t.den E = (q.den : Int) := by
  unfold canon at h
  rw [Bool.or_eq_true] at h
  rcases h with h | h
  · rw [IT.eq_of_beq h]
    exact ⟨⟨s.den E, 1, by omega, Nat.gcd_one_right _⟩, rfl, rfl⟩
  · exact canon0_spec hE h
theorem divInt_parts (q : Rat) : Rat.divInt q.num (q.den : Int) = q := Rat.num_divInt_den q
theorem one_ratQ {E : Env} {w : World} {s t : IT} {l m : Nat} {v : Value} (hE : QEnv E) (hc : canon s t = true) (h : one E w (true, [.int s l, .int t m]) v) : ∃ q : Rat, q = Rat.divInt (s.den E) (t.den E) ∧ s.den E = q.num ∧ t.den E = (q.den : Int) ∧ IsRat w v q ∧ Lim l q.num ∧ Lim m (q.den : Int) := by
  obtain ⟨q, e1, e2⟩ := canon_spec hE hc
  obtain ⟨a, b, c, d, rfl, h1, h2, h3, h4⟩ := one_rat.1 h
  rw [e1] at h1 h2
  rw [e2] at h3 h4
  refine ⟨q, ?_, e1, e2, ⟨a, b, c, d, rfl, h1, h3⟩, h2, h4⟩
  rw [e1, e2, divInt_parts]
def ql (l : Nat) : Bool := decide (l ≤ 100000)
def kQQ (f : Nat) : Con
  | [.val true [.int x l, .int y m], .val true [.int z k, .int t j]], _ => if canon x y && (canon z t && (ql l && (ql m && (ql k && ql j)))) then
      some (.val true [.int (.a4 (2 * f) x y z t) (l + m + k + j + 1), .int (.a4 (2 * f + 1) x y z t) (l + m + k + j + 1)]) else none
  | _, _ => none
theorem kQQ_ok {E : Env} (hE : QEnv E) {f i : Nat} (hf : f < 4)
    (hc : ∀ (w : World) (v1 v2 : Value) (a b : Rat), IsRat w v1 a → IsRat w v2 b → LimQ 100000 a → LimQ 100000 b → Calls Tryz.prog i #[v1, v2] w (Ret (fun v w' => IsRat w' v (ratF f a b)) w))
    (hl : ∀ {l m k j : Nat} {a b : Rat}, Lim l a.num → Lim m (a.den : Int) → Lim k b.num → Lim j (b.den : Int) → Lim (l + m + k + j + 1) (ratF f a b).num ∧ Lim (l + m + k + j + 1) ((ratF f a b).den : Int))
    (hb : ∃ fn, Tryz.prog.funcs[i]? = some fn ∧ fn.name ≠ "runtime.NumGoroutine" ∧ fn.body.isNone = false) : ConOK Tryz.prog E i (kQQ f) := by
  refine ⟨?_, ?_, hb⟩
  · intro args As r h hG β w vs hv hlen
    unfold kQQ at h
    split at h
    · rename_i x l y m z k t j
      split at h
      · rename_i hlo
        injection h with h
        subst h
        simp only [ql, Bool.and_eq_true, decide_eq_true_iff] at hlo
        obtain ⟨c1, c2, b1, b2, b3, b4⟩ := hlo
        obtain ⟨v, u, rfl, h1, h2⟩ := args2 hv hlen
        obtain ⟨p, ep, ex1, ex2, hp, lp1, lp2⟩ := one_ratQ hE c1 h1
        obtain ⟨q, eq, ey1, ey2, hq, lq1, lq2⟩ := one_ratQ hE c2 h2
        obtain ⟨n1, n2⟩ := hl lp1 lp2 lq1 lq2
        refine (hc w v u p q hp hq ⟨lp1.mono (by omega), lp2.mono (by omega)⟩ ⟨lq1.mono (by omega), lq2.mono (by omega)⟩).mono ?_
        rintro e w' ⟨v', rfl, ⟨a, b, c, d, rfl, r1, r2⟩, ex⟩
        have d1 : (IT.a4 (2 * f) x y z t).den E = (ratF f p q).num := by
          show fn4 (2 * f) _ _ _ _ = _
          unfold fn4
          rw [if_pos (by omega), show 2 * f / 2 = f by omega, ← ep, ← eq]
        have d2 : (IT.a4 (2 * f + 1) x y z t).den E = ((ratF f p q).den : Int) := by
          show fn4 (2 * f + 1) _ _ _ _ = _
          unfold fn4
          rw [if_neg (by omega), if_neg (by omega), show (2 * f + 1) / 2 = f by omega, ← ep, ← eq]
        refine ⟨_, rfl, one_rat.2 ⟨a, b, c, d, rfl, ?_, ?_, ?_, ?_⟩, ex⟩
        · rw [d1]; exact r1
        · rw [d1]; exact n1
        · rw [d2]; exact r2
        · rw [d2]; exact n2
      · cases h
    · cases h
  · intro args As r h x off
    unfold kQQ at h
    split at h
    · split at h
      · injection h with h; subst h; intro e; cases e
      · cases h
    · cases h
end Go.Proofs.YtllijnecmekfeaaGreatDoor
end

section
set_option maxRecDepth 100000
namespace Go.Proofs.YtllijnecmekfeaaGreatDoor
open Go.RowKit
def tabR2 : List (Nat × Con) := (127, kDM) :: tabR1
theorem tabR2_ok {E : Env} : TabOK Tryz.prog E tabR2 := .cons (kDMg_ok (fun w v u a b h k l1 l2 => rdivMod_fn w v u a b h k l1 l2) ⟨_, Tryz.func127, by decide +kernel, by kernel_rfl⟩) tabR1_ok

theorem red_pos (a : Int) {b : Int} (hb : 0 < b) : dq a ((Nat.gcd a.natAbs b.natAbs : Nat) : Int) = (Rat.divInt a b).num ∧ dq b ((Nat.gcd a.natAbs b.natAbs : Nat) : Int) = ((Rat.divInt a b).den : Int) := by
  have hg : 0 < Nat.gcd a.natAbs b.natAbs := Nat.gcd_pos_of_pos_right _ (by omega)
  have hgc : b.gcd a = Nat.gcd a.natAbs b.natAbs := Nat.gcd_comm _ _
  rw [Rat.num_divInt, Rat.den_divInt, if_neg (by omega), hgc, Int.sign_eq_one_of_pos hb, Int.one_mul, dq_cast _ hg]
  refine ⟨rfl, ?_⟩
  have hbn : b = (b.natAbs : Int) := by omega
  generalize Nat.gcd a.natAbs b.natAbs = g at *
  rw [hbn, dq_cast2 _ hg, ← hbn]
theorem divInt_negs (a b : Int) : Rat.divInt (-a) (-b) = Rat.divInt a b := by
  have := Rat.divInt_mul_right (n := a) (d := b) (a := -1) (by omega)
  rw [← this]
  congr 1 <;> omega
theorem red_neg (a : Int) {b : Int} (hb : b < 0) : dq (-a) ((Nat.gcd (-a).natAbs (-b).natAbs : Nat) : Int) = (Rat.divInt a b).num ∧ dq (-b) ((Nat.gcd (-a).natAbs (-b).natAbs : Nat) : Int) = ((Rat.divInt a b).den : Int) := by
  rw [← divInt_negs a b]
  exact red_pos (-a) (by omega)
theorem cmp_lt0 (b : Int) : (cmpZ b 0 < 0) ↔ b < 0 := by
  rcases cmpZ_cases b 0 with ⟨h, e⟩ | ⟨h, e⟩ | ⟨h, e⟩ <;> rw [e] <;> omega
theorem cmp_eq0 (b : Int) : (cmpZ b 0 = 0) ↔ b = 0 := by
  rcases cmpZ_cases b 0 with ⟨h, e⟩ | ⟨h, e⟩ | ⟨h, e⟩ <;> rw [e] <;> omega
theorem cmp_eqm (b : Int) : (cmpZ b 0 = -1) ↔ b < 0 := by
  rcases cmpZ_cases b 0 with ⟨h, e⟩ | ⟨h, e⟩ | ⟨h, e⟩ <;> rw [e] <;> omega
theorem divInt_lim {l m : Nat} {a b : Int} (h : Lim l a) (k : Lim m b) (hb : b ≠ 0) : Lim l (Rat.divInt a b).num ∧ Lim m ((Rat.divInt a b).den : Int) := by
  rcases Int.lt_or_gt_of_ne hb with h1 | h1
  · obtain ⟨e1, e2⟩ := red_neg a h1
    rw [← e1, ← e2]
    exact ⟨h.neg.natAbs_le (dq_abs _ _), k.neg.natAbs_le (dq_abs _ _)⟩
  · obtain ⟨e1, e2⟩ := red_pos a h1
    rw [← e1, ← e2]
    exact ⟨h.natAbs_le (dq_abs _ _), k.natAbs_le (dq_abs _ _)⟩

theorem of_calls (w : World) (v1 v2 : Value) (a b : Int) (hb : b ≠ 0) (h : IsInt w v1 a) (k : IsInt w v2 b) (l1 : Lim 400000 a) (l2 : Lim 400000 b) :
    Calls Tryz.prog 76 #[v1, v2] w (Ret (fun v w' => IsRat w' v (Rat.divInt a b)) w) := by
  refine (walkZ2 (T := .ite (.lt (.a2 3 (.var 1) (.lit 0)) (.lit 0))
    (.leaf [(true, [.int (.a2 4 (.a1 0 (.var 0)) (.a2 6 (.a1 0 (.var 0)) (.a1 0 (.var 1)))) 400000, .int (.a2 4 (.a1 0 (.var 1)) (.a2 6 (.a1 0 (.var 0)) (.a1 0 (.var 1)))) 400000])])
    (.leaf [(true, [.int (.a2 4 (.var 0) (.a2 6 (.var 0) (.var 1))) 400000, .int (.a2 4 (.var 1) (.a2 6 (.var 0) (.var 1))) 400000])]))
    tabR2_ok Tryz.func76 (by kernel_rfl) (by decide +kernel) (by decide +kernel) h k l1 l2).mono ?_
  rintro e w' ⟨β, v, rfl, hh, ex⟩
  simp only [Tree.pick] at hh
  split at hh
  · rename_i hz
    have hz' : b < 0 := (cmp_lt0 b).1 (of_decide_eq_true hz)
    obtain ⟨x, y, z, t, rfl, k1, _, k2, _⟩ := one_rat.1 hh
    obtain ⟨m1, m2⟩ := red_neg a hz'
    refine ⟨_, rfl, ⟨x, y, z, t, rfl, ?_, ?_⟩, ex⟩
    · rw [← m1]; exact k1
    · rw [← m2]; exact k2
  · rename_i hz
    have hz' : ¬ b < 0 := fun hb => hz (decide_eq_true ((cmp_lt0 b).2 hb))
    obtain ⟨x, y, z, t, rfl, k1, _, k2, _⟩ := one_rat.1 hh
    obtain ⟨m1, m2⟩ := red_pos a (show 0 < b by omega)
    refine ⟨_, rfl, ⟨x, y, z, t, rfl, ?_, ?_⟩, ex⟩
    · rw [← m1]; exact k1
    · rw [← m2]; exact k2
theorem unit_calls (w : World) : Calls Tryz.prog 93 #[] w (Ret (fun v w' => IsInt w' v 1) w) := by
  refine (walk0 (T := .leaf [(true, [.int (.lit 1) 3])]) tabR2_ok Tryz.func93 (by kernel_rfl) (by decide +kernel)).mono ?_
  rintro e w' ⟨β, v, rfl, hh, ex⟩
  exact ⟨v, rfl, (one_int.1 hh).1, ex⟩

def denZ (a b : Int) : Int := if b = 0 then 0 else ((Rat.divInt a b).den : Int)
def RetMake (a b : Int) (w : World) (e : Ending) (w' : World) : Prop :=
  ∃ x y z t, e = .returned (.tuple #[.agg #[x, y, z, t], .int .i64 (de b)]) ∧ IsInt w' (.agg #[x, y]) (Rat.divInt a b).num ∧ IsInt w' (.agg #[z, t]) (denZ a b) ∧ Ext w w'
theorem divInt_zero' (a : Int) : (Rat.divInt a 0).num = 0 := by rw [Rat.num_divInt]; simp
theorem make_calls (w : World) (v1 v2 : Value) (a b : Int) (h : IsInt w v1 a) (k : IsInt w v2 b) (l1 : Lim 400000 a) (l2 : Lim 400000 b) :
    Calls Tryz.prog 60 #[v1, v2] w (RetMake a b w) := by
  refine (walkZ2 (T := .ite (.eq (.a2 3 (.var 1) (.lit 0)) (.lit 0)) (.leaf [(true, [.int (.lit 0) 0, .int (.lit 0) 0]), (false, [.n .i64 (.lit 6)])])
    (.ite (.eq (.a2 3 (.var 1) (.lit 0)) (.lit (-1)))
    (.leaf [(true, [.int (.a2 4 (.a1 0 (.var 0)) (.a2 6 (.a1 0 (.var 0)) (.a1 0 (.var 1)))) 400000, .int (.a2 4 (.a1 0 (.var 1)) (.a2 6 (.a1 0 (.var 0)) (.a1 0 (.var 1)))) 400000]), (false, [.n .i64 (.lit 0)])])
    (.leaf [(true, [.int (.a2 4 (.var 0) (.a2 6 (.var 0) (.var 1))) 400000, .int (.a2 4 (.var 1) (.a2 6 (.var 0) (.var 1))) 400000]), (false, [.n .i64 (.lit 0)])])))
    tabDiv_ok Tryz.func60 (by kernel_rfl) (by decide +kernel) (by decide +kernel) h k l1 l2).mono ?_
  rintro e w' ⟨β, v, rfl, hh, ex⟩
  have open_ : ∀ (s t u : IT) (l m : Nat), (AV.tup [(true, [.int s l, .int t m]), (false, [.n .i64 u])]).holds (zE [a, b]) β w' v → s.den (zE [a, b]) = (Rat.divInt a b).num → t.den (zE [a, b]) = denZ a b → u.den (zE [a, b]) = de b → RetMake a b w (.returned v) w' := by
    intro s t u l m hx e1 e2 e3
    obtain ⟨vs, rfl, u1, r1, rfl, k1, u2, r2, rfl, k2, hn⟩ := hx
    simp only [tupAll] at hn
    subst hn
    have k2' := one_num.1 k2
    subst k2'
    obtain ⟨x, y, z, t', rfl, j1, _, j2, _⟩ := one_rat.1 k1
    rw [e1] at j1
    rw [e2] at j2
    exact ⟨x, y, z, t', by rw [e3], j1, j2, ex⟩
  simp only [Tree.pick] at hh
  split at hh
  · rename_i hz
    have hz' : b = 0 := (cmp_eq0 b).1 (eq_of_beq hz)
    subst hz'
    exact open_ _ _ _ _ _ hh (divInt_zero' a).symm rfl rfl
  · rename_i hz
    have hb : b ≠ 0 := fun hb => hz (beq_iff_eq.2 ((cmp_eq0 b).2 hb))
    have e3 : (0 : Int) = de b := by unfold de; rw [if_neg hb]
    have e2 : denZ a b = ((Rat.divInt a b).den : Int) := by unfold denZ; rw [if_neg hb]
    split at hh
    · rename_i hz
      have hz' : b < 0 := (cmp_eqm b).1 (eq_of_beq hz)
      obtain ⟨m1, m2⟩ := red_neg a hz'
      exact open_ _ _ _ _ _ hh m1 (by rw [e2]; exact m2) e3
    · rename_i hz
      have hz' : ¬ b < 0 := fun hb => hz (beq_iff_eq.2 ((cmp_eqm b).2 hb))
      obtain ⟨m1, m2⟩ := red_pos a (show 0 < b by omega)
      exact open_ _ _ _ _ _ hh m1 (by rw [e2]; exact m2) e3

end Go.Proofs.YtllijnecmekfeaaGreatDoor
end

section
set_option maxRecDepth 100000
namespace Go.Proofs.YtllijnecmekfeaaGreatDoor
open Go.RowKit
def IsPair (w : World) (v : Value) (n d : Int) : Prop := ∃ a b c e, v = .agg #[a, b, c, e] ∧ IsInt w (.agg #[a, b]) n ∧ IsInt w (.agg #[c, e]) d
theorem IsPair.ext {w w' : World} {v : Value} {n d : Int} (h : IsPair w v n d) (e : Ext w w') : IsPair w' v n d := by
  obtain ⟨a, b, c, f, h1, h2, h3⟩ := h
  exact ⟨a, b, c, f, h1, h2.ext e, h3.ext e⟩
theorem argP_holds {E : Env} {β : Nat → Nat} {w : World} {v : Value} {n d : Int} {i : Nat} (h : IsPair w v n d) (l1 : Lim 100000 n) (l2 : Lim 100000 d) (e1 : E.i (2 * i) = n) (e2 : E.i (2 * i + 1) = d) : (argQ i).holds E β w v := by
  obtain ⟨a, b, c, f, rfl, h1, h2⟩ := h
  refine one_rat.2 ⟨a, b, c, f, rfl, ?_, ?_, ?_, ?_⟩
  · show IsInt w _ (E.i (2 * i)); rw [e1]; exact h1
  · show Lim 100000 (E.i (2 * i)); rw [e1]; exact l1
  · show IsInt w _ (E.i (2 * i + 1)); rw [e2]; exact h2
  · show Lim 100000 (E.i (2 * i + 1)); rw [e2]; exact l2
theorem walkP2 {tab : List (Nat × Con)} {f : Nat} {fn : Func} {T : Tree} {w : World} {n1 d1 n2 d2 : Int} {v1 v2 : Value} (ht : TabOK Tryz.prog (zE [n1, d1, n2, d2]) tab) (hf : Tryz.prog.funcs[f]? = some fn) (hT : funE (cfgOf tab) fn [] [argQ 0, argQ 1] = some T) (h4 : fn.results.toList.length ≤ 4) (hn : 2 ≤ fn.ntmps)
    (h1 : IsPair w v1 n1 d1) (h2 : IsPair w v2 n2 d2) (l1 : Lim 100000 n1) (l1' : Lim 100000 d1) (l2 : Lim 100000 n2) (l2' : Lim 100000 d2) :
    Calls Tryz.prog f #[v1, v2] w fun e w' => ∃ β v, e = .returned v ∧ (toAV (T.pick (zE [n1, d1, n2, d2]))).holds (zE [n1, d1, n2, d2]) β w' v ∧ Ext w w' := by
  refine fun_sound mixed (cfg_ok ht) no_asm hf h4 hT hn rfl w [v1, v2] rfl ?_
  intro i x hx
  match i, hx with
  | 0, hx => injection hx with hx; subst hx; exact ⟨fun _ => 0, v1, rfl, argP_holds h1 l1 l1' rfl rfl⟩
  | 1, hx => injection hx with hx; subst hx; exact ⟨fun _ => 0, v2, rfl, argP_holds h2 l2 l2' rfl rfl⟩
theorem one_pair {E : Env} {w : World} {s t : IT} {l m : Nat} {v : Value} : one E w (true, [.int s l, .int t m]) v ↔ IsPair w v (s.den E) (t.den E) ∧ Lim l (s.den E) ∧ Lim m (t.den E) := by
  rw [one_rat]
  constructor
  · rintro ⟨a, b, c, d, rfl, h1, h2, h3, h4⟩
    exact ⟨⟨a, b, c, d, rfl, h1, h3⟩, h2, h4⟩
  · rintro ⟨⟨a, b, c, d, rfl, h1, h3⟩, h2, h4⟩
    exact ⟨a, b, c, d, rfl, h1, h2, h3, h4⟩

theorem mulRaw_calls (w : World) (v1 v2 : Value) (n1 d1 n2 d2 : Int) (h1 : IsPair w v1 n1 d1) (h2 : IsPair w v2 n2 d2) (l1 : Lim 100000 n1) (l1' : Lim 100000 d1) (l2 : Lim 100000 n2) (l2' : Lim 100000 d2) :
    Calls Tryz.prog 121 #[v1, v2] w (Ret (fun v w' => IsPair w' v (dq n1 ((Nat.gcd n1.natAbs d2.natAbs : Nat) : Int) * dq n2 ((Nat.gcd n2.natAbs d1.natAbs : Nat) : Int)) (dq d1 ((Nat.gcd n2.natAbs d1.natAbs : Nat) : Int) * dq d2 ((Nat.gcd n1.natAbs d2.natAbs : Nat) : Int))) w) := by
  refine (walkP2 (T := .leaf [(true, [.int (.a2 2 (.a2 4 (.var 0) (.a2 6 (.var 0) (.var 3))) (.a2 4 (.var 2) (.a2 6 (.var 2) (.var 1)))) 200000, .int (.a2 2 (.a2 4 (.var 1) (.a2 6 (.var 2) (.var 1))) (.a2 4 (.var 3) (.a2 6 (.var 0) (.var 3)))) 200000])])
    tabDiv_ok Tryz.func121 (by kernel_rfl) (by decide +kernel) (by decide +kernel) h1 h2 l1 l1' l2 l2').mono ?_
  rintro e w' ⟨β, v, rfl, hh, ex⟩
  exact ⟨_, rfl, (one_pair.1 hh).1, ex⟩
def kMulRaw : Con
  | [.val true [.int x l, .int y m], .val true [.int z k, .int t j]], _ => if ql l && (ql m && (ql k && ql j)) || decide (l ≤ 100000) && (decide (m ≤ 100000) && (decide (k ≤ 100000) && decide (j ≤ 100000))) then
      some (.val true [.int (.a2 2 (.a2 4 x (.a2 6 x t)) (.a2 4 z (.a2 6 z y))) (l + k), .int (.a2 2 (.a2 4 y (.a2 6 z y)) (.a2 4 t (.a2 6 x t))) (m + j)]) else none
  | _, _ => none
theorem kMulRaw_ok {E : Env} : ConOK Tryz.prog E 121 kMulRaw := by
  refine ⟨?_, ?_, ⟨_, Tryz.func121, by decide +kernel, by kernel_rfl⟩⟩
  · intro args As r h hG β w vs hv hlen
    unfold kMulRaw at h
    split at h
    · rename_i x l y m z k t j
      split at h
      · rename_i hlo
        injection h with h
        subst h
        simp only [ql, Bool.and_eq_true, Bool.or_eq_true, decide_eq_true_iff] at hlo
        obtain ⟨v, u, rfl, h1, h2⟩ := args2 hv hlen
        obtain ⟨p1, a1, a2⟩ := one_pair.1 h1
        obtain ⟨p2, a3, a4⟩ := one_pair.1 h2
        refine (mulRaw_calls w v u _ _ _ _ p1 p2 (a1.mono (by omega)) (a2.mono (by omega)) (a3.mono (by omega)) (a4.mono (by omega))).mono ?_
        rintro e w' ⟨v', rfl, hp, ex⟩
        exact ⟨v', rfl, one_pair.2 ⟨hp, (a1.natAbs_le (dq_abs _ _)).mul (a3.natAbs_le (dq_abs _ _)), (a2.natAbs_le (dq_abs _ _)).mul (a4.natAbs_le (dq_abs _ _))⟩, ex⟩
      · cases h
    · cases h
  · intro args As r h x off
    unfold kMulRaw at h
    split at h
    · split at h
      · injection h with h; subst h; intro e; cases e
      · cases h
    · cases h
theorem sign_rat_calls (w : World) (v1 : Value) (n d : Int) (h1 : IsPair w v1 n d) (l1 : Lim 100000 n) (l1' : Lim 100000 d) : Calls Tryz.prog 141 #[v1] w fun e w' => e = .returned (.int .i64 (cmpZ n 0)) ∧ Ext w w' := by
  refine (fun_sound (E := zE [n, d]) (args := [argQ 0]) (T := .leaf [(false, [.n .i64 (.a2 3 (.var 0) (.lit 0))])]) mixed (cfg_ok tabDiv_ok) no_asm Tryz.func141 (by decide +kernel) (by kernel_rfl) (by decide +kernel) rfl w [v1] rfl ?_).mono ?_
  · intro i x hx
    match i, hx with
    | 0, hx => injection hx with hx; subst hx; exact ⟨fun _ => 0, v1, rfl, argP_holds h1 l1 l1' rfl rfl⟩
  · rintro e w' ⟨β, v, rfl, hh, ex⟩
    have := one_num.1 hh
    subst this
    exact ⟨rfl, ex⟩
def kSg : Con
  | [.val true [.int x l, .int _ m]], _ => if decide (l ≤ 100000) && decide (m ≤ 100000) then some (.val false [.n .i64 (.a2 3 x (.lit 0))]) else none
  | _, _ => none
theorem kSg_ok {E : Env} : ConOK Tryz.prog E 141 kSg := by
  refine ⟨?_, ?_, ⟨_, Tryz.func141, by decide +kernel, by kernel_rfl⟩⟩
  · intro args As r h hG β w vs hv hlen
    unfold kSg at h
    split at h
    · split at h
      · rename_i hlo
        injection h with h
        subst h
        simp only [Bool.and_eq_true, decide_eq_true_iff] at hlo
        obtain ⟨v, rfl, h1⟩ := args1 hv hlen
        obtain ⟨p1, a1, a2⟩ := one_pair.1 h1
        refine (sign_rat_calls w v _ _ p1 (a1.mono hlo.1) (a2.mono hlo.2)).mono ?_
        rintro e w' ⟨rfl, ex⟩
        exact ⟨_, rfl, one_num.2 rfl, ex⟩
      · cases h
    · cases h
  · intro args As r h x off
    unfold kSg at h
    split at h
    · split at h
      · injection h with h; subst h; intro e; cases e
      · cases h
    · cases h
def tabMul : List (Nat × Con) := (121, kMulRaw)  :: (141, kSg) :: tabDiv
theorem tabMul_ok {E : Env} : TabOK Tryz.prog E tabMul := by
  refine .cons kMulRaw_ok ?_ 
  refine .cons kSg_ok ?_ 
  exact tabDiv_ok

def divD (a b : Rat) : Int := if b = 0 then 0 else ((a / b).den : Int)
def RetDiv (a b : Rat) (w : World) (e : Ending) (w' : World) : Prop :=
  ∃ v, e = .returned (.tuple #[v, .int .i64 (de b.num)]) ∧ IsPair w' v (a / b).num (divD a b) ∧ Ext w w'
theorem open_quot {E : Env} {β : Nat → Nat} {w' : World} {v : Value} {s t u : IT} {l m : Nat} (hx : (AV.tup [(true, [.int s l, .int t m]), (false, [.n .i64 u])]).holds E β w' v) :
    ∃ p, v = .tuple #[p, .int .i64 (u.den E)] ∧ IsPair w' p (s.den E) (t.den E) := by
  obtain ⟨vs, rfl, u1, r1, rfl, k1, u2, r2, rfl, k2, hn⟩ := hx
  simp only [tupAll] at hn
  subst hn
  have k2' := one_num.1 k2
  subst k2'
  exact ⟨u1, rfl, (one_pair.1 k1).1⟩
end Go.Proofs.YtllijnecmekfeaaGreatDoor
end

section
set_option maxRecDepth 100000
namespace Go.Proofs.YtllijnecmekfeaaGreatDoor
open Go.RowKit
def nz (q : Bool) : IT → Bool
  | .var i => q && i % 2 == 1
  | .lit z => z != 0
  | .a2 f x y => f == 2 && (nz q x && nz q y) || f == 8
  | .a4 f _ _ _ _ => f % 2 == 1 && f != 9
  | _ => false
theorem nz_spec {E : Env} {q : Bool} (hE : q = true → QEnv E) : ∀ {t : IT}, nz q t = true → t.den E ≠ 0 := by
  intro t
  induction t with
  | var i =>
    intro h
    simp only [nz, Bool.and_eq_true, beq_iff_eq] at h
    obtain ⟨q', _, h2⟩ := hE h.1 (i - 1) (by omega)
    rw [show i - 1 + 1 = i by omega] at h2
    show E.i i ≠ 0
    rw [h2]
    have := q'.den_pos
    omega
  | lit z => intro h; simpa [nz, IT.den] using h
  | a2 f x y ihx ihy =>
    intro h
    simp only [nz, Bool.or_eq_true, Bool.and_eq_true, beq_iff_eq] at h
    rcases h with ⟨rfl, h1, h2⟩ | rfl
    · exact Int.mul_ne_zero (ihx h1) (ihy h2)
    · show ((Rat.divInt _ _).den : Int) ≠ 0
      have := (Rat.divInt (x.den E) (y.den E)).den_pos
      omega
  | a4 f x y z t _ _ _ _ =>
    intro h
    simp only [nz, Bool.and_eq_true, beq_iff_eq, bne_iff_ne] at h
    show fn4 f _ _ _ _ ≠ 0
    unfold fn4
    rw [if_neg (by omega), if_neg (fun e => h.2 e.1)]
    have := (ratF (f / 2) (Rat.divInt (x.den E) (y.den E)) (Rat.divInt (z.den E) (t.den E))).den_pos
    omega
  | _ => intro h; cases h
def kOf (q : Bool) : Con
  | [.val true [.int x l], .val true [.int y m]], G => if lo l && (lo m && (nz q y || (G.find (.eq (.a2 3 y (.lit 0)) (.lit 0)) == some false || G.find (.eq y (.lit 0)) == some false))) then some (.val true [.int (.a2 7 x y) l, .int (.a2 8 x y) m]) else none
  | _, _ => none
theorem kOf_ok {E : Env} {q : Bool} (hE : q = true → QEnv E) : ConOK Tryz.prog E 76 (kOf q) := by
  refine ⟨?_, ?_, ⟨_, Tryz.func76, by decide +kernel, by kernel_rfl⟩⟩
  · intro args As r h hG β w vs hv hlen
    unfold kOf at h
    split at h
    · rename_i x l y m
      split at h
      · rename_i hlo
        injection h with h
        subst h
        simp only [lo, Bool.and_eq_true, Bool.or_eq_true, decide_eq_true_iff, beq_iff_eq] at hlo
        obtain ⟨b1, b2, b3⟩ := hlo
        have hy : y.den E ≠ 0 := by
          rcases b3 with b3 | b3 | b3
          · exact nz_spec hE b3
          · have := Asm.find_spec hG b3
            intro e
            have h2 : (cmpZ (y.den E) 0 == 0) = false := this
            rw [e] at h2
            cases h2
          · have := Asm.find_spec hG b3
            intro e
            have h2 : (y.den E == 0) = false := this
            rw [e] at h2
            cases h2
        obtain ⟨v, u, rfl, h1, h2⟩ := args2 hv hlen
        obtain ⟨i1, l1⟩ := one_int.1 h1
        obtain ⟨i2, l2⟩ := one_int.1 h2
        refine (of_calls w v u _ _ hy i1 i2 (l1.mono b1) (l2.mono b2)).mono ?_
        rintro e w' ⟨v', rfl, hp, ex⟩
        obtain ⟨n1, n2⟩ := divInt_lim l1 l2 hy
        exact ⟨v', rfl, one_pair.2 ⟨hp, n1, n2⟩, ex⟩
      · cases h
    · cases h
  · intro args As r h x off
    unfold kOf at h
    split at h
    · split at h
      · injection h with h; subst h; intro e; cases e
      · cases h
    · cases h
def kMake : Con
  | [.val true [.int x l], .val true [.int y m]], _ => if lo l && lo m then some (.tup [(true, [.int (.a2 7 x y) l, .int (.a2 11 x y) m]), (false, [.n .i64 (.a1 1 y)])]) else none
  | _, _ => none
theorem lim_zero {l : Nat} : Lim l 0 := by unfold Lim; rw [Int.natAbs_zero, limbs_zero]; exact Nat.zero_le _
theorem kMake_ok {E : Env} {f : Nat} (hc : ∀ (w : World) (v u : Value) (a b : Int), IsInt w v a → IsInt w u b → Lim 400000 a → Lim 400000 b → Calls Tryz.prog f #[v, u] w (RetMake a b w))
    (hb : ∃ fn, Tryz.prog.funcs[f]? = some fn ∧ fn.name ≠ "runtime.NumGoroutine" ∧ fn.body.isNone = false) : ConOK Tryz.prog E f kMake := by
  refine ⟨?_, ?_, hb⟩
  · intro args As r h hG β w vs hv hlen
    unfold kMake at h
    split at h
    · rename_i x l y m
      split at h
      · rename_i hlo
        injection h with h
        subst h
        simp only [lo, Bool.and_eq_true, decide_eq_true_iff] at hlo
        obtain ⟨v, u, rfl, h1, h2⟩ := args2 hv hlen
        obtain ⟨i1, l1⟩ := one_int.1 h1
        obtain ⟨i2, l2⟩ := one_int.1 h2
        refine (hc w v u _ _ i1 i2 (l1.mono (by omega)) (l2.mono (by omega))).mono ?_
        rintro e w' ⟨a, b, c, d, rfl, k1, k2, ex⟩
        have hlim : Lim l (Rat.divInt (x.den E) (y.den E)).num ∧ Lim m (denZ (x.den E) (y.den E)) := by
          unfold denZ
          by_cases hy : y.den E = 0
          · rw [if_pos hy, hy, divInt_zero']
            exact ⟨lim_zero, lim_zero⟩
          · rw [if_neg hy]
            exact divInt_lim l1 l2 hy
        exact ⟨_, rfl, ⟨[.agg #[a, b, c, d], .int .i64 (de (y.den E))], rfl, _, _, rfl, one_pair.2 ⟨⟨a, b, c, d, rfl, k1, k2⟩, hlim.1, hlim.2⟩, _, _, rfl, one_num.2 rfl, rfl⟩, ex⟩
      · cases h
    · cases h
  · intro args As r h x off
    unfold kMake at h
    split at h
    · split at h
      · injection h with h; subst h; intro e; cases e
      · cases h
    · cases h
def tabR3 (q : Bool) : List (Nat × Con) := (76, kOf q) :: (93, k0 (.lit 1) 3) :: tabR2
theorem tabR3_ok {E : Env} {q : Bool} (hE : q = true → QEnv E) : TabOK Tryz.prog E (tabR3 q) :=
  .cons (kOf_ok hE) (.cons (k0_ok 1 rfl (fun w => unit_calls w) (lim3 (by decide) (by decide)) ⟨_, Tryz.func93, by decide +kernel, by kernel_rfl⟩) tabR2_ok)
theorem qE_ok (l : List Rat) : QEnv (qE l) := by
  intro i hi
  refine ⟨l.getD (i / 2) 0, ?_, ?_⟩
  · show (if i % 2 = 0 then _ else _) = _
    rw [if_pos hi]
  · show (if (i + 1) % 2 = 0 then _ else _) = _
    rw [if_neg (by omega), show (i + 1) / 2 = i / 2 by omega]
theorem rmake_calls (w : World) (v1 v2 : Value) (a b : Int) (h : IsInt w v1 a) (k : IsInt w v2 b) (l1 : Lim 400000 a) (l2 : Lim 400000 b) :
    Calls Tryz.prog 164 #[v1, v2] w (RetMake a b w) := by
  refine (walkZ2 (T := .ite (.eq (.a2 3 (.var 1) (.lit 0)) (.lit 0)) (.leaf [(true, [.int (.lit 0) 0, .int (.lit 0) 0]), (false, [.n .i64 (.lit 6)])])
    (.leaf [(true, [.int (.a2 7 (.var 0) (.var 1)) 400000, .int (.a2 8 (.var 0) (.var 1)) 400000]), (false, [.n .i64 (.lit 0)])]))
    (tabR3_ok (q := false) (fun h => by cases h)) Tryz.func164 (by kernel_rfl) (by decide +kernel) (by decide +kernel) h k l1 l2).mono ?_
  rintro e w' ⟨β, v, rfl, hh, ex⟩
  simp only [Tree.pick] at hh
  split at hh
  · rename_i hz
    have hz' : b = 0 := (cmp_eq0 b).1 (eq_of_beq hz)
    subst hz'
    obtain ⟨p, rfl, x, y, z, t, rfl, k1, k2⟩ := open_quot hh
    exact ⟨x, y, z, t, rfl, by rw [divInt_zero']; exact k1, k2, ex⟩
  · rename_i hz
    have hb : b ≠ 0 := fun hb => hz (beq_iff_eq.2 ((cmp_eq0 b).2 hb))
    obtain ⟨p, rfl, x, y, z, t, rfl, k1, k2⟩ := open_quot hh
    refine ⟨x, y, z, t, ?_, k1, ?_, ex⟩
    · unfold de; rw [if_neg hb]; rfl
    · unfold denZ; rw [if_neg hb]; exact k2
theorem den_ne (q : Rat) : (q.den : Int) ≠ 0 := by have := q.den_pos; omega
theorem radd_rat_calls (w : World) (v1 v2 : Value) (a b : Rat) (h1 : IsRat w v1 a) (h2 : IsRat w v2 b) (l1 : LimQ 100000 a) (l2 : LimQ 100000 b) :
    Calls Tryz.prog 74 #[v1, v2] w (Ret (fun v w' => IsRat w' v (a + b)) w) := by
  refine (walkQ2 (T := .leaf [(true, [.int (.a2 7 (.a2 0 (.a2 2 (.var 0) (.var 3)) (.a2 2 (.var 2) (.var 1))) (.a2 2 (.var 1) (.var 3))) 200001, .int (.a2 8 (.a2 0 (.a2 2 (.var 0) (.var 3)) (.a2 2 (.var 2) (.var 1))) (.a2 2 (.var 1) (.var 3))) 200000])])
    (tabR3_ok (q := true) (fun _ => qE_ok _)) Tryz.func74 (by kernel_rfl) (by decide +kernel) (by decide +kernel) h1 h2 l1 l2).mono ?_
  rintro e w' ⟨β, v, rfl, hh, ex⟩
  have e1 : a + b = Rat.divInt (a.num * (b.den : Int) + b.num * (a.den : Int)) ((a.den : Int) * (b.den : Int)) := by
    rw [← Rat.divInt_add_divInt _ _ (den_ne a) (den_ne b), divInt_parts, divInt_parts]
  exact ⟨v, rfl, by rw [e1]; exact (one_pair.1 hh).1, ex⟩
theorem rmul_rat_calls (w : World) (v1 v2 : Value) (a b : Rat) (h1 : IsRat w v1 a) (h2 : IsRat w v2 b) (l1 : LimQ 100000 a) (l2 : LimQ 100000 b) :
    Calls Tryz.prog 19 #[v1, v2] w (Ret (fun v w' => IsRat w' v (a * b)) w) := by
  refine (walkQ2 (T := .leaf [(true, [.int (.a2 7 (.a2 2 (.var 0) (.var 2)) (.a2 2 (.var 1) (.var 3))) 200000, .int (.a2 8 (.a2 2 (.var 0) (.var 2)) (.a2 2 (.var 1) (.var 3))) 200000])])
    (tabR3_ok (q := true) (fun _ => qE_ok _)) Tryz.func19 (by kernel_rfl) (by decide +kernel) (by decide +kernel) h1 h2 l1 l2).mono ?_
  rintro e w' ⟨β, v, rfl, hh, ex⟩
  have e1 : a * b = Rat.divInt (a.num * b.num) ((a.den : Int) * (b.den : Int)) := by
    rw [← Rat.divInt_mul_divInt, divInt_parts, divInt_parts]
  exact ⟨v, rfl, by rw [e1]; exact (one_pair.1 hh).1, ex⟩
theorem rneg_rat_calls (w : World) (v1 : Value) (a : Rat) (h1 : IsRat w v1 a) (l1 : LimQ 100000 a) :
    Calls Tryz.prog 24 #[v1] w (Ret (fun v w' => IsRat w' v (-a)) w) := by
  refine (walkQ1 (T := .leaf [(true, [.int (.a1 0 (.var 0)) 100000, .int (.var 1) 100000])])
    (tabR3_ok (q := true) (fun _ => qE_ok _)) Tryz.func24 (by kernel_rfl) (by decide +kernel) (by decide +kernel) h1 l1).mono ?_
  rintro e w' ⟨β, v, rfl, hh, ex⟩
  exact ⟨v, rfl, (one_pair.1 hh).1, ex⟩
def tabR4 (q : Bool) : List (Nat × Con) := (164, kMake) :: tabR3 q
theorem tabR4_ok {E : Env} {q : Bool} (hE : q = true → QEnv E) : TabOK Tryz.prog E (tabR4 q) :=
  .cons (kMake_ok (fun w v u a b h k l1 l2 => rmake_calls w v u a b h k l1 l2) ⟨_, Tryz.func164, by decide +kernel, by kernel_rfl⟩) (tabR3_ok hE)
theorem rdiv_rat_calls (w : World) (v1 v2 : Value) (a b : Rat) (h1 : IsRat w v1 a) (h2 : IsRat w v2 b) (l1 : LimQ 100000 a) (l2 : LimQ 100000 b) :
    Calls Tryz.prog 115 #[v1, v2] w (RetDiv a b w) := by
  refine (walkQ2 (T := .leaf [(true, [.int (.a2 7 (.a2 2 (.var 0) (.var 3)) (.a2 2 (.var 1) (.var 2))) 200000, .int (.a2 11 (.a2 2 (.var 0) (.var 3)) (.a2 2 (.var 1) (.var 2))) 200000]), (false, [.n .i64 (.a1 1 (.a2 2 (.var 1) (.var 2)))])])
    (tabR4_ok (q := true) (fun _ => qE_ok _)) Tryz.func115 (by kernel_rfl) (by decide +kernel) (by decide +kernel) h1 h2 l1 l2).mono ?_
  rintro e w' ⟨β, v, rfl, hh, ex⟩
  obtain ⟨p, rfl, hp⟩ := open_quot hh
  have e1 : a / b = Rat.divInt (a.num * (b.den : Int)) ((a.den : Int) * b.num) := by
    rw [← Rat.divInt_mul_divInt, divInt_parts, ← Rat.inv_divInt, divInt_parts, Rat.div_def]
  have e0 : ((a.den : Int) * b.num = 0) ↔ b = 0 := by
    rw [Int.mul_eq_zero, ← Rat.num_eq_zero]
    exact ⟨fun h => h.resolve_left (den_ne a), .inr⟩
  have e2 : divD a b = denZ (a.num * (b.den : Int)) ((a.den : Int) * b.num) := by
    unfold divD denZ
    rw [e1]
    by_cases hb : b = 0
    · rw [if_pos hb, if_pos (e0.2 hb)]
    · rw [if_neg hb, if_neg (fun h => hb (e0.1 h))]
  have e3 : de b.num = de ((a.den : Int) * b.num) := by
    unfold de
    by_cases hb : b = 0
    · rw [if_pos (Rat.num_eq_zero.2 hb), if_pos (e0.2 hb)]
    · rw [if_neg (fun h => hb (Rat.num_eq_zero.1 h)), if_neg (fun h => hb (e0.1 h))]
  exact ⟨p, by rw [e3]; rfl, by rw [e2, e1]; exact hp, ex⟩

end Go.Proofs.YtllijnecmekfeaaGreatDoor
end

section
set_option maxRecDepth 100000
namespace Go.Proofs.YtllijnecmekfeaaGreatDoor
open Go.RowKit
theorem fn4_num {f : Nat} (hf : f % 2 = 0) (a b : Rat) : fn4 f a.num (a.den : Int) b.num (b.den : Int) = (ratF (f / 2) a b).num := by
  unfold fn4
  rw [if_pos hf, divInt_parts, divInt_parts]
theorem fn4_den {f : Nat} (hf : f % 2 = 1) (h9 : f ≠ 9) (a b : Rat) : fn4 f a.num (a.den : Int) b.num (b.den : Int) = ((ratF (f / 2) a b).den : Int) := by
  unfold fn4
  rw [if_neg (by omega), if_neg (fun e => h9 e.1), divInt_parts, divInt_parts]
theorem args3 {E : Env} {β : Nat → Nat} {w : World} {x y z : AV} {vs : List Value} (hv : ∀ (i : Nat) (a : AV), [x, y, z][i]? = some a → ∃ v, vs[i]? = some v ∧ a.holds E β w v) (hl : vs.length = [x, y, z].length) :
    ∃ v u t, vs = [v, u, t] ∧ x.holds E β w v ∧ y.holds E β w u ∧ z.holds E β w t := by
  match vs, hl with
  | [v, u, t], _ =>
    obtain ⟨v', e1, h1⟩ := hv 0 x rfl
    obtain ⟨u', e2, h2⟩ := hv 1 y rfl
    obtain ⟨t', e3, h3⟩ := hv 2 z rfl
    injection e1 with e1
    injection e2 with e2
    injection e3 with e3
    subst e1 e2 e3
    exact ⟨_, _, _, rfl, h1, h2, h3⟩
def kSum (f g : Nat) : Con
  | [.val true [.int x l, .int y m], .val true [.int z k, .int t j], .val false [.fn h]], _ => if h == g && (canon x y && (canon z t && (decide (l ≤ 100000) && (decide (m ≤ 100000) && (decide (k ≤ 100000) && decide (j ≤ 100000)))))) then
      some (.val true [.int (.a4 (2 * f) x y z t) (l + m + k + j + 1), .int (.a4 (2 * f + 1) x y z t) (l + m + k + j + 1)]) else none
  | _, _ => none
theorem kSum_ok {E : Env} (hE : QEnv E) {f g : Nat} (hf : f < 4)
    (hc : ∀ (w : World) (v1 v2 : Value) (a b : Rat), IsRat w v1 a → IsRat w v2 b → LimQ 100000 a → LimQ 100000 b → Calls Tryz.prog 119 #[v1, v2, .func (.func g) #[] #[]] w (Ret (fun v w' => IsRat w' v (ratF f a b)) w))
    (hl : ∀ {l m k j : Nat} {a b : Rat}, Lim l a.num → Lim m (a.den : Int) → Lim k b.num → Lim j (b.den : Int) → Lim (l + m + k + j + 1) (ratF f a b).num ∧ Lim (l + m + k + j + 1) ((ratF f a b).den : Int)) :
    ConOK Tryz.prog E 119 (kSum f g) := by
  refine ⟨?_, ?_, ⟨_, Tryz.func119, by decide +kernel, by kernel_rfl⟩⟩
  · intro args As r h hG β w vs hv hlen
    unfold kSum at h
    split at h
    · rename_i x l y m z k t j g'
      split at h
      · rename_i hlo
        injection h with h
        subst h
        simp only [Bool.and_eq_true, decide_eq_true_iff, beq_iff_eq] at hlo
        obtain ⟨rfl, c1, c2, b1, b2, b3, b4⟩ := hlo
        obtain ⟨v, u, s, rfl, h1, h2, h3⟩ := args3 hv hlen
        obtain ⟨p, ep, ex1, ex2, hp, lp1, lp2⟩ := one_ratQ hE c1 h1
        obtain ⟨q, eq, ey1, ey2, hq, lq1, lq2⟩ := one_ratQ hE c2 h2
        obtain ⟨⟨l1, r1, h31, h32, h33⟩, _⟩ := h3
        simp only [Chunk.holds] at h32
        simp only [chunks] at h33
        subst h32 h33
        injection h31 with h31
        subst h31
        obtain ⟨n1, n2⟩ := hl lp1 lp2 lq1 lq2
        refine (hc w v u p q hp hq ⟨lp1.mono b1, lp2.mono b2⟩ ⟨lq1.mono b3, lq2.mono b4⟩).mono ?_
        rintro e w' ⟨v', rfl, hr, ex⟩
        have d1 : (IT.a4 (2 * f) x y z t).den E = (ratF f p q).num := by
          show fn4 (2 * f) (x.den E) (y.den E) (z.den E) (t.den E) = _
          rw [ex1, ex2, ey1, ey2, fn4_num (by omega), show 2 * f / 2 = f by omega]
        have d2 : (IT.a4 (2 * f + 1) x y z t).den E = ((ratF f p q).den : Int) := by
          show fn4 (2 * f + 1) (x.den E) (y.den E) (z.den E) (t.den E) = _
          rw [ex1, ex2, ey1, ey2, fn4_den (by omega) (by omega), show (2 * f + 1) / 2 = f by omega]
        exact ⟨_, rfl, one_pair.2 ⟨by rw [d1, d2]; exact hr, by rw [d1]; exact n1, by rw [d2]; exact n2⟩, ex⟩
      · cases h
    · cases h
  · intro args As r h x off
    unfold kSum at h
    split at h
    · split at h
      · injection h with h; subst h; intro e; cases e
      · cases h
    · cases h
theorem add_rat_calls (w : World) (v1 v2 : Value) (a b : Rat) (h1 : IsRat w v1 a) (h2 : IsRat w v2 b) (l1 : LimQ 100000 a) (l2 : LimQ 100000 b) :
    Calls Tryz.prog 67 #[v1, v2] w (Ret (fun v w' => IsRat w' v (a + b)) w) := by
  refine (walkQ2 (tab := [(119, kSum 0 120)]) (T := .leaf [(true, [.int (.a4 0 (.var 0) (.var 1) (.var 2) (.var 3)) 400001, .int (.a4 1 (.var 0) (.var 1) (.var 2) (.var 3)) 400001])])
    (.cons (kSum_ok (qE_ok _) (by omega) (fun w v1 v2 a b h1 h2 l1 l2 => sum_add_calls w v1 v2 a b h1 h2 l1 l2) (fun h1 h2 h3 h4 => LimQ.add h1 h2 h3 h4)) .nil) Tryz.func67 (by kernel_rfl) (by decide +kernel) (by decide +kernel) h1 h2 l1 l2).mono ?_
  rintro e w' ⟨β, v, rfl, hh, ex⟩
  have hp := (one_pair.1 hh).1
  have d1 : (IT.a4 0 (.var 0) (.var 1) (.var 2) (.var 3)).den (qE [a, b]) = (a + b).num := fn4_num rfl a b
  have d2 : (IT.a4 1 (.var 0) (.var 1) (.var 2) (.var 3)).den (qE [a, b]) = ((a + b).den : Int) := fn4_den rfl (by omega) a b
  rw [d1, d2] at hp
  exact ⟨v, rfl, hp, ex⟩
def kNegQ : Con
  | [.val true [.int x l, .int y m]], _ => if canon x y && (decide (l ≤ 100000) && decide (m ≤ 100000)) then some (.val true [.int (.a1 0 x) l, .int y m]) else none
  | _, _ => none
theorem kNegQ_ok {E : Env} (hE : QEnv E) {f : Nat} (hc : ∀ (w : World) (v1 : Value) (a : Rat), IsRat w v1 a → LimQ 100000 a → Calls Tryz.prog f #[v1] w (Ret (fun v w' => IsRat w' v (-a)) w))
    (hb : ∃ fn, Tryz.prog.funcs[f]? = some fn ∧ fn.name ≠ "runtime.NumGoroutine" ∧ fn.body.isNone = false) : ConOK Tryz.prog E f kNegQ := by
  refine ⟨?_, ?_, hb⟩
  · intro args As r h hG β w vs hv hlen
    unfold kNegQ at h
    split at h
    · rename_i x l y m
      split at h
      · rename_i hlo
        injection h with h
        subst h
        simp only [Bool.and_eq_true, decide_eq_true_iff] at hlo
        obtain ⟨c1, b1, b2⟩ := hlo
        obtain ⟨v, rfl, h1⟩ := args1 hv hlen
        obtain ⟨p, ep, ex1, ex2, hp, lp1, lp2⟩ := one_ratQ hE c1 h1
        refine (hc w v p hp ⟨lp1.mono b1, lp2.mono b2⟩).mono ?_
        rintro e w' ⟨v', rfl, hr, ex⟩
        have d1 : (IT.a1 0 x).den E = (-p).num := by rw [Rat.neg_num, ← ex1]; rfl
        exact ⟨_, rfl, one_pair.2 ⟨by rw [d1, ex2]; exact hr, by rw [d1]; exact lp1.neg, by rw [ex2]; exact lp2⟩, ex⟩
      · cases h
    · cases h
  · intro args As r h x off
    unfold kNegQ at h
    split at h
    · split at h
      · injection h with h; subst h; intro e; cases e
      · cases h
    · cases h
def tabR5 : List (Nat × Con) := [(24, kNegQ), (74, kQQ 0)]
theorem tabR5_ok {E : Env} (hE : QEnv E) : TabOK Tryz.prog E tabR5 :=
  .cons (kNegQ_ok hE (fun w v a h l => rneg_rat_calls w v a h l) ⟨_, Tryz.func24, by decide +kernel, by kernel_rfl⟩)
    (.cons (kQQ_ok hE (by omega) (fun w v1 v2 a b h1 h2 l1 l2 => radd_rat_calls w v1 v2 a b h1 h2 l1 l2) (fun h1 h2 h3 h4 => LimQ.add h1 h2 h3 h4) ⟨_, Tryz.func74, by decide +kernel, by kernel_rfl⟩) .nil)

end Go.Proofs.YtllijnecmekfeaaGreatDoor
end

section
set_option maxRecDepth 100000
namespace Go.Proofs.YtllijnecmekfeaaGreatDoor
open Go.RowKit
theorem rsub_rat_calls (w : World) (v1 v2 : Value) (a b : Rat) (h1 : IsRat w v1 a) (h2 : IsRat w v2 b) (l1 : LimQ 100000 a) (l2 : LimQ 100000 b) :
    Calls Tryz.prog 20 #[v1, v2] w (Ret (fun v w' => IsRat w' v (a - b)) w) := by
  refine (walkQ2 (T := .leaf [(true, [.int (.a4 0 (.var 0) (.var 1) (.a1 0 (.var 2)) (.var 3)) 400001, .int (.a4 1 (.var 0) (.var 1) (.a1 0 (.var 2)) (.var 3)) 400001])])
    (tabR5_ok (qE_ok _)) Tryz.func20 (by kernel_rfl) (by decide +kernel) (by decide +kernel) h1 h2 l1 l2).mono ?_
  rintro e w' ⟨β, v, rfl, hh, ex⟩
  have hp := (one_pair.1 hh).1
  have d1 : (IT.a4 0 (.var 0) (.var 1) (.a1 0 (.var 2)) (.var 3)).den (qE [a, b]) = (a - b).num := by rw [Rat.sub_eq_add_neg]; exact fn4_num rfl a (-b)
  have d2 : (IT.a4 1 (.var 0) (.var 1) (.a1 0 (.var 2)) (.var 3)).den (qE [a, b]) = ((a - b).den : Int) := by rw [Rat.sub_eq_add_neg]; exact fn4_den rfl (by omega) a (-b)
  rw [d1, d2] at hp
  exact ⟨v, rfl, hp, ex⟩

def bnd (i : Nat) : Asm := [(.le (.lit (-9223372036854775808)) (.var i), true), (.le (.var i) (.lit 9223372036854775807), true)]
def argN (i : Nat) : AV := .val false [.n .i64 (.var i)]
def I64 (n : Int) : Prop := -9223372036854775808 ≤ n ∧ n ≤ 9223372036854775807
theorem bnd_holds {E : Env} {i : Nat} (h : I64 (E.i i)) : (bnd i).holds E := by
  intro p hp
  simp only [bnd, List.mem_cons, List.not_mem_nil, or_false] at hp
  rcases hp with rfl | rfl
  · exact decide_eq_true h.1
  · exact decide_eq_true h.2
theorem walkN1 {tab : List (Nat × Con)} {f : Nat} {fn : Func} {T : Tree} {w : World} {n : Int} (ht : TabOK Tryz.prog (zE [n]) tab) (hf : Tryz.prog.funcs[f]? = some fn) (hT : funE (cfgOf tab) fn (bnd 0) [argN 0] = some T) (h4 : fn.results.toList.length ≤ 4) (hn : 1 ≤ fn.ntmps) (h : I64 n) :
    Calls Tryz.prog f #[.int .i64 n] w fun e w' => ∃ β v, e = .returned v ∧ (toAV (T.pick (zE [n]))).holds (zE [n]) β w' v ∧ Ext w w' := by
  refine fun_sound mixed (cfg_ok ht) (bnd_holds (E := zE [n]) (i := 0) h) hf h4 hT hn rfl w [.int .i64 n] rfl ?_
  intro i x hx
  match i, hx with
  | 0, hx => injection hx with hx; subst hx; exact ⟨fun _ => 0, _, rfl, one_num.2 rfl⟩
theorem walkN2 {tab : List (Nat × Con)} {f : Nat} {fn : Func} {T : Tree} {w : World} {n d : Int} (ht : TabOK Tryz.prog (zE [n, d]) tab) (hf : Tryz.prog.funcs[f]? = some fn) (hT : funE (cfgOf tab) fn (bnd 0 ++ bnd 1) [argN 0, argN 1] = some T) (h4 : fn.results.toList.length ≤ 4) (hn : 2 ≤ fn.ntmps) (h : I64 n) (k : I64 d) :
    Calls Tryz.prog f #[.int .i64 n, .int .i64 d] w fun e w' => ∃ β v, e = .returned v ∧ (toAV (T.pick (zE [n, d]))).holds (zE [n, d]) β w' v ∧ Ext w w' := by
  have hG : (bnd 0 ++ bnd 1).holds (zE [n, d]) := by
    intro p hp
    rcases List.mem_append.1 hp with hp | hp
    · exact bnd_holds (E := zE [n, d]) (i := 0) h p hp
    · exact bnd_holds (E := zE [n, d]) (i := 1) k p hp
  refine fun_sound mixed (cfg_ok ht) hG hf h4 hT hn rfl w [.int .i64 n, .int .i64 d] rfl ?_
  intro i x hx
  match i, hx with
  | 0, hx => injection hx with hx; subst hx; exact ⟨fun _ => 0, _, rfl, one_num.2 rfl⟩
  | 1, hx => injection hx with hx; subst hx; exact ⟨fun _ => 0, _, rfl, one_num.2 rfl⟩
theorem from_rat_calls (w : World) (n : Int) (h : I64 n) : Calls Tryz.prog 122 #[.int .i64 n] w (Ret (fun v w' => IsPair w' v n 1) w) := by
  refine (walkN1 (T := .leaf [(true, [.int (.var 0) 3, .int (.lit 1) 3])]) tabDiv_ok Tryz.func122 (by kernel_rfl) (by decide +kernel) (by decide +kernel) h).mono ?_
  rintro e w' ⟨β, v, rfl, hh, ex⟩
  exact ⟨v, rfl, (one_pair.1 hh).1, ex⟩
theorem rfrom_rat_calls (w : World) (n : Int) (h : I64 n) : Calls Tryz.prog 50 #[.int .i64 n] w (Ret (fun v w' => IsPair w' v n 1) w) := by
  refine (walkN1 (T := .leaf [(true, [.int (.var 0) 3, .int (.lit 1) 3])]) (tabR3_ok (q := false) (fun h => by cases h)) Tryz.func50 (by kernel_rfl) (by decide +kernel) (by decide +kernel) h).mono ?_
  rintro e w' ⟨β, v, rfl, hh, ex⟩
  exact ⟨v, rfl, (one_pair.1 hh).1, ex⟩
def inR (G : Asm) : IT → Bool
  | .lit z => decide (-9223372036854775808 ≤ z) && decide (z ≤ 9223372036854775807)
  | t => G.find (.le (.lit (-9223372036854775808)) t) == some true && G.find (.le t (.lit 9223372036854775807)) == some true
theorem inR_spec {E : Env} {G : Asm} (hG : G.holds E) {t : IT} (h : inR G t = true) : I64 (t.den E) := by
  unfold inR at h
  split at h
  · simpa [I64, IT.den] using h
  · rw [Bool.and_eq_true, beq_iff_eq, beq_iff_eq] at h
    have b1 := Asm.find_spec hG h.1
    have b2 := Asm.find_spec hG h.2
    simp only [BT.den, IT.den] at b1 b2
    exact ⟨of_decide_eq_true b1, of_decide_eq_true b2⟩
def kFromQ : Con
  | [.val false [.n .i64 t]], G => if inR G t then some (.val true [.int t 3, .int (.lit 1) 3]) else none
  | _, _ => none
theorem kFromQ_ok {E : Env} {f : Nat} (hc : ∀ (w : World) (n : Int), I64 n → Calls Tryz.prog f #[.int .i64 n] w (Ret (fun v w' => IsPair w' v n 1) w))
    (hb : ∃ fn, Tryz.prog.funcs[f]? = some fn ∧ fn.name ≠ "runtime.NumGoroutine" ∧ fn.body.isNone = false) : ConOK Tryz.prog E f kFromQ := by
  refine ⟨?_, ?_, hb⟩
  · intro args As r h hG β w vs hv hlen
    unfold kFromQ at h
    split at h
    · rename_i t
      split at h
      · rename_i hr
        injection h with h
        subst h
        have hi := inR_spec hG hr
        obtain ⟨v, rfl, h1⟩ := args1 hv hlen
        have h1' := one_num.1 h1
        subst h1'
        refine (hc w _ hi).mono ?_
        rintro e w' ⟨v', rfl, hp, ex⟩
        exact ⟨v', rfl, one_pair.2 ⟨hp, lim3 hi.1 hi.2, lim3 (z := 1) (by decide) (by decide)⟩, ex⟩
      · cases h
    · cases h
  · intro args As r h x off
    unfold kFromQ at h
    split at h
    · split at h
      · injection h with h; subst h; intro e; cases e
      · cases h
    · cases h
def tabFrac : List (Nat × Con) := (60, kMake) :: (122, kFromQ) :: tabDiv
theorem tabFrac_ok {E : Env} : TabOK Tryz.prog E tabFrac :=
  .cons (kMake_ok (fun w v u a b h k l1 l2 => make_calls w v u a b h k l1 l2) ⟨_, Tryz.func60, by decide +kernel, by kernel_rfl⟩)
    (.cons (kFromQ_ok (fun w n h => from_rat_calls w n h) ⟨_, Tryz.func122, by decide +kernel, by kernel_rfl⟩) tabDiv_ok)
theorem divInt_0 (n : Int) : Rat.divInt n 0 = 0 := by
  have := divInt_zero' n
  exact Rat.num_eq_zero.1 this
theorem frac_rat_calls (w : World) (n d : Int) (h : I64 n) (k : I64 d) : Calls Tryz.prog 69 #[.int .i64 n, .int .i64 d] w (Ret (fun v w' => IsRat w' v (Rat.divInt n d)) w) := by
  refine (walkN2 (T := .ite (.eq (.a1 1 (.var 1)) (.lit 0)) (.leaf [(true, [.int (.a2 7 (.var 0) (.var 1)) 3, .int (.a2 11 (.var 0) (.var 1)) 3])]) (.leaf [(true, [.int (.lit 0) 3, .int (.lit 1) 3])]))
    tabFrac_ok Tryz.func69 (by kernel_rfl) (by decide +kernel) (by decide +kernel) h k).mono ?_
  rintro e w' ⟨β, v, rfl, hh, ex⟩
  simp only [Tree.pick] at hh
  split at hh
  · rename_i hz
    have hd : d ≠ 0 := by
      intro e
      subst e
      have hz' : ((6 : Int) == 0) = true := hz
      cases hz'
    have hp := (one_pair.1 hh).1
    have e2 : (IT.a2 11 (.var 0) (.var 1)).den (zE [n, d]) = ((Rat.divInt n d).den : Int) := if_neg hd
    rw [e2] at hp
    exact ⟨v, rfl, hp, ex⟩
  · rename_i hz
    have hd : d = 0 := by
      refine Decidable.byContradiction fun hd => hz ?_
      show (de d == 0) = true
      unfold de
      rw [if_neg hd]
      rfl
    have hp := (one_pair.1 hh).1
    subst hd
    exact ⟨v, rfl, by rw [divInt_0]; exact hp, ex⟩
theorem rfrac_rat_calls (w : World) (n d : Int) (h : I64 n) (k : I64 d) : Calls Tryz.prog 22 #[.int .i64 n, .int .i64 d] w (Ret (fun v w' => IsRat w' v (Rat.divInt n d)) w) := by
  refine (walkN2 (T := .ite (.eq (.var 1) (.lit 0)) (.leaf [(true, [.int (.a2 7 (.lit 0) (.lit 1)) 3, .int (.a2 8 (.lit 0) (.lit 1)) 3])]) (.leaf [(true, [.int (.a2 7 (.var 0) (.var 1)) 3, .int (.a2 8 (.var 0) (.var 1)) 3])]))
    (tabR3_ok (q := false) (fun h => by cases h)) Tryz.func22 (by kernel_rfl) (by decide +kernel) (by decide +kernel) h k).mono ?_
  rintro e w' ⟨β, v, rfl, hh, ex⟩
  simp only [Tree.pick] at hh
  split at hh
  · rename_i hz
    have hd : d = 0 := eq_of_beq hz
    have hp := (one_pair.1 hh).1
    subst hd
    have e0 : Rat.divInt 0 1 = 0 := by rw [← Rat.num_eq_zero, Rat.num_divInt]; simp
    refine ⟨v, rfl, ?_, ex⟩
    rw [divInt_0, ← e0]
    exact hp
  · exact ⟨v, rfl, (one_pair.1 hh).1, ex⟩
theorem floor_rat_calls (w : World) (v1 : Value) (a : Rat) (h1 : IsRat w v1 a) (l1 : LimQ 100000 a) :
    Calls Tryz.prog 66 #[v1] w (Ret (fun v w' => IsInt w' v (dq a.num (a.den : Int))) w) := by
  refine (walkQ1 (T := .leaf [(true, [.int (.a2 4 (.var 0) (.var 1)) 100000])]) tabMul_ok Tryz.func66 (by kernel_rfl) (by decide +kernel) (by decide +kernel) h1 l1).mono ?_
  rintro e w' ⟨β, v, rfl, hh, ex⟩
  exact ⟨v, rfl, (one_int.1 hh).1, ex⟩

end Go.Proofs.YtllijnecmekfeaaGreatDoor
end

section
set_option maxRecDepth 100000
namespace Go.Proofs.YtllijnecmekfeaaGreatDoor
open Go.RowKit
def kCmpQ : Con
  | [.val true [.int x l, .int y m], .val true [.int z k, .int t j]], _ => if canon x y && (canon z t && (ql l && (ql m && (ql k && ql j)))) then some (.val false [.n .i64 (.a2 3 (.a2 2 x t) (.a2 2 z y))]) else none
  | _, _ => none
theorem kCmpQ_ok {E : Env} (hE : QEnv E) {f : Nat} (hc : ∀ (w : World) (v1 v2 : Value) (a b : Rat), IsRat w v1 a → IsRat w v2 b → LimQ 100000 a → LimQ 100000 b → Calls Tryz.prog f #[v1, v2] w fun e w' => e = .returned (.int .i64 (cmpZ (a.num * (b.den : Int)) (b.num * (a.den : Int)))) ∧ Ext w w')
    (hb : ∃ fn, Tryz.prog.funcs[f]? = some fn ∧ fn.name ≠ "runtime.NumGoroutine" ∧ fn.body.isNone = false) : ConOK Tryz.prog E f kCmpQ := by
  refine ⟨?_, ?_, hb⟩
  · intro args As r h hG β w vs hv hlen
    unfold kCmpQ at h
    split at h
    · rename_i x l y m z k t j
      split at h
      · rename_i hlo
        injection h with h
        subst h
        simp only [ql, Bool.and_eq_true, decide_eq_true_iff] at hlo
        obtain ⟨c1, c2, b1, b2, b3, b4⟩ := hlo
        obtain ⟨v, u, rfl, h1, h2⟩ := args2 hv hlen
        obtain ⟨p, ep, ex1, ex2, hp, lp1, lp2⟩ := one_ratQ hE c1 h1
        obtain ⟨q, eq, ey1, ey2, hq, lq1, lq2⟩ := one_ratQ hE c2 h2
        refine (hc w v u p q hp hq ⟨lp1.mono b1, lp2.mono b2⟩ ⟨lq1.mono b3, lq2.mono b4⟩).mono ?_
        rintro e w' ⟨rfl, ex⟩
        refine ⟨_, rfl, one_num.2 ?_, ex⟩
        show Value.int .i64 _ = .int .i64 (cmpZ (x.den E * t.den E) (z.den E * y.den E))
        rw [ex1, ex2, ey1, ey2]
      · cases h
    · cases h
  · intro args As r h x off
    unfold kCmpQ at h
    split at h
    · split at h
      · injection h with h; subst h; intro e; cases e
      · cases h
    · cases h

def kIIb (g : IT → IT → BT) : Con
  | [.val true [.int x _], .val true [.int y _]], _ => some (.val false [.b (g x y)])
  | _, _ => none
theorem kIIb_ok {P : Program} {E : Env} {f : Nat} {g : IT → IT → BT} (G : Int → Int → Bool) (hg : ∀ x y, (g x y).den E = G (x.den E) (y.den E))
    (hc : ∀ (w : World) (v1 v2 : Value) (z1 z2 : Int), IsInt w v1 z1 → IsInt w v2 z2 → Calls P f #[v1, v2] w (fun e w' => e = .returned (.bool (G z1 z2)) ∧ Ext w w'))
    (hb : ∃ fn, P.funcs[f]? = some fn ∧ fn.name ≠ "runtime.NumGoroutine" ∧ fn.body.isNone = false) : ConOK P E f (kIIb g) := by
  refine ⟨?_, ?_, hb⟩
  · intro args As r h hG β w vs hv hlen
    unfold kIIb at h
    split at h
    · injection h with h
      subst h
      obtain ⟨v, u, rfl, h1, h2⟩ := args2 hv hlen
      refine (hc w v u _ _ (one_int.1 h1).1 (one_int.1 h2).1).mono ?_
      rintro e w' ⟨rfl, ex⟩
      exact ⟨_, rfl, one_bool.2 (by rw [hg]), ex⟩
    · cases h
  · intro args As r h x off
    unfold kIIb at h
    split at h
    · injection h with h; subst h; intro e; cases e
    · cases h
theorem same_rat_calls (w : World) (v1 v2 : Value) (n1 d1 n2 d2 : Int) (h1 : IsPair w v1 n1 d1) (h2 : IsPair w v2 n2 d2) (l1 : Lim 100000 n1) (l1' : Lim 100000 d1) (l2 : Lim 100000 n2) (l2' : Lim 100000 d2) :
    Calls Tryz.prog 14 #[v1, v2] w fun e w' => e = .returned (.bool (n1 == n2 && d1 == d2)) ∧ Ext w w' := by
  refine (walkP2 (tab := [(28, kIIb fun x y => .eq x y)]) (T := .ite (.eq (.var 0) (.var 2)) (.leaf [(false, [.b (.eq (.var 1) (.var 3))])]) (.leaf [(false, [.b (.lit false)])]))
    (.cons (kIIb_ok (fun x y => x == y) (fun _ _ => rfl) (fun w v1 v2 z1 z2 h1 h2 => (rsame_calls w v1 v2 z1 z2 h1 h2).mono (fun e w' h => ⟨by rw [h.1]; by_cases hz : z1 = z2 <;> simp [hz], h.2⟩)) ⟨_, Tryz.func28, by decide +kernel, by kernel_rfl⟩) .nil) Tryz.func14 (by kernel_rfl) (by decide +kernel) (by decide +kernel) h1 h2 l1 l1' l2 l2').mono ?_
  rintro e w' ⟨β, v, rfl, hh, ex⟩
  simp only [Tree.pick] at hh
  split at hh
  · rename_i hz
    have := one_bool.1 hh
    subst this
    have hz' : (n1 == n2) = true := hz
    rw [hz', Bool.true_and]
    exact ⟨rfl, ex⟩
  · rename_i hz
    have := one_bool.1 hh
    subst this
    have hz' : (n1 == n2) = false := by rw [← Bool.not_eq_true]; exact hz
    rw [hz', Bool.false_and]
    exact ⟨rfl, ex⟩
def kSame : Con
  | [.val true [.int x l, .int y m], .val true [.int z k, .int t j]], _ => if ql l && (ql m && (ql k && ql j)) then some (.val false [.b (if x.beq z && y.beq t then .lit true else .and (.eq x z) (.eq y t))]) else none
  | _, _ => none
theorem kSame_ok {E : Env} : ConOK Tryz.prog E 14 kSame := by
  refine ⟨?_, ?_, ⟨_, Tryz.func14, by decide +kernel, by kernel_rfl⟩⟩
  · intro args As r h hG β w vs hv hlen
    unfold kSame at h
    split at h
    · rename_i x l y m z k t j
      split at h
      · rename_i hlo
        injection h with h
        subst h
        simp only [ql, Bool.and_eq_true, decide_eq_true_iff] at hlo
        obtain ⟨b1, b2, b3, b4⟩ := hlo
        obtain ⟨v, u, rfl, h1, h2⟩ := args2 hv hlen
        obtain ⟨p1, a1, a2⟩ := one_pair.1 h1
        obtain ⟨p2, a3, a4⟩ := one_pair.1 h2
        refine (same_rat_calls w v u _ _ _ _ p1 p2 (a1.mono b1) (a2.mono b2) (a3.mono b3) (a4.mono b4)).mono ?_
        rintro e w' ⟨rfl, ex⟩
        refine ⟨_, rfl, one_bool.2 ?_, ex⟩
        split
        · rename_i hb
          rw [Bool.and_eq_true] at hb
          rw [IT.eq_of_beq hb.1, IT.eq_of_beq hb.2]
          simp [BT.den]
        · rfl
      · cases h
    · cases h
  · intro args As r h x off
    unfold kSame at h
    split at h
    · split at h
      · injection h with h; subst h; intro e; cases e
      · cases h
    · cases h

def kDiv : Con
  | [.val true [.int x l, .int y m], .val true [.int z k, .int t j]], _ => if canon x y && (canon z t && (ql l && (ql m && (ql k && ql j)))) then
      some (.tup [(true, [.int (.a4 8 x y z t) (l + m + k + j + 1), .int (.a4 9 x y z t) (l + m + k + j + 1)]), (false, [.n .i64 (.a1 1 z)])]) else none
  | _, _ => none
theorem LimQ.div {l m k j : Nat} {a b : Rat} (h1 : Lim l a.num) (h2 : Lim m (a.den : Int)) (h3 : Lim k b.num) (h4 : Lim j (b.den : Int)) : Lim (l + m + k + j + 1) (a / b).num ∧ Lim (l + m + k + j + 1) (divD a b) := by
  unfold divD
  by_cases hb : b = 0
  · rw [if_pos hb, hb, Rat.div_def, Rat.inv_zero, Rat.mul_zero]
    exact ⟨lim_zero, lim_zero⟩
  · have hn : b.num ≠ 0 := fun e => hb (Rat.num_eq_zero.1 e)
    rw [if_neg hb, Rat.div_def]
    have e1 : Lim j b⁻¹.num := by
      refine h4.natAbs_le ?_
      rw [Rat.num_inv, Int.natAbs_mul, Int.natAbs_sign_of_ne_zero hn, Nat.one_mul]
      exact Nat.le_refl _
    have e2 : Lim k (b⁻¹.den : Int) := by
      refine h3.natAbs_le ?_
      rw [Rat.den_inv, if_neg hn]
      exact Nat.le_refl _
    obtain ⟨r1, r2⟩ := LimQ.mul h1 h2 e1 e2
    exact ⟨r1.mono (by omega), r2.mono (by omega)⟩
theorem kDiv_ok {E : Env} (hE : QEnv E) {f : Nat} (hc : ∀ (w : World) (v1 v2 : Value) (a b : Rat), IsRat w v1 a → IsRat w v2 b → LimQ 100000 a → LimQ 100000 b → Calls Tryz.prog f #[v1, v2] w (RetDiv a b w))
    (hb : ∃ fn, Tryz.prog.funcs[f]? = some fn ∧ fn.name ≠ "runtime.NumGoroutine" ∧ fn.body.isNone = false) : ConOK Tryz.prog E f kDiv := by
  refine ⟨?_, ?_, hb⟩
  · intro args As r h hG β w vs hv hlen
    unfold kDiv at h
    split at h
    · rename_i x l y m z k t j
      split at h
      · rename_i hlo
        injection h with h
        subst h
        simp only [ql, Bool.and_eq_true, decide_eq_true_iff] at hlo
        obtain ⟨c1, c2, b1, b2, b3, b4⟩ := hlo
        obtain ⟨v, u, rfl, h1, h2⟩ := args2 hv hlen
        obtain ⟨p, ep, ex1, ex2, hp, lp1, lp2⟩ := one_ratQ hE c1 h1
        obtain ⟨q, eq, ey1, ey2, hq, lq1, lq2⟩ := one_ratQ hE c2 h2
        obtain ⟨n1, n2⟩ := LimQ.div lp1 lp2 lq1 lq2
        refine (hc w v u p q hp hq ⟨lp1.mono b1, lp2.mono b2⟩ ⟨lq1.mono b3, lq2.mono b4⟩).mono ?_
        rintro e w' ⟨v', rfl, hr, ex⟩
        have d1 : (IT.a4 8 x y z t).den E = (p / q).num := by
          show fn4 8 (x.den E) (y.den E) (z.den E) (t.den E) = _
          rw [ex1, ex2, ey1, ey2]
          exact fn4_num rfl p q
        have d2 : (IT.a4 9 x y z t).den E = divD p q := by
          show fn4 9 (x.den E) (y.den E) (z.den E) (t.den E) = _
          rw [ex1, ex2, ey1, ey2]
          unfold fn4 divD
          rw [if_neg (by decide), divInt_parts, divInt_parts]
          by_cases hq : q = 0
          · rw [if_pos ⟨rfl, hq⟩, if_pos hq]
          · rw [if_neg (fun h => hq h.2), if_neg hq]; rfl
        refine ⟨_, rfl, ⟨[v', .int .i64 (de q.num)], rfl, _, _, rfl, one_pair.2 ⟨by rw [d1, d2]; exact hr, by rw [d1]; exact n1, by rw [d2]; exact n2⟩, _, _, rfl, one_num.2 ?_, rfl⟩, ex⟩
        show Value.int .i64 (de q.num) = .int .i64 (de (z.den E))
        rw [ey1]
      · cases h
    · cases h
  · intro args As r h x off
    unfold kDiv at h
    split at h
    · split at h
      · injection h with h; subst h; intro e; cases e
      · cases h
    · cases h

end Go.Proofs.YtllijnecmekfeaaGreatDoor
end

section
set_option maxRecDepth 100000
namespace Go.Proofs.YtllijnecmekfeaaGreatDoor
open Go.RowKit
theorem len_eq0 (z : Int) : ((((limbs z.natAbs).length : Int) == 0) = true) ↔ z = 0 := by
  have := len_pos_iff z.natAbs
  rw [beq_iff_eq]
  omega
theorem zero_rat_calls (w : World) (v1 : Value) (n d : Int) (h1 : IsPair w v1 n d) (l1 : Lim 100000 n) (l2 : Lim 100000 d) :
    Calls Tryz.prog 15 #[v1] w fun e w' => e = .returned (.bool (n == 0 && d == 0)) ∧ Ext w w' := by
  refine (fun_sound (C := cfgOf []) (E := zE [n, d]) (args := [argQ 0]) (T := .ite (.eq (.a1 4 (.var 0)) (.lit 0)) (.ite (.eq (.a1 4 (.var 1)) (.lit 0)) (.ite (.lt (.var 0) (.lit 0)) (.leaf [(false, [.b (.lit false)])]) (.leaf [(false, [.b (.not (.lt (.var 1) (.lit 0)))])])) (.leaf [(false, [.b (.lit false)])])) (.leaf [(false, [.b (.lit false)])]))
    mixed (cfg_ok .nil) no_asm Tryz.func15 (by decide +kernel) (by kernel_rfl) (by decide +kernel) rfl w [v1] rfl ?_).mono ?_
  · intro i x hx
    match i, hx with
    | 0, hx => injection hx with hx; subst hx; exact ⟨fun _ => 0, v1, rfl, argP_holds h1 l1 l2 rfl rfl⟩
  · rintro e w' ⟨β, v, rfl, hh, ex⟩
    simp only [Tree.pick] at hh
    split at hh
    · rename_i hz
      have hn : n = 0 := (len_eq0 n).1 hz
      split at hh
      · rename_i hz
        have hd : d = 0 := (len_eq0 d).1 hz
        subst hn hd
        split at hh
        · rename_i hlt
          cases hlt
        · have := one_bool.1 hh
          subst this
          exact ⟨rfl, ex⟩
      · rename_i hz
        have hd : (d == 0) = false := by
          rw [beq_eq_false_iff_ne]
          exact fun e => hz ((len_eq0 d).2 e)
        have := one_bool.1 hh
        subst this
        rw [hd, Bool.and_false]
        exact ⟨rfl, ex⟩
    · rename_i hz
      have hn : (n == 0) = false := by
        rw [beq_eq_false_iff_ne]
        exact fun e => hz ((len_eq0 n).2 e)
      have := one_bool.1 hh
      subst this
      rw [hn, Bool.false_and]
      exact ⟨rfl, ex⟩
def kZero : Con
  | [.val true [.int x l, .int y m]], _ => if decide (l ≤ 100000) && decide (m ≤ 100000) then some (.val false [.b (.and (.eq x (.lit 0)) (.eq y (.lit 0)))]) else none
  | _, _ => none
theorem kZero_ok {E : Env} : ConOK Tryz.prog E 15 kZero := by
  refine ⟨?_, ?_, ⟨_, Tryz.func15, by decide +kernel, by kernel_rfl⟩⟩
  · intro args As r h hG β w vs hv hlen
    unfold kZero at h
    split at h
    · split at h
      · rename_i hlo
        injection h with h
        subst h
        simp only [Bool.and_eq_true, decide_eq_true_iff] at hlo
        obtain ⟨v, rfl, h1⟩ := args1 hv hlen
        obtain ⟨p1, a1, a2⟩ := one_pair.1 h1
        refine (zero_rat_calls w v _ _ p1 (a1.mono hlo.1) (a2.mono hlo.2)).mono ?_
        rintro e w' ⟨rfl, ex⟩
        exact ⟨_, rfl, one_bool.2 rfl, ex⟩
      · cases h
    · cases h
  · intro args As r h x off
    unfold kZero at h
    split at h
    · split at h
      · injection h with h; subst h; intro e; cases e
      · cases h
    · cases h
def kFrac : Con
  | [.val false [.n .i64 x], .val false [.n .i64 y]], G => if inR G x && inR G y then some (.val true [.int (.a2 7 x y) 3, .int (.a2 8 x y) 3]) else none
  | _, _ => none
theorem frac_lim {n d : Int} (h : I64 n) (k : I64 d) : Lim 3 (Rat.divInt n d).num ∧ Lim 3 ((Rat.divInt n d).den : Int) := by
  by_cases hd : d = 0
  · subst hd
    rw [divInt_0]
    exact ⟨lim_zero, lim3 (z := 1) (by decide) (by decide)⟩
  · exact divInt_lim (lim3 h.1 h.2) (lim3 k.1 k.2) hd
theorem kFrac_ok {E : Env} {f : Nat} (hc : ∀ (w : World) (n d : Int), I64 n → I64 d → Calls Tryz.prog f #[.int .i64 n, .int .i64 d] w (Ret (fun v w' => IsRat w' v (Rat.divInt n d)) w))
    (hb : ∃ fn, Tryz.prog.funcs[f]? = some fn ∧ fn.name ≠ "runtime.NumGoroutine" ∧ fn.body.isNone = false) : ConOK Tryz.prog E f kFrac := by
  refine ⟨?_, ?_, hb⟩
  · intro args As r h hG β w vs hv hlen
    unfold kFrac at h
    split at h
    · split at h
      · rename_i hr
        injection h with h
        subst h
        rw [Bool.and_eq_true] at hr
        have i1 := inR_spec hG hr.1
        have i2 := inR_spec hG hr.2
        obtain ⟨v, u, rfl, h1, h2⟩ := args2 hv hlen
        have h1' := one_num.1 h1
        have h2' := one_num.1 h2
        subst h1' h2'
        refine (hc w _ _ i1 i2).mono ?_
        rintro e w' ⟨v', rfl, hp, ex⟩
        obtain ⟨m1, m2⟩ := frac_lim i1 i2
        exact ⟨v', rfl, one_pair.2 ⟨hp, m1, m2⟩, ex⟩
      · cases h
    · cases h
  · intro args As r h x off
    unfold kFrac at h
    split at h
    · split at h
      · injection h with h; subst h; intro e; cases e
      · cases h
    · cases h
def tabQ : List (Nat × Con) :=
  
  (115, kDiv)  ::
  (67, kQQ 0)  ::
  (74, kQQ 0)  ::
  
  (20, kQQ 1)  ::
  (121, kQQ 2)  ::
  (19, kQQ 2)  ::
  (144, kNegQ)  ::
  (24, kNegQ)  ::
  (14, kSame)  ::
  (15, kZero)  ::
  (60, kMake)  ::
  (164, kMake)  ::
  (122, kFromQ)  ::
  (50, kFromQ)  ::
  (69, kFrac)  ::
  (22, kFrac)  ::
  []
theorem tabQ_ok {E : Env} (hE : QEnv E) : TabOK Tryz.prog E tabQ := by
  
  refine .cons (kDiv_ok hE (fun w v1 v2 a b h1 h2 l1 l2 => rdiv_rat_calls w v1 v2 a b h1 h2 l1 l2) ⟨_, Tryz.func115, by decide +kernel, by kernel_rfl⟩) ?_ 
  refine .cons (kQQ_ok hE (by omega) (fun w v1 v2 a b h1 h2 l1 l2 => add_rat_calls w v1 v2 a b h1 h2 l1 l2) (fun h1 h2 h3 h4 => LimQ.add h1 h2 h3 h4) ⟨_, Tryz.func67, by decide +kernel, by kernel_rfl⟩) ?_ 
  refine .cons (kQQ_ok hE (by omega) (fun w v1 v2 a b h1 h2 l1 l2 => radd_rat_calls w v1 v2 a b h1 h2 l1 l2) (fun h1 h2 h3 h4 => LimQ.add h1 h2 h3 h4) ⟨_, Tryz.func74, by decide +kernel, by kernel_rfl⟩) ?_ 
  
  refine .cons (kQQ_ok hE (by omega) (fun w v1 v2 a b h1 h2 l1 l2 => rsub_rat_calls w v1 v2 a b h1 h2 l1 l2) (fun h1 h2 h3 h4 => LimQ.sub h1 h2 h3 h4) ⟨_, Tryz.func20, by decide +kernel, by kernel_rfl⟩) ?_ 
  refine .cons (kQQ_ok hE (by omega) (fun w v1 v2 a b h1 h2 l1 l2 => mul_rat_calls w v1 v2 a b h1 h2 l1 l2) (fun h1 h2 h3 h4 => LimQ.mul h1 h2 h3 h4) ⟨_, Tryz.func121, by decide +kernel, by kernel_rfl⟩) ?_ 
  refine .cons (kQQ_ok hE (by omega) (fun w v1 v2 a b h1 h2 l1 l2 => rmul_rat_calls w v1 v2 a b h1 h2 l1 l2) (fun h1 h2 h3 h4 => LimQ.mul h1 h2 h3 h4) ⟨_, Tryz.func19, by decide +kernel, by kernel_rfl⟩) ?_ 
  refine .cons (kNegQ_ok hE (fun w v a h l => neg_rat_calls w v a h l) ⟨_, Tryz.func144, by decide +kernel, by kernel_rfl⟩) ?_ 
  refine .cons (kNegQ_ok hE (fun w v a h l => rneg_rat_calls w v a h l) ⟨_, Tryz.func24, by decide +kernel, by kernel_rfl⟩) ?_ 
  refine .cons kSame_ok ?_ 
  refine .cons kZero_ok ?_ 
  refine .cons (kMake_ok (fun w v u a b h k l1 l2 => make_calls w v u a b h k l1 l2) ⟨_, Tryz.func60, by decide +kernel, by kernel_rfl⟩) ?_ 
  refine .cons (kMake_ok (fun w v u a b h k l1 l2 => rmake_calls w v u a b h k l1 l2) ⟨_, Tryz.func164, by decide +kernel, by kernel_rfl⟩) ?_ 
  refine .cons (kFromQ_ok (fun w n h => from_rat_calls w n h) ⟨_, Tryz.func122, by decide +kernel, by kernel_rfl⟩) ?_ 
  refine .cons (kFromQ_ok (fun w n h => rfrom_rat_calls w n h) ⟨_, Tryz.func50, by decide +kernel, by kernel_rfl⟩) ?_ 
  refine .cons (kFrac_ok (fun w n d h k => frac_rat_calls w n d h k) ⟨_, Tryz.func69, by decide +kernel, by kernel_rfl⟩) ?_ 
  refine .cons (kFrac_ok (fun w n d h k => rfrac_rat_calls w n d h k) ⟨_, Tryz.func22, by decide +kernel, by kernel_rfl⟩) ?_ 
  exact .nil

end Go.Proofs.YtllijnecmekfeaaGreatDoor
end

section
set_option maxRecDepth 100000
namespace Go.Proofs.YtllijnecmekfeaaGreatDoor
open Go.RowKit
def RawQ (w : World) (v : Value) (s1 : Bool) (xs1 : List Nat) (s2 : Bool) (xs2 : List Nat) : Prop :=
  ∃ a b c d, v = .agg #[a, b, c, d] ∧ Raw w (.agg #[a, b]) s1 xs1 ∧ Raw w (.agg #[c, d]) s2 xs2
def okQ (s1 : Bool) (xs1 : List Nat) (s2 : Bool) (xs2 : List Nat) : Bool :=
  okB s1 xs1 && okB s2 xs2 && decide (0 < sgn s2 (val xs2)) && decide (Nat.gcd (sgn s1 (val xs1)).natAbs (sgn s2 (val xs2)).natAbs = 1)
end Go.Proofs.YtllijnecmekfeaaGreatDoor
end

section
set_option maxRecDepth 100000
namespace Go.Proofs.YtllijnecmekfeaaGreatDoor
open Go.RowKit
end Go.Proofs.YtllijnecmekfeaaGreatDoor
end

section
set_option maxRecDepth 100000
namespace Go.Proofs.YtllijnecmekfeaaGreatDoor
open Go.RowKit
end Go.Proofs.YtllijnecmekfeaaGreatDoor
end

section
set_option maxRecDepth 100000
namespace Go.Proofs.YtllijnecmekfeaaGreatDoor
open Go.RowKit
end Go.Proofs.YtllijnecmekfeaaGreatDoor
end

section
set_option maxRecDepth 100000
namespace Go.Proofs.YtllijnecmekfeaaGreatDoor
open Go.RowKit
theorem int_raw {w : World} {v : Value} {z : Int} (h : IsInt w v z) : Raw w v (decide (z < 0)) (limbs z.natAbs) ∧ okB (decide (z < 0)) (limbs z.natAbs) = true := by
  obtain ⟨ao, cap, s, n, rfl, h1, h2, h3, H4, H5, H6⟩ := h.open_
  obtain ⟨k1, k2⟩ := isInt_raw h1 h2 h3 H6.out
  have e4 : n = z.natAbs := H4.out
  have e5 : z = sgn s n := H5.out
  have e6 := H6.out
  have es : s = decide (z < 0) := by
    cases s with
    | true => rw [eq_comm, decide_eq_true_iff, e5]; have := e6 rfl; simp [sgn]; omega
    | false => rw [eq_comm, decide_eq_false_iff_not, e5]; simp [sgn]
  rw [← e4, ← es]
  exact ⟨k1, k2⟩
def rawOf (q : Rat) : List (Bool × List Nat) := [(decide (q.num < 0), limbs q.num.natAbs), (decide ((q.den : Int) < 0), limbs (q.den : Int).natAbs)]
end Go.Proofs.YtllijnecmekfeaaGreatDoor
end

section
set_option maxRecDepth 100000
namespace Go.Proofs.YtllijnecmekfeaaGreatDoor
open Go.RowKit
end Go.Proofs.YtllijnecmekfeaaGreatDoor
end

section
set_option maxRecDepth 100000
namespace Go.Proofs.YtllijnecmekfeaaGreatDoor
open Go.RowKit
theorem lim1 {z : Int} (h : z.natAbs < 1000000000) : Lim 1 z := limbs_len_le (by simpa using h)
end Go.Proofs.YtllijnecmekfeaaGreatDoor
end

section
set_option maxRecDepth 100000
namespace Go.Proofs.YtllijnecmekfeaaGreatDoor
open Go.RowKit
end Go.Proofs.YtllijnecmekfeaaGreatDoor
end

section
set_option maxRecDepth 100000
namespace Go.Proofs.YtllijnecmekfeaaGreatDoor
open Go.RowKit
theorem isqN_le (n : Nat) : isqN n ≤ n := Nat.le_trans (Nat.le_mul_self _) (isqN_spec n).1
theorem isq_lim {l : Nat} {z : Int} (h : Lim l z) : Lim l (isq z) := by
  refine h.natAbs_le ?_
  unfold isq
  split
  · simp
  · rw [Int.natAbs_natCast]; exact isqN_le _
def kSqI : Con
  | [.val true [.int x l]], _ => if lo l then some (.tup [(true, [.int (.a1 2 x) l]), (false, [.n .i64 (.a1 3 x)])]) else none
  | _, _ => none
theorem kSqI_ok {E : Env} : ConOK Tryz.prog E 188 kSqI := by
  refine ⟨?_, ?_, ⟨_, Tryz.func188, by decide +kernel, by kernel_rfl⟩⟩
  · intro args As r h hG β w vs hv hlen
    unfold kSqI at h
    split at h
    · split at h
      · rename_i hlo
        injection h with h
        subst h
        simp only [lo, decide_eq_true_iff] at hlo
        obtain ⟨v, rfl, h1⟩ := args1 hv hlen
        obtain ⟨i1, l1⟩ := one_int.1 h1
        refine (sqrt_any w v _ i1 (l1.mono (by omega))).mono ?_
        rintro e w' ⟨u, rfl, k1, ex⟩
        exact ⟨_, rfl, ⟨[u, .int .i64 _], rfl, u, _, rfl, one_int.2 ⟨k1, isq_lim l1⟩, _, _, rfl, one_num.2 rfl, rfl⟩, ex⟩
      · cases h
    · cases h
  · intro args As r h x off
    unfold kSqI at h
    split at h
    · split at h
      · injection h with h; subst h; intro e; cases e
      · cases h
    · cases h
def sqB (z : Int) : Bool := isqE z == 0 && cmpZ (isq z * isq z) z == 0
def kSqr : Con
  | [.val true [.int x l]], _ => if decide (l ≤ 100000) then some (.tup [(true, [.int (.a1 2 x) l]), (false, [.b (.and (.eq (.a1 3 x) (.lit 0)) (.eq (.a2 3 (.a2 2 (.a1 2 x) (.a1 2 x)) x) (.lit 0)))])]) else none
  | _, _ => none
end Go.Proofs.YtllijnecmekfeaaGreatDoor
end

section
set_option maxRecDepth 100000
namespace Go.Proofs.YtllijnecmekfeaaGreatDoor
open Go.RowKit
def lookN {α : Type} : List (Nat × α) → Nat → Option α
  | [], _ => none
  | p :: l, t => if p.1 == t then some p.2 else lookN l t
theorem lookN_mem {α : Type} : ∀ {l : List (Nat × α)} {t : Nat} {x : α}, lookN l t = some x → (t, x) ∈ l
  | [], _, _, h => by simp [lookN] at h
  | p :: l, t, x, h => by
    unfold lookN at h
    split at h
    · rename_i hp
      have : p.1 = t := by simpa using hp
      injection h with h
      obtain ⟨a, b⟩ := p
      simp only at this h
      subst this h
      exact List.mem_cons_self
    · exact List.mem_cons_of_mem _ (lookN_mem h)
def updI : List Nat → List Int → Nat → Option Int
  | v :: vs, z :: zs, k => if k = v then some z else updI vs zs k
  | _, _, _ => none
def Env.upd (E : Env) (vs : List Nat) (zs : List Int) : Env := { E with i := fun k => (updI vs zs k).getD (E.i k) }
theorem updI_map (f : Nat → Int) : ∀ (vs : List Nat) (k : Nat), updI vs (vs.map f) k = if k ∈ vs then some (f k) else none
  | [], k => rfl
  | v :: vs, k => by
    simp only [List.map_cons, updI, List.mem_cons]
    by_cases h : k = v
    · subst h; simp
    · rw [if_neg h, updI_map f vs k]
      simp [h]
structure LInv where
  lk : List (Nat × AV)
  vr : List (Nat × List Chunk)
  vs : List Nat
  G : Asm
  lm : List (Nat × Nat)
def LInv.st (I : LInv) : St := ⟨lookN I.lk, lookN I.vr⟩
def IT.free (vs : List Nat) : IT → Bool
  | .var i => !(vs.contains i)
  | .lit _ => true
  | .rlen _ => true
  | .slen _ => true
  | .a1 _ x => x.free vs
  | .a2 _ x y => x.free vs && y.free vs
  | .a4 _ x y z t => (x.free vs && y.free vs) && (z.free vs && t.free vs)
def ST.free (vs : List Nat) : ST → Bool
  | .lit _ => true
  | .var _ => true
  | .fmt z => z.free vs
  | .cat x y => x.free vs && y.free vs
def BT.free (vs : List Nat) : BT → Bool
  | .seq x y => x.free vs && y.free vs
  | .lit _ => true
  | .var _ => true
  | .eq x y => x.free vs && y.free vs
  | .lt x y => x.free vs && y.free vs
  | .le x y => x.free vs && y.free vs
  | .ok _ => true
  | .and x y => x.free vs && y.free vs
  | .not x => x.free vs
theorem IT.den_free {E : Env} {vs : List Nat} {zs : List Int} (_hz : zs.length = vs.length) : ∀ {t : IT}, t.free vs = true → t.den (E.upd vs zs) = t.den E := by
  have hup : ∀ (vs : List Nat) (zs : List Int) (k : Nat), k ∉ vs → updI vs zs k = none := by
    intro vs
    induction vs with
    | nil => intro zs k _; simp [updI]
    | cons v vs ih =>
      intro zs k hk
      cases zs with
      | nil => rfl
      | cons z zs =>
        simp only [updI]
        rw [if_neg (fun e => hk (by rw [e]; simp))]
        exact ih zs k (fun h => hk (by simp [h]))
  intro t
  induction t with
  | var i =>
    intro h
    simp only [IT.free, Bool.not_eq_true', List.contains_eq_mem, decide_eq_false_iff_not] at h
    simp only [IT.den, Env.upd, hup vs zs i h, Option.getD_none]
  | lit z => intro _; rfl
  | rlen i => intro _; rfl
  | slen i => intro _; rfl
  | a1 f x ih => intro h; simp only [IT.free] at h; simp only [IT.den, ih h]
  | a2 f x y ihx ihy => intro h; simp only [IT.free, Bool.and_eq_true] at h; simp only [IT.den, ihx h.1, ihy h.2]
  | a4 f x y z t ihx ihy ihz iht =>
    intro h
    simp only [IT.free, Bool.and_eq_true] at h
    simp only [IT.den, ihx h.1.1, ihy h.1.2, ihz h.2.1, iht h.2.2]
theorem ST.den_free {E : Env} {vs : List Nat} {zs : List Int} (hz : zs.length = vs.length) : ∀ {t : ST}, t.free vs = true → t.den (E.upd vs zs) = t.den E := by
  intro t
  induction t with
  | lit l => intro _; rfl
  | var i => intro _; rfl
  | fmt z => intro h; simp only [ST.free] at h; simp only [ST.den, IT.den_free hz h]
  | cat x y ihx ihy => intro h; simp only [ST.free, Bool.and_eq_true] at h; simp only [ST.den, ihx h.1, ihy h.2]
theorem BT.den_free {E : Env} {vs : List Nat} {zs : List Int} (hz : zs.length = vs.length) : ∀ {t : BT}, t.free vs = true → t.den (E.upd vs zs) = t.den E := by
  intro t
  induction t with
  | lit b => intro _; rfl
  | var i => intro _; rfl
  | ok i => intro _; rfl
  | seq x y => intro h; simp only [BT.free, Bool.and_eq_true] at h; simp only [BT.den, ST.den_free hz h.1, ST.den_free hz h.2]
  | eq x y => intro h; simp only [BT.free, Bool.and_eq_true] at h; simp only [BT.den, IT.den_free hz h.1, IT.den_free hz h.2]
  | lt x y => intro h; simp only [BT.free, Bool.and_eq_true] at h; simp only [BT.den, IT.den_free hz h.1, IT.den_free hz h.2]
  | le x y => intro h; simp only [BT.free, Bool.and_eq_true] at h; simp only [BT.den, IT.den_free hz h.1, IT.den_free hz h.2]
  | and x y ihx ihy => intro h; simp only [BT.free, Bool.and_eq_true] at h; simp only [BT.den, ihx h.1, ihy h.2]
  | not x ih => intro h; simp only [BT.free] at h; simp only [BT.den, ih h]

abbrev Sig := List (Nat × IT)
def colT (vs : List Nat) (p t : IT) (σ : Sig) : Sig :=
  match p with
  | .var i => if vs.contains i && (lookN σ i).isNone then (i, t) :: σ else σ
  | _ => σ
def colC (vs : List Nat) : Chunk → Chunk → Sig → Sig
  | .int p _, .int t _, σ => colT vs p t σ
  | .n _ p, .n _ t, σ => colT vs p t σ
  | .mag p _, .mag t _, σ => colT vs p t σ
  | _, _, σ => σ
def colCs (vs : List Nat) : List Chunk → List Chunk → Sig → Sig
  | c :: cs, d :: ds, σ => colCs vs cs ds (colC vs c d σ)
  | _, _, σ => σ
def colV (vs : List Nat) : AV → AV → Sig → Sig
  | .val _ cs, .val _ ds, σ => colCs vs cs ds σ
  | _, _, σ => σ
def colS (I : LInv) (S : St) : Sig :=
  I.vr.foldl (fun σ p => match S.var p.1 with | some ds => colCs I.vs p.2 ds σ | none => σ) (I.lk.foldl (fun σ p => match S.look p.1 with | some x => colV I.vs p.2 x σ | none => σ) [])
def okT (vs : List Nat) (σ : Sig) (p t : IT) : Bool :=
  match p with
  | .var i => if vs.contains i then (match lookN σ i with | some u => u.beq t | none => false) else t.beq (.var i)
  | p => p.free vs && p.beq t
def okL (I : LInv) (p : IT) (l m : Nat) : Bool :=
  match p with
  | .var i => if I.vs.contains i then I.lm.contains (i, l) else decide (m ≤ l)
  | _ => decide (m ≤ l)
def okC (I : LInv) (σ : Sig) : Chunk → Chunk → Bool
  | .b p, .b t => p.free I.vs && p.beq t
  | .n k p, .n j t => decide (k = j) && okT I.vs σ p t
  | .int p l, .int t m => okT I.vs σ p t && okL I p l m
  | .mag p l, .mag t m => okT I.vs σ p t && okL I p l m
  | .raw i, .raw j => i == j
  | .rmag i, .rmag j => i == j
  | .fn f, .fn g => f == g
  | .nilSlice, .nilSlice => true
  | .str s l, .str t m => s.free I.vs && (s.beq t && decide (m ≤ l))
  | _, _ => false
def okCs (I : LInv) (σ : Sig) : List Chunk → List Chunk → Bool
  | [], [] => true
  | c :: cs, d :: ds => okC I σ c d && okCs I σ cs ds
  | _, _ => false
def okV (I : LInv) (σ : Sig) : AV → AV → Bool
  | .val a cs, .val b ds => a == b && okCs I σ cs ds
  | .ptr x o, .ptr y p => (x == y && o == p) && (lookN I.vr x).isSome
  | .bad, .bad => true
  | _, _ => false
def okS (I : LInv) (σ : Sig) (S : St) : Bool :=
  (I.lk.all fun p => match S.look p.1 with | some x => okV I σ p.2 x | none => false) &&
  (I.vr.all fun p => match S.var p.1 with | some ds => okCs I σ p.2 ds && !(sizes p.2 == 0) | none => false)
def sigT (I : LInv) (σ : Sig) : List IT := I.vs.map fun i => (lookN σ i).getD (.lit 0)
def matchS (I : LInv) (S : St) : Option (List IT) := if okS I (colS I S) S then some (sigT I (colS I S)) else none
def enterL (Good : Env → Prop) (I : LInv) (ts : List IT) (E : Env) : Prop :=
  I.G.holds (E.upd I.vs (ts.map (IT.den E))) ∧ Good (E.upd I.vs (ts.map (IT.den E))) ∧ ∀ p ∈ I.lm, Lim p.2 ((E.upd I.vs (ts.map (IT.den E))).i p.1)

section
variable {E : Env} {n B : Nat} {w w0 : World} {a : Act} {I : LInv} {σ : Sig} {S : St} {ts : List IT}
theorem okT_spec (hts : ts = sigT I σ) {p t : IT} (h : okT I.vs σ p t = true) : p.den (E.upd I.vs (ts.map (IT.den E))) = t.den E := by
  have hlen : (ts.map (IT.den E)).length = I.vs.length := by rw [hts]; simp [sigT]
  have key : ∀ (q u : IT), (q.free I.vs && q.beq u) = true → q.den (E.upd I.vs (ts.map (IT.den E))) = u.den E := by
    intro q u hq
    rw [Bool.and_eq_true] at hq
    rw [IT.den_free hlen hq.1, IT.eq_of_beq hq.2]
  unfold okT at h
  split at h
  · rename_i i
    split at h
    · rename_i hi
      split at h
      · rename_i u hu
        have : ts.map (IT.den E) = I.vs.map (fun i => ((lookN σ i).getD (.lit 0)).den E) := by rw [hts]; simp [sigT, Function.comp_def]
        simp only [IT.den, Env.upd]
        rw [this, updI_map]
        rw [List.contains_iff_mem] at hi
        rw [if_pos hi]
        simp only [Option.getD_some, hu]
        rw [IT.eq_of_beq h]
      · cases h
    · rename_i hi
      refine Eq.trans ?_ (congrArg (IT.den E) (IT.eq_of_beq h).symm)
      exact IT.den_free (t := .var i) hlen (by simpa [IT.free] using hi)
  · exact key _ _ h
theorem okL_spec {Good : Env → Prop} (he : enterL Good I ts E) {p t : IT} {l m : Nat} (hp : p.den (E.upd I.vs (ts.map (IT.den E))) = t.den E) (h : okL I p l m = true) (hm : Lim m (t.den E)) : Lim l (p.den (E.upd I.vs (ts.map (IT.den E)))) := by
  unfold okL at h
  split at h
  · rename_i i
    split at h
    · rw [List.contains_iff_mem] at h
      exact he.2.2 _ h
    · rw [hp]; exact hm.mono (of_decide_eq_true h)
  · rw [hp]; exact hm.mono (of_decide_eq_true h)
theorem okC_spec {Good : Env → Prop} (hts : ts = sigT I σ) (he : enterL Good I ts E) : ∀ {c d : Chunk} {vs : List Value}, okC I σ c d = true → d.holds E w vs → c.holds (E.upd I.vs (ts.map (IT.den E))) w vs ∧ c.size = d.size := by
  intro c d vs h hd
  have hlen : (ts.map (IT.den E)).length = I.vs.length := by rw [hts]; simp [sigT]
  cases c <;> cases d <;> simp only [okC, Bool.false_eq_true, Bool.and_eq_true, beq_iff_eq, decide_eq_true_iff] at h
  · rename_i p t
    refine ⟨?_, rfl⟩
    simp only [Chunk.holds] at hd ⊢
    rw [hd, BT.den_free hlen h.1, BT.den_of_beq E h.2]
  · rename_i k p j t
    obtain ⟨rfl, h⟩ := h
    refine ⟨?_, rfl⟩
    simp only [Chunk.holds] at hd ⊢
    rw [hd, okT_spec hts h]
  · rename_i p l t m
    obtain ⟨x, y, hv, hI, hm⟩ := hd
    have hp := okT_spec (E := E) hts h.1
    exact ⟨⟨x, y, hv, by rw [hp]; exact hI, okL_spec he hp h.2 hm⟩, rfl⟩
  · subst h
    obtain ⟨x, y, hv, hR⟩ := hd
    exact ⟨⟨x, y, hv, hR⟩, rfl⟩
  · rename_i p l t m
    obtain ⟨x, hv, hI, hm⟩ := hd
    have hp := okT_spec (E := E) hts h.1
    exact ⟨⟨x, hv, by rw [hp]; exact hI, okL_spec he hp h.2 hm⟩, rfl⟩
  · subst h
    obtain ⟨x, hv, ao, c, h1, h2, h3, h4⟩ := hd
    exact ⟨⟨x, hv, ao, c, h1, h2, h3, h4⟩, rfl⟩
  · subst h; exact ⟨hd, rfl⟩
  · exact ⟨hd, rfl⟩
  · obtain ⟨h1, h2, h3⟩ := h
    refine ⟨?_, rfl⟩
    obtain ⟨hv, hl⟩ := hd
    rw [← ST.eq_of_beq h2] at hv hl
    exact ⟨by rw [ST.den_free hlen h1]; exact hv, by rw [ST.den_free hlen h1]; exact Nat.le_trans hl h3⟩
theorem okCs_spec {Good : Env → Prop} (hts : ts = sigT I σ) (he : enterL Good I ts E) : ∀ {cs ds : List Chunk} {vs : List Value}, okCs I σ cs ds = true → chunks E w ds vs → chunks (E.upd I.vs (ts.map (IT.den E))) w cs vs
  | [], [], _, _, hd => hd
  | c :: cs, d :: ds, _, h, ⟨l, r, hv, h1, h2⟩ => by
    simp only [okCs, Bool.and_eq_true] at h
    exact ⟨l, r, hv, (okC_spec hts he h.1 h1).1, okCs_spec hts he h.2 h2⟩
  | [], _ :: _, _, h, _ => by simp [okCs] at h
  | _ :: _, [], _, h, _ => by simp [okCs] at h
theorem matchS_spec {Good : Env → Prop} (h : matchS I S = some ts) (he : enterL Good I ts E) (hS : S.holds E n B w0 a w) : I.st.holds (E.upd I.vs (ts.map (IT.den E))) n B w0 a w := by
  unfold matchS at h
  split at h
  · rename_i hok
    injection h with h
    have hts := h.symm
    unfold okS at hok
    rw [Bool.and_eq_true, List.all_eq_true, List.all_eq_true] at hok
    obtain ⟨h1, h2⟩ := hok
    obtain ⟨β, hS⟩ := hS
    have hvar : ∀ x cs, I.st.var x = some cs → ∃ ds, S.var x = some ds ∧ okCs I (colS I S) cs ds = true ∧ sizes cs ≠ 0 := by
      intro x cs hx
      have := h2 _ (lookN_mem hx)
      simp only at this
      split at this
      · rename_i ds hds
        rw [Bool.and_eq_true, Bool.not_eq_true', beq_eq_false_iff_ne] at this
        exact ⟨ds, hds, this⟩
      · cases this
    refine ⟨β, fun t x hx => ?_, fun x cs hx => ?_, fun x y hx hy he => ?_, fun t x off hx => ?_, hS.sz, hS.nd, hS.hp, hS.bl, fun x cs hx => ?_⟩
    · have := h1 _ (lookN_mem hx)
      simp only at this
      split at this
      · rename_i y hy
        have hv := hS.sl t y hy
        cases x with
        | val ag cs =>
          cases y with
          | val bg ds =>
            simp only [okV, Bool.and_eq_true, beq_iff_eq] at this
            obtain ⟨rfl, hc⟩ := this
            cases ag
            · exact ⟨okCs_spec hts he hc hv.1, hv.2⟩
            · obtain ⟨us, hu, hcs⟩ := hv
              exact ⟨us, hu, okCs_spec hts he hc hcs⟩
          | _ => simp [okV] at this
        | ptr z o =>
          cases y with
          | ptr z' o' =>
            simp only [okV, Bool.and_eq_true, beq_iff_eq] at this
            obtain ⟨⟨rfl, rfl⟩, _⟩ := this
            exact hv
          | _ => simp [okV] at this
        | tup l => cases y <;> simp [okV] at this
        | bad =>
          cases y with
          | bad => exact hv
          | _ => simp [okV] at this
      · cases this
    · obtain ⟨ds, hds, hc, _⟩ := hvar x cs hx
      obtain ⟨k1, us, k2, k3⟩ := hS.vr x ds hds
      exact ⟨k1, us, okCs_spec hts he hc k2, k3⟩
    · obtain ⟨cs, hcs⟩ := Option.isSome_iff_exists.1 hx
      obtain ⟨ds, hds⟩ := Option.isSome_iff_exists.1 hy
      obtain ⟨c1, e1, _⟩ := hvar x cs hcs
      obtain ⟨c2, e2, _⟩ := hvar y ds hds
      exact hS.inj x y (by rw [e1]; rfl) (by rw [e2]; rfl) he
    · have := h1 _ (lookN_mem hx)
      simp only at this
      split at this
      · rename_i y hy
        cases y with
        | ptr z' o' =>
          simp only [okV, Bool.and_eq_true] at this
          exact this.2
        | _ => simp [okV] at this
      · cases this
    · exact (hvar x cs hx).choose_spec.2.2
  · cases h
end
inductive LTree where
  | leaf (l : List (Bool × List Chunk))
  | ite (b : BT) (t e : LTree)
  | loop (d : Nat) (I : LInv) (ts : List IT) (T : LTree)
  | again (d : Nat) (ts : List IT)
abbrev Stk := Nat → Option (LInv × LTree)
def Stk.set (K : Stk) (d : Nat) (p : LInv × LTree) : Stk := fun j => if j = d then some p else K j
inductive Run (Good : Env → Prop) : Stk → LTree → Env → Nat → Env → List (Bool × List Chunk) → Prop where
  | leaf {K l E} : Run Good K (.leaf l) E 0 E l
  | iteT {K b t e E m E' l} : b.den E = true → Run Good K t E m E' l → Run Good K (.ite b t e) E m E' l
  | iteF {K b t e E m E' l} : b.den E = false → Run Good K e E m E' l → Run Good K (.ite b t e) E m E' l
  | loop {K d I ts T E m E' l} : enterL Good I ts E → Run Good (K.set d (I, T)) T (E.upd I.vs (ts.map (IT.den E))) m E' l → Run Good K (.loop d I ts T) E m E' l
  | again {K : Stk} {d I ts T E m E' l} : K d = some (I, T) → enterL Good I ts E → Run Good K T (E.upd I.vs (ts.map (IT.den E))) m E' l → Run Good K (.again d ts) E (m + 1) E' l

def regTL (C : Cfg) (n : Nat) (l : List Oper) (drawn : Bool) (k : Asm → St → Option LTree) : Nat → Asm → St → Option LTree
  | 0, _, _ => none
  | f + 1, G, S => match regE C G n l drawn S with
    | some S' => k G S'
    | none => match needE C G n l.toArray l S with
      | some b => match regTL C n l drawn k f ((b, true) :: G) S, regTL C n l drawn k f ((b, false) :: G) S with
        | some t, some e => some (.ite b t e)
        | _, _ => none
      | none => none
def firstId : Code → Option Nat
  | .region id _ _ => some id
  | .seq a b => match firstId a with | some i => some i | none => firstId b
  | .block _ c => firstId c
  | .cond _ a b => match firstId a with | some i => some i | none => firstId b
  | .loop c => firstId c
  | _ => none
def execL (C : Cfg) (L : Nat → Option LInv) (n : Nat) : Code → Nat → (Asm → St → Ex → Option LTree) → Asm → St → Option LTree
  | .skip, _, k, G, S => k G S .norm
  | .ret, _, k, G, S => k G S .ret
  | .exit id, _, k, G, S => k G S (.exit id)
  | .region _ ops drawn, _, k, G, S => regTL C n ops.toList drawn (fun G S => k G S .norm) 64 G S
  | .seq a b, d, k, G, S => execL C L n a d (fun G S e => match e with | .norm => execL C L n b d k G S | e => k G S e) G S
  | .loop c, d, k, _, S => match (firstId c).bind L with
    | some I => match matchS I S with
      | some ts => match execL C L n c (d + 1) (fun G S e => match e with | .norm => (matchS I S).map (.again d) | e => k G S e) I.G I.st with
        | some T => some (.loop d I ts T)
        | none => none
      | none => none
    | none => none
  | .block id c, d, k, G, S => execL C L n c d (fun G S e => match e with | .exit j => if j = id then k G S .norm else k G S (.exit j) | e => k G S e) G S
  | .cond c x y, d, k, G, S => match opnd S.look c with
    | some (.val false [.b tt]) => match tt.ev G with
      | some true => execL C L n x d k G S
      | some false => execL C L n y d k G S
      | none => match tt.ev ((tt.base, true) :: G), tt.ev ((tt.base, false) :: G) with
        | some b1, some b2 =>
          match (if b1 then execL C L n x d k ((tt.base, true) :: G) S else execL C L n y d k ((tt.base, true) :: G) S), (if b2 then execL C L n x d k ((tt.base, false) :: G) S else execL C L n y d k ((tt.base, false) :: G) S) with
          | some t, some e => some (.ite tt.base t e)
          | _, _ => none
        | _, _ => none
    | _ => none
  | _, _, _, _, _ => none

section
variable {P : Program} {n B : Nat} {w0 : World} {C : Cfg} {L : Nat → Option LInv} {Good : Env → Prop} {E' : Env} {l : List (Bool × List Chunk)}
def KOK (Good : Env → Prop) (n B : Nat) (w0 : World) (E' : Env) (l : List (Bool × List Chunk)) (k : Asm → St → Ex → Option LTree) (Q : Exit → Act → World → Prop) (K : Stk) (d m : Nat) : Prop :=
  ∀ (K' : Stk) G S e T E m', m' ≤ m → (∀ j, j < d → K' j = K j) → k G S e = some T → Run Good K' T E m' E' l → G.holds E → Good E → ∀ a w, S.holds E n B w0 a w → Q e.to a w
theorem regTL_sound (hm : P.follows .mixedOrders = true) {E : Env} (hC : CfgAt P E C B w0) {id : Nat} {lo : List Oper} {drawn : Bool} {k : Asm → St → Option LTree} {Q : Exit → Act → World → Prop} {K : Stk} {m : Nat} {w : World} {a : Act} : ∀ (f : Nat) (G : Asm) (S : St) (T : LTree), G.holds E → S.holds E n B w0 a w →
    regTL C n lo drawn k f G S = some T → Run Good K T E m E' l →
    (∀ G' S' T', k G' S' = some T' → G'.holds E → Run Good K T' E m E' l → ∀ a' w', S'.holds E n B w0 a' w' → Q .normal a' w') → (Code.region id lo.toArray drawn).wp P Q a w
  | 0, _, _, _, _, _, h, _, _ => by simp [regTL] at h
  | f + 1, G, S, T, hG, hS, h, hR, hk => by
    unfold regTL at h
    split at h
    · rename_i S' hS'
      exact regE_sound hm hC hG hS hS' (fun a' w' h' => hk G S' T h hG hR a' w' h')
    · split at h
      · rename_i b hb
        split at h
        · rename_i t e ht he
          injection h with h
          subst h
          cases hR with
          | iteT hbv hR => exact regTL_sound hm hC f _ S t (asm_cons hG hbv) hS ht hR hk
          | iteF hbv hR => exact regTL_sound hm hC f _ S e (asm_cons hG hbv) hS he hR hk
        · cases h
      · cases h
theorem execL_sound (hm : P.follows .mixedOrders = true) (hC : ∀ E, Good E → CfgAt P E C B w0) : ∀ (c : Code) (d : Nat) (k : Asm → St → Ex → Option LTree) (Q : Exit → Act → World → Prop) (K : Stk) (G : Asm) (S : St) (T : LTree) (E : Env) (m : Nat) (a : Act) (w : World), G.holds E → Good E → S.holds E n B w0 a w →
    execL C L n c d k G S = some T → Run Good K T E m E' l → KOK Good n B w0 E' l k Q K d m → c.wp P Q a w := by
  intro c
  induction c with
  | skip => intro d k Q K G S T E m a w hG hE hS h hR hk; exact wp_skip (hk K G S .norm T E m (Nat.le_refl _) (fun _ _ => rfl) h hR hG hE a w hS)
  | ret => intro d k Q K G S T E m a w hG hE hS h hR hk; exact wp_ret (hk K G S .ret T E m (Nat.le_refl _) (fun _ _ => rfl) h hR hG hE a w hS)
  | exit id => intro d k Q K G S T E m a w hG hE hS h hR hk; exact wp_exit (hk K G S (.exit id) T E m (Nat.le_refl _) (fun _ _ => rfl) h hR hG hE a w hS)
  | region id ops drawn =>
    intro d k Q K G S T E m a w hG hE hS h hR hk
    have := regTL_sound (id := id) (Q := Q) hm (hC E hE) 64 G S T hG hS h hR (fun G' S' T' h1 h2 h3 a' w' h4 => hk K G' S' .norm T' E m (Nat.le_refl _) (fun _ _ => rfl) h1 h3 h2 hE a' w' h4)
    simpa using this
  | seq x y ihx ihy =>
    intro d k Q K G S T E m a w hG hE hS h hR hk
    refine wp_seq (ihx d _ _ K G S T E m a w hG hE hS h hR (fun K' G' S' e T' E1 m' hm' hK' h1 hR' hG' hE' a' w' h4 => ?_))
    cases e with
    | norm => exact ihy d k Q K' G' S' T' E1 m' a' w' hG' hE' h4 h1 hR' (fun K2 G2 S2 e2 T2 E2 m2 j1 j2 j3 j4 j5 j6 => hk K2 G2 S2 e2 T2 E2 m2 (Nat.le_trans j1 hm') (fun j hj => (j2 j hj).trans (hK' j hj)) j3 j4 j5 j6)
    | ret => exact hk K' G' S' .ret T' E1 m' hm' hK' h1 hR' hG' hE' a' w' h4
    | exit id => exact hk K' G' S' (.exit id) T' E1 m' hm' hK' h1 hR' hG' hE' a' w' h4
  | block id c ih =>
    intro d k Q K G S T E m a w hG hE hS h hR hk
    refine wp_block (ih d _ _ K G S T E m a w hG hE hS h hR (fun K' G' S' e T' E1 m' hm' hK' h1 hR' hG' hE' a' w' h4 => ?_))
    cases e with
    | norm => exact hk K' G' S' .norm T' E1 m' hm' hK' h1 hR' hG' hE' a' w' h4
    | ret => exact hk K' G' S' .ret T' E1 m' hm' hK' h1 hR' hG' hE' a' w' h4
    | exit j =>
      simp only at h1
      show (if j = id then Q .normal a' w' else Q (.exit j) a' w')
      by_cases hj : j = id
      · rw [if_pos hj] at h1 ⊢
        exact hk K' G' S' .norm T' E1 m' hm' hK' h1 hR' hG' hE' a' w' h4
      · rw [if_neg hj] at h1 ⊢
        exact hk K' G' S' (.exit j) T' E1 m' hm' hK' h1 hR' hG' hE' a' w' h4
  | loop c ih =>
    intro d k Q K G S T E m a w hG hE hS h hR hk
    simp only [execL] at h
    split at h
    · rename_i I hI
      split at h
      · rename_i ts hts
        split at h
        · rename_i T0 hT0
          injection h with h
          subst h
          cases hR with
          | loop hen hR =>
            have key : ∀ (m0 : Nat), ∀ (K1 : Stk) (E1 : Env) (a : Act) (w : World) (f : Nat), m0 ≤ m → m0 < f → K1 d = some (I, T0) → (∀ j, j < d → K1 j = K j) → I.G.holds E1 → Good E1 → I.st.holds E1 n B w0 a w → Run Good K1 T0 E1 m0 E' l → Code.rounds P c Q f a w := by
              intro m0
              induction m0 using Nat.strongRecOn with
              | ind m0 ihm =>
                intro K1 E1 a w f hm0 hf hKd hKj hG1 hE1 hS1 hR1
                match f, hf with
                | f + 1, hf =>
                  rw [rounds_succ]
                  refine ih (d + 1) _ _ K1 I.G I.st T0 E1 m0 a w hG1 hE1 hS1 hT0 hR1 (fun K' G' S' e T' E2 m' hm' hK' h1 hR' hG' hE' a' w' h4 => ?_)
                  cases e with
                  | norm =>
                    obtain ⟨ts', hts', rfl⟩ := Option.map_eq_some_iff.1 h1
                    cases hR' with
                    | again hd hen' hR2 =>
                      rename_i I2 T2 m2
                      have : K' d = some (I, T0) := (hK' d (by omega)).trans hKd
                      rw [this] at hd
                      injection hd with hd
                      injection hd with e1 e2
                      subst e1 e2
                      exact ihm m2 (by omega) K' _ a' w' f (by omega) (by omega) this (fun j hj => (hK' j (by omega)).trans (hKj j hj)) hen'.1 hen'.2.1 (matchS_spec hts' hen' h4) hR2
                  | ret => exact hk K' G' S' .ret T' E2 m' (by omega) (fun j hj => (hK' j (by omega)).trans (hKj j hj)) h1 hR' hG' hE' a' w' h4
                  | exit id => exact hk K' G' S' (.exit id) T' E2 m' (by omega) (fun j hj => (hK' j (by omega)).trans (hKj j hj)) h1 hR' hG' hE' a' w' h4
            exact wp_loop_rounds (m + 1) (key m _ _ a w (m + 1) (Nat.le_refl _) (by omega) (by simp [Stk.set]) (fun j hj => by simp [Stk.set]; omega) hen.1 hen.2.1 (matchS_spec hts hen hS) hR)
        · cases h
      · cases h
    · cases h
  | cond c x y ihx ihy =>
    intro d k Q K G S T E m a w hG hE hS h hR hk
    simp only [execL] at h
    split at h
    · rename_i tt hc
      obtain ⟨β, hS'⟩ := hS
      have hv := opnd_spec (E := E) (β := β) (w := w) hS'.sl hc
      have hSS : S.holds E n B w0 a w := ⟨β, hS'⟩
      obtain ⟨⟨l1, r1, h1, h2, h3⟩, _⟩ := hv
      simp only [Chunk.holds] at h2
      simp only [chunks] at h3
      subst h2 h3
      injection h1 with h1
      split at h
      · rename_i hev
        rw [BT.ev_spec hG hev] at h1
        exact wp_cond_true h1 (ihx d k Q K G S T E m a w hG hE hSS h hR hk)
      · rename_i hev
        rw [BT.ev_spec hG hev] at h1
        exact wp_cond_false h1 (ihy d k Q K G S T E m a w hG hE hSS h hR hk)
      · split at h
        · rename_i b1 b2 e1 e2
          split at h
          · rename_i t e ht he
            injection h with h
            subst h
            cases hR with
            | iteT hbv hR =>
              have hG2 := asm_cons hG hbv
              rw [BT.ev_spec hG2 e1] at h1
              cases b1 with
              | true => exact wp_cond_true h1 (ihx d k Q K _ S t E m a w hG2 hE hSS ht hR hk)
              | false => exact wp_cond_false h1 (ihy d k Q K _ S t E m a w hG2 hE hSS ht hR hk)
            | iteF hbv hR =>
              have hG2 := asm_cons hG hbv
              rw [BT.ev_spec hG2 e2] at h1
              cases b2 with
              | true => exact wp_cond_true h1 (ihx d k Q K _ S e E m a w hG2 hE hSS he hR hk)
              | false => exact wp_cond_false h1 (ihy d k Q K _ S e E m a w hG2 hE hSS he hR hk)
          · cases h
        · cases h
    · cases h
  | _ => intro d k Q K G S T E m a w hG hE hS h hR hk; simp [execL] at h

def noStk : Stk := fun _ => none
end
end Go.Proofs.YtllijnecmekfeaaGreatDoor
end

section
set_option maxRecDepth 100000
namespace Go.Proofs.YtllijnecmekfeaaGreatDoor
open Go.RowKit Go.Shelf
def laysM145_ren : Go.Shelf.Ren := ⟨fun | 145 => 54 | 220 => 105 | 219 => 153 | 217 => 195 | 225 => 196 | 224 => 197 | 267 => 198 | 266 => 220 | 314 => 221 | n => n, fun | 9 => 9 | 4 => 4 | 59 => 82 | 3 => 3 | 5 => 5 | 46 => 148 | 146 => 180 | 51 => 103 | n => n, fun | 1 => 0 | n => n⟩
theorem laysM145 : Go.Proofs.LaysM.n145 Tryz.prog laysM145_ren := {
  mixed := by kernel_rfl
  f145 := Tryz.func54.trans (congrArg some (by kernel_rfl))
  f217 := Tryz.func195.trans (congrArg some (by kernel_rfl))
  f219 := Tryz.func153.trans (congrArg some (by kernel_rfl))
  f220 := Tryz.func105.trans (congrArg some (by kernel_rfl))
  f224 := Tryz.func197.trans (congrArg some (by kernel_rfl))
  f225 := Tryz.func196.trans (congrArg some (by kernel_rfl))
  f266 := Tryz.func220.trans (congrArg some (by kernel_rfl))
  f267 := Tryz.func198.trans (congrArg some (by kernel_rfl))
  f314 := Tryz.func221.trans (congrArg some (by kernel_rfl))
  t3 := Tryz.underlying3
  a3 := Tryz.isAgg3
  z3 := Tryz.sizeOf3
  v3 := Tryz.zeroValue3
  t4 := Tryz.underlying4
  a4 := Tryz.isAgg4
  z4 := Tryz.sizeOf4
  v4 := Tryz.zeroValue4
  t5 := Tryz.underlying5
  a5 := Tryz.isAgg5
  z5 := Tryz.sizeOf5
  v5 := Tryz.zeroValue5
  t9 := Tryz.underlying9
  a9 := Tryz.isAgg9
  z9 := Tryz.sizeOf9
  v9 := Tryz.zeroValue9
  t46 := Tryz.underlying148
  a46 := Tryz.isAgg148
  z46 := Tryz.sizeOf148
  v46 := Tryz.zeroValue148
  t51 := Tryz.underlying103
  a51 := Tryz.isAgg103
  z51 := Tryz.sizeOf103
  v51 := Tryz.zeroValue103
  t59 := Tryz.underlying82
  a59 := Tryz.isAgg82
  z59 := Tryz.sizeOf82
  v59 := Tryz.zeroValue82
  t146 := Tryz.underlying180
  a146 := Tryz.isAgg180
  z146 := Tryz.sizeOf180
  v146 := Tryz.zeroValue180
  g1 := by kernel_rfl
  i3 := by kernel_rfl
  i4 := by kernel_rfl
  i5 := by kernel_rfl
  i9 := by kernel_rfl
  i46 := by kernel_rfl
  i51 := by kernel_rfl
  i59 := by kernel_rfl
  i146 := by kernel_rfl
  m1 := by kernel_rfl
  s1_3 := fun w h => Go.Proofs.cell_of_shapedOpen_int (zero := #[.int .i64 0]) (t := 3) h (of_decide_eq_true (by kernel_rfl)) (by kernel_rfl) rfl (by kernel_rfl) (by kernel_rfl) Tryz.underlying3 }


def WM (w : World) : Prop := ∃ m, w.cell? ⟨0, 0, none⟩ = some (.int .i64 m)
theorem WM.ext {w w' : World} (h : WM w) (e : Ext w w') : WM w' := by
  obtain ⟨m, hm⟩ := h
  exact ⟨m, e.cell hm⟩
theorem WM.shaped {w : World} (h : w.ShapedOpen Tryz.prog) : WM w := laysM145.s1_3 w h
theorem cutS_calls (w : World) (hW : WM w) (s sep : ByteArray) (hs : s.size < 4294967281) :
    Calls Tryz.prog 54 #[.string s, .string sep] w fun e w' => e = .returned (.tuple #[.string ⟨(Lib.cut s.data.toList sep.data.toList).1.toArray⟩, .string ⟨(Lib.cut s.data.toList sep.data.toList).2.1.toArray⟩, .bool (Lib.cut s.data.toList sep.data.toList).2.2]) ∧ Ext w w' := by
  obtain ⟨m, hm⟩ := hW
  refine (Any.strings_Cut { laysM145 with } s sep m w hs hm).mono ?_
  rintro e w' ⟨h1, n, rfl⟩
  exact ⟨h1, (Ext.refl w).drewN n⟩
structure ConW (P : Program) (W : World → Prop) (E : Env) (f : Nat) (k : Con) : Prop where
  calls : ∀ args G r, k args G = some r → G.holds E → ∀ (β : Nat → Nat) (w : World) (vs : List Value), W w → (∀ (i : Nat) (x : AV), args[i]? = some x → ∃ v, vs[i]? = some v ∧ x.holds E β w v) → vs.length = args.length →
    Calls P f vs.toArray w (fun e w' => ∃ v, e = .returned v ∧ r.holds E β w' v ∧ Ext w w')
  nptr : ∀ args G r, k args G = some r → ∀ x off, r ≠ .ptr x off
  body : ∃ fn, P.funcs[f]? = some fn ∧ fn.name ≠ "runtime.NumGoroutine" ∧ fn.body.isNone = false
theorem ConOK.toW {P : Program} {W : World → Prop} {E : Env} {f : Nat} {k : Con} (h : ConOK P E f k) : ConW P W E f k :=
  ⟨fun args G r hr hG β w vs _ hv hl => h.calls args G r hr hG β w vs hv hl, h.nptr, h.body⟩
structure TabW (P : Program) (W : World → Prop) (E : Env) (l : List (Nat × Con)) : Prop where
  all : ∀ p ∈ l, ConW P W E p.1 p.2
theorem TabW.nil {P : Program} {W : World → Prop} {E : Env} : TabW P W E [] := ⟨fun p h => by simp at h⟩
theorem TabW.cons {P : Program} {W : World → Prop} {E : Env} {f : Nat} {k : Con} {l : List (Nat × Con)} (h : ConW P W E f k) (t : TabW P W E l) : TabW P W E ((f, k) :: l) := ⟨fun p hp => by
  rcases List.mem_cons.1 hp with rfl | hp
  · exact h
  · exact t.all p hp⟩
theorem TabOK.toW {P : Program} {W : World → Prop} {E : Env} {l : List (Nat × Con)} (h : TabOK P E l) : TabW P W E l := ⟨fun p hp => (h.all p hp).toW⟩
def cfgW (W : World → Prop) (tab : List (Nat × Con)) : Cfg := { cfgOf tab with wok := W }
theorem cfgW_ok {E : Env} {W : World → Prop} {tab : List (Nat × Con)} (h : TabW Tryz.prog W E tab) : CfgOK Tryz.prog E (cfgW W tab) := by
  have k : CfgOK Tryz.prog E (cfgOf []) := cfg_ok .nil
  refine ⟨k.zero, k.ag, k.fld, k.flds, k.bool, k.row, k.arr, ?_, ?_, ?_, k.slc, k.strT, k.cnv, k.apd, k.eq2⟩
  · intro f args M G r hr hG β w vs hwk hv hlen hm
    obtain ⟨kk, hk, hkr⟩ := tabE_mem hr
    exact (h.all _ hk).calls args G r hkr hG β w vs hwk hv hlen
  · intro f args M G r hr x off
    obtain ⟨kk, hk, hkr⟩ := tabE_mem hr
    exact (h.all _ hk).nptr args G r hkr x off
  · intro f args M G r hr
    obtain ⟨kk, hk, hkr⟩ := tabE_mem hr
    exact (h.all _ hk).body

end Go.Proofs.YtllijnecmekfeaaGreatDoor
end

section
set_option maxRecDepth 100000
namespace Go.Proofs.YtllijnecmekfeaaGreatDoor
open Go.RowKit
def digB (c : UInt8) : Bool := decide (48 ≤ c.toNat) && decide (c.toNat ≤ 57)
def dv (l : List UInt8) : Nat := l.foldl (fun v c => v * 10 + (c.toNat - 48)) 0
def numB (l : List UInt8) : Bool := !l.isEmpty && (!(l.headD 0 == 48 && decide (1 < l.length)) && l.all digB)
theorem dv_snoc (l : List UInt8) (c : UInt8) : dv (l ++ [c]) = dv l * 10 + (c.toNat - 48) := by unfold dv; rw [List.foldl_append]; rfl
theorem dv_append (l r : List UInt8) : dv (l ++ r) = dv l * 10 ^ r.length + dv r := by
  induction r generalizing l with
  | nil => simp [dv]
  | cons c r ih =>
    have e1 : l ++ c :: r = (l ++ [c]) ++ r := by simp
    have e2 : dv (c :: r) = dv [c] * 10 ^ r.length + dv r := ih [c]
    rw [e1, ih, dv_snoc, e2, List.length_cons, Nat.pow_succ]
    have e3 : dv [c] = c.toNat - 48 := by simp [dv]
    rw [e3, Nat.add_mul, Nat.mul_assoc, Nat.mul_comm 10]
    omega
theorem dv_lt {l : List UInt8} (h : l.all digB = true) : dv l < 10 ^ l.length := by
  induction l with
  | nil => simp [dv]
  | cons c r ih =>
    simp only [List.all_cons, Bool.and_eq_true] at h
    have h1 := ih h.2
    have h2 := h.1
    unfold digB at h2
    rw [Bool.and_eq_true, decide_eq_true_iff, decide_eq_true_iff] at h2
    have e2 : dv (c :: r) = dv [c] * 10 ^ r.length + dv r := dv_append [c] r
    have e3 : dv [c] = c.toNat - 48 := by simp [dv]
    have h4 : (c.toNat - 48) * 10 ^ r.length ≤ 9 * 10 ^ r.length := Nat.mul_le_mul_right _ (by omega)
    rw [e2, e3, List.length_cons, Nat.pow_succ]
    omega
theorem bytes_len (s : ByteArray) : s.data.toList.length = s.size := Array.length_toList
theorem bytes_take (s : ByteArray) (k : Nat) (h : k < s.size) : s.data.toList.take (k + 1) = s.data.toList.take k ++ [s[k]] := by
  rw [List.take_succ_eq_append_getElem (by rw [bytes_len]; exact h)]; rfl
theorem bytes_all (s : ByteArray) : s.data.toList.take s.size = s.data.toList := List.take_of_length_le (by rw [bytes_len]; omega)

set_option maxRecDepth 100000 in
set_option maxHeartbeats 800000 in
theorem groupValue_calls (w : World) (s : ByteArray) (hs : s.size ≤ 9) (hd : s.data.toList.all digB = true) :
    Calls Tryz.prog 159 #[.string s] w fun e w' => e = .returned (.int .u32 (dv s.data.toList : Nat)) ∧ w = w' := by
  have HD := Lib.hid hd
  clear hd
  go_enter Tryz.func159, Tryz.ntmps159
  go_wp2
  go_loop [3, 7] (fun v i => ∃ k : Nat, k ≤ s.size ∧ i = .int .i64 k ∧ v = .int .u32 (dv (s.data.toList.take k) : Nat)) (fun _ i => s.size - (intOf i).toNat)
  case atStart => exact ⟨0, Nat.zero_le _, rfl, rfl⟩
  case round =>
    obtain ⟨k, hk, rfl, rfl⟩ := hrel
    by_cases hlt : k < s.size
    · have ht := bytes_take s k hlt
      have hall : (s.data.toList.take (k + 1)).all digB = true := by
        refine List.all_eq_true.2 (fun x hx => ?_)
        exact List.all_eq_true.1 HD.out x (List.mem_of_mem_take hx)
      rw [ht, List.all_append, Bool.and_eq_true] at hall
      have hb := dv_lt hall.1
      have hdc : digB s[k] = true := by simpa using hall.2
      unfold digB at hdc
      rw [Bool.and_eq_true, decide_eq_true_iff, decide_eq_true_iff] at hdc
      have hsn := dv_snoc (s.data.toList.take k) s[k]
      rw [← ht] at hsn
      rw [List.length_take, Nat.min_eq_left (by rw [bytes_len]; omega)] at hb
      have hb2 : dv (s.data.toList.take k) < 100000000 := Nat.lt_of_lt_of_le hb (by
        have := Nat.pow_le_pow_right (n := 10) (by omega) (show k ≤ 8 by omega)
        omega)
      generalize dv (s.data.toList.take k) = V at *
      obtain ⟨c, hc⟩ : ∃ c, c = s[k].toNat := ⟨_, rfl⟩
      rw [← hc] at hdc hsn
      have HS := Lib.hid hsn
      have HC := Lib.hid hc
      clear ht hall hb hsn hc
      go_wp2
      go_round
      case rel =>
        refine ⟨k + 1, by omega, by go_num, ?_⟩
        rw [HS.out, ← HC.out]
        congr 1
        omega
      case measure => simp [intOf]; omega
    · have e : k = s.size := by omega
      subst e
      have HA := bytes_all s
      go_wp2
      go_ret
      exact ⟨rfl, rfl⟩

set_option maxRecDepth 100000 in
set_option maxHeartbeats 1600000 in
theorem isNumeral_calls (w : World) (s : ByteArray) (hs : s.size ≤ 9223372036854775807) :
    Calls Tryz.prog 158 #[.string s] w fun e w' => e = .returned (.bool (numB s.data.toList)) ∧ w = w' := by
  rcases Nat.eq_zero_or_pos s.size with h0 | h0
  · have hl : s.data.toList = [] := List.eq_nil_of_length_eq_zero (by rw [bytes_len]; exact h0)
    have HR := Lib.hid (show numB s.data.toList = false by rw [hl]; rfl)
    have e1 : s.toList = [] := by rw [ByteArray.toList_eq, hl]
    have e2 : s.toList.isEmpty = true := by rw [e1]; rfl
    clear hl
    go_enter Tryz.func158, Tryz.ntmps158
    go_wp2
    go_ret
    exact ⟨by rw [HR.out]; rfl, rfl⟩
  · obtain ⟨c, r, hl⟩ : ∃ c r, s.data.toList = c :: r := by
      cases hh : s.data.toList with
      | nil => have := bytes_len s; rw [hh] at this; simp at this; omega
      | cons c r => exact ⟨c, r, rfl⟩
    have hc0 : s[0] = c := by
      have : s.data.toList[0]'(by rw [hl]; simp) = c := by simp [hl]
      exact this
    have hrl : r.length + 1 = s.size := by rw [← bytes_len, hl, List.length_cons]
    have hne : s.toList.isEmpty = false := by rw [ByteArray.toList_eq, hl]; rfl
    have hne2 : (!s.toList.isEmpty) = true := by rw [hne]; rfl
    have hne3 : ¬ s.toList = [] := by rw [ByteArray.toList_eq, hl]; simp
    by_cases hz : c.toNat = 48 ∧ 1 < s.size
    · have HR : Hid (numB s.data.toList = false) := by
        unfold Hid numB
        rw [hl]
        have : c = 48 := UInt8.toNat_inj.1 hz.1
        subst this
        have : 0 < r.length := by omega
        simp [this]
      have f0 : ((s[0].toNat : Int) == 48) = true := by rw [hc0]; simp [hz.1]
      have f1 : (1 : Int) < (s.size : Int) := by omega
      clear hl hc0 hz hrl
      go_enter Tryz.func158, Tryz.ntmps158
      go_wp2
      go_ret
      exact ⟨by rw [HR.out]; rfl, rfl⟩
    · have HR : Hid (numB s.data.toList = s.data.toList.all digB) := by
        unfold Hid numB
        rw [hl]
        have : ((c :: r).headD 0 == 48 && decide (1 < (c :: r).length)) = false := by
          rw [Bool.and_eq_false_iff]
          by_cases h1 : c.toNat = 48
          · right
            rw [decide_eq_false_iff_not, List.length_cons]
            omega
          · left
            simp only [List.headD_cons, beq_eq_false_iff_ne]
            intro e
            subst e
            exact h1 rfl
        rw [this]
        rfl
      have body : ∀ W, (W = w) → True := fun _ _ => trivial
      have f0 : ¬ 1 < s.size → True := fun _ => trivial
      clear body f0
      have hcut : ((s[0].toNat : Int) == 48) = true ∧ ¬ (1 : Int) < (s.size : Int) ∨ ((s[0].toNat : Int) == 48) = false := by
        rw [hc0]
        by_cases h1 : c.toNat = 48
        · left; exact ⟨by rw [beq_iff_eq]; omega, by omega⟩
        · right; rw [beq_eq_false_iff_ne]; omega
      clear hl hc0 hz hrl
      rcases hcut with ⟨f0, f1⟩ | f0
      all_goals
        go_enter Tryz.func158, Tryz.ntmps158
        go_wp2
        clear f0
        go_loop [3, 18] (fun _ i => ∃ k : Nat, k ≤ s.size ∧ i = .int .i64 k ∧ Hid ((s.data.toList.take k).all digB = true)) (fun _ i => s.size - (intOf i).toNat)
        case atStart => exact ⟨0, Nat.zero_le _, rfl, rfl⟩
        case round =>
          obtain ⟨k, hk, rfl, HK⟩ := hrel
          by_cases hlt : k < s.size
          · have ht := bytes_take s k hlt
            have HT : Hid ((s.data.toList.take (k + 1)).all digB = digB s[k]) := by
              unfold Hid; rw [ht, List.all_append, HK.out]; simp
            have HD : Hid (digB s[k] = false → s.data.toList.all digB = false) := by
              intro hd
              rw [List.all_eq_false]
              refine ⟨s[k], ?_, by rw [hd]; simp⟩
              exact List.getElem_mem (l := s.data.toList) (by rw [bytes_len]; exact hlt)
            have HE : Hid (digB s[k] = (decide (48 ≤ s[k].toNat) && decide (s[k].toNat ≤ 57))) := rfl
            clear ht
            by_cases d1 : s[k].toNat < 48
            · have g1 : (s[k].toNat : Int) < 48 := by omega
              have HF := Lib.hid (HD.out (by rw [HE.out, decide_eq_false (by omega)]; rfl))
              clear d1
              go_wp2
              go_ret
              exact ⟨by rw [HR.out, HF.out]; rfl, rfl⟩
            · have g1 : ¬ (s[k].toNat : Int) < 48 := by omega
              by_cases d2 : 57 < s[k].toNat
              · have g2 : (57 : Int) < (s[k].toNat : Int) := by omega
                have HF := Lib.hid (HD.out (by rw [HE.out, decide_eq_false (p := s[k].toNat ≤ 57) (by omega), Bool.and_false]))
                clear d1 d2
                go_wp2
                go_ret
                exact ⟨by rw [HR.out, HF.out]; rfl, rfl⟩
              · have g2 : ¬ (57 : Int) < (s[k].toNat : Int) := by omega
                have HF := Lib.hid (show digB s[k] = true by rw [HE.out, decide_eq_true (by omega), decide_eq_true (by omega)]; rfl)
                clear d1 d2
                go_wp2
                go_round
                case rel => exact ⟨k + 1, by omega, by go_num, HT.out.trans HF.out⟩
                case measure => simp [intOf]; omega
          · have e : k = s.size := by omega
            subst e
            have HA : Hid (s.data.toList.all digB = true) := by have := HK.out; rw [bytes_all] at this; exact this
            go_wp2
            go_ret
            exact ⟨by rw [HR.out, HA.out]; rfl, rfl⟩

end Go.Proofs.YtllijnecmekfeaaGreatDoor
end

section
set_option maxRecDepth 100000
namespace Go.Proofs.YtllijnecmekfeaaGreatDoor
open Go.RowKit Go.Shelf
def laysM288_ren : Go.Shelf.Ren := ⟨fun | 288 => 179 | 283 => 190 | 284 => 191 | 285 => 192 | 286 => 193 | 129 => 216 | 317 => 215 | 318 => 217 | 319 => 218 | 320 => 219 | 337 => 235 | 338 => 236 | n => n, fun | 37 => 122 | 53 => 109 | 3 => 3 | 4 => 4 | 9 => 9 | 171 => 165 | 0 => 0 | 173 => 168 | 212 => 187 | 51 => 103 | 5 => 5 | 20 => 20 | 213 => 188 | 46 => 148 | 232 => 210 | 233 => 211 | n => n, fun | 17 => 1 | 18 => 4 | 19 => 5 | n => n⟩
theorem laysM288 : Go.Proofs.LaysM.n288 Tryz.prog laysM288_ren := {
  mixed := by kernel_rfl
  f129 := Tryz.func216.trans (congrArg some (by kernel_rfl))
  f283 := Tryz.func190.trans (congrArg some (by kernel_rfl))
  f284 := Tryz.func191.trans (congrArg some (by kernel_rfl))
  f285 := Tryz.func192.trans (congrArg some (by kernel_rfl))
  f286 := Tryz.func193.trans (congrArg some (by kernel_rfl))
  f288 := Tryz.func179.trans (congrArg some (by kernel_rfl))
  f317 := Tryz.func215.trans (congrArg some (by kernel_rfl))
  f318 := Tryz.func217.trans (congrArg some (by kernel_rfl))
  f319 := Tryz.func218.trans (congrArg some (by kernel_rfl))
  f320 := Tryz.func219.trans (congrArg some (by kernel_rfl))
  f337 := Tryz.func235.trans (congrArg some (by kernel_rfl))
  f338 := Tryz.func236.trans (congrArg some (by kernel_rfl))
  t0 := Tryz.underlying0
  a0 := Tryz.isAgg0
  z0 := Tryz.sizeOf0
  v0 := Tryz.zeroValue0
  t3 := Tryz.underlying3
  a3 := Tryz.isAgg3
  z3 := Tryz.sizeOf3
  v3 := Tryz.zeroValue3
  t4 := Tryz.underlying4
  a4 := Tryz.isAgg4
  z4 := Tryz.sizeOf4
  v4 := Tryz.zeroValue4
  t5 := Tryz.underlying5
  a5 := Tryz.isAgg5
  z5 := Tryz.sizeOf5
  v5 := Tryz.zeroValue5
  t9 := Tryz.underlying9
  a9 := Tryz.isAgg9
  z9 := Tryz.sizeOf9
  v9 := Tryz.zeroValue9
  t20 := Tryz.underlying20
  a20 := Tryz.isAgg20
  z20 := Tryz.sizeOf20
  v20 := Tryz.zeroValue20
  t37 := Tryz.underlying122
  a37 := Tryz.isAgg122
  z37 := Tryz.sizeOf122
  v37 := Tryz.zeroValue122
  t46 := Tryz.underlying148
  a46 := Tryz.isAgg148
  z46 := Tryz.sizeOf148
  v46 := Tryz.zeroValue148
  t51 := Tryz.underlying103
  a51 := Tryz.isAgg103
  z51 := Tryz.sizeOf103
  v51 := Tryz.zeroValue103
  t53 := Tryz.underlying109
  a53 := Tryz.isAgg109
  z53 := Tryz.sizeOf109
  v53 := Tryz.zeroValue109
  t171 := Tryz.underlying165
  a171 := Tryz.isAgg165
  z171 := Tryz.sizeOf165
  v171 := Tryz.zeroValue165
  t173 := Tryz.underlying168
  a173 := Tryz.isAgg168
  z173 := Tryz.sizeOf168
  v173 := Tryz.zeroValue168
  t212 := Tryz.underlying187
  a212 := Tryz.isAgg187
  z212 := Tryz.sizeOf187
  v212 := Tryz.zeroValue187
  t213 := Tryz.underlying188
  a213 := Tryz.isAgg188
  z213 := Tryz.sizeOf188
  t232 := Tryz.underlying210
  a232 := Tryz.isAgg210
  z232 := Tryz.sizeOf210
  v232 := Tryz.zeroValue210
  t233 := Tryz.underlying211
  a233 := Tryz.isAgg211
  z233 := Tryz.sizeOf211
  v233 := Tryz.zeroValue211
  g17 := by kernel_rfl
  g18 := by kernel_rfl
  g19 := by kernel_rfl
  i0 := by kernel_rfl
  i3 := by kernel_rfl
  i4 := by kernel_rfl
  i5 := by kernel_rfl
  i9 := by kernel_rfl
  i20 := by kernel_rfl
  i37 := by kernel_rfl
  i46 := by kernel_rfl
  i51 := by kernel_rfl
  i53 := by kernel_rfl
  i171 := by kernel_rfl
  i173 := by kernel_rfl
  i212 := by kernel_rfl
  i232 := by kernel_rfl
  i233 := by kernel_rfl
  m17 := by kernel_rfl
  m18 := by kernel_rfl
  m19 := by kernel_rfl }


def pad : Nat → Nat → List UInt8
  | 0, _ => []
  | k + 1, r => pad k (r / 10) ++ [UInt8.ofNat (48 + r % 10)]
theorem pad_length : ∀ (k r : Nat), (pad k r).length = k
  | 0, _ => rfl
  | k + 1, r => by simp [pad, pad_length k]
theorem dec_pad (q : Nat) (hq : 0 < q) : ∀ (k r : Nat), r < 10 ^ k → Lib.decDigits (q * 10 ^ k + r) = Lib.decDigits q ++ pad k r
  | 0, r, h => by
    have : r = 0 := by simpa using h
    subst this
    simp [pad]
  | k + 1, r, h => by
    have h10 : (10 : Nat) ^ (k + 1) = 10 * 10 ^ k := by rw [Nat.pow_succ, Nat.mul_comm]
    have hk : 0 < 10 ^ k := Nat.pow_pos (by omega)
    have e : q * 10 ^ (k + 1) + r = 10 * (q * 10 ^ k) + r := by rw [h10, Nat.mul_left_comm]
    have hge : 1 ≤ q * 10 ^ k := Nat.mul_pos hq hk
    rw [e, Lib.decDigits, dif_neg (by omega), show (10 * (q * 10 ^ k) + r) / 10 = q * 10 ^ k + r / 10 by omega, show (10 * (q * 10 ^ k) + r) % 10 = r % 10 by omega, dec_pad q hq k (r / 10) (by rw [h10] at h; omega)]
    rw [pad, List.append_assoc]
def groups : List Nat → List UInt8
  | [] => []
  | x :: xs => groups xs ++ pad 9 x
theorem dec_limbs (t : Nat) (ht : 0 < t) : ∀ (xs : List Nat), Dig xs → Lib.decDigits (val (xs ++ [t])) = Lib.decDigits t ++ groups xs
  | [], _ => by simp [val, groups]
  | x :: xs, h => by
    have hx := h.head
    have ih := dec_limbs t ht xs h.tail
    have hp : 0 < val (xs ++ [t]) := by
      have : 0 < val (xs ++ [t]) ∨ val (xs ++ [t]) = 0 := by omega
      rcases this with h | h
      · exact h
      · exfalso
        have h1 : val (xs ++ [t]) = val xs + 1000000000 ^ xs.length * val [t] := val_append xs [t]
        have h2 : 0 < 1000000000 ^ xs.length * val [t] := Nat.mul_pos (Nat.pow_pos (by omega)) (by simp [val]; omega)
        omega
    have e : val ((x :: xs) ++ [t]) = val (xs ++ [t]) * 10 ^ 9 + x := by
      show x + 1000000000 * val (xs ++ [t]) = _
      rw [show (10 : Nat) ^ 9 = 1000000000 from rfl]
      omega
    rw [e, dec_pad _ hp 9 x hx, ih, groups, List.append_assoc]
def WT (w : World) : Prop := Lib.TabIs Tryz.prog w "internal/strconv.uint64pow10" .u64 Lib.pow10Tab
theorem WT.ext {w w' : World} (h : WT w) (e : Ext w w') : WT w' := Lib.tabBelow_of_tabIs h w' e
theorem appendUint_calls (w : World) (hW : WT w) (B n u : Nat) (h0 : 0 < u) (hu : u < 1000000000) (sv : Value) (xs : List Value) (hown : w.ownsRow B 5 1 sv n xs) (hB : B ≤ w.heap.size) (hl : n + 20 ≤ 140737488355328) :
    Calls Tryz.prog 124 #[sv, .int .u64 u, .int .i64 10] w fun e w' => ∃ v', e = .returned v' ∧ w'.ownsRow B 5 1 v' (n + (Lib.decDigits u).length) (xs ++ Lib.byteCells (Lib.decDigits u)) ∧ Below B w w' := by
  have key : Calls Tryz.prog 179 #[sv, .int .u64 u, .int .i64 10] w fun e w' => ∃ v', e = .returned v' ∧ w'.ownsRow B 5 1 v' (n + (Lib.decDigits u).length) (xs ++ Lib.byteCells (Lib.decDigits u)) ∧ Below B w w' := by
    rcases Nat.lt_or_ge u 100 with h | h
    · refine (Any.internal_strconv_AppendUint_10_small laysM288 B n u h sv xs w hown hB hl).mono ?_
      rintro e w' ⟨v', h1, h2, h3, _⟩
      exact ⟨v', h1, h2, h3⟩
    · refine (Any.internal_strconv_AppendUint_10_big laysM288 B n u h (by omega) sv xs w hown hB hl hW).mono ?_
      rintro e w' ⟨v', h1, h2, h3, _⟩
      exact ⟨v', h1, h2, h3⟩
  have HK := Lib.hid key
  clear key
  go_enter Tryz.func124, Tryz.ntmps124
  go_wp2_with fail
  refine HK.out.mono ?_
  rintro e w' ⟨v', rfl, h1, h2⟩
  go_wp2
  go_ret
  exact ⟨v', rfl, h1, h2⟩

theorem info_u8 : (Tryz.prog.info? 5).map (fun i => (i.zero, i.size, i.bytes)) = some (some (.int .u8 0), 1, 1) := by kernel_rfl
theorem pad_cell (m : Nat) : Value.int .u8 (((UInt8.ofNat (48 + m % 10)).toNat : Nat) : Int) = .int .u8 (48 + (m : Int) % 10) := by
  rw [UInt8.toNat_ofNat', show (48 + m % 10) % 2 ^ 8 = 48 + m % 10 by omega]
  congr 1
theorem pad_cells (x : Nat) : (#[Value.int .u8 (48 + (x : Int) / 10 / 10 / 10 / 10 / 10 / 10 / 10 / 10 % 10), .int .u8 (48 + (x : Int) / 10 / 10 / 10 / 10 / 10 / 10 / 10 % 10), .int .u8 (48 + (x : Int) / 10 / 10 / 10 / 10 / 10 / 10 % 10), .int .u8 (48 + (x : Int) / 10 / 10 / 10 / 10 / 10 % 10), .int .u8 (48 + (x : Int) / 10 / 10 / 10 / 10 % 10), .int .u8 (48 + (x : Int) / 10 / 10 / 10 % 10), .int .u8 (48 + (x : Int) / 10 / 10 % 10), .int .u8 (48 + (x : Int) / 10 % 10), .int .u8 (48 + (x : Int) % 10)] : Array Value) = (Lib.byteCells (pad 9 x)).toArray := by
  simp only [pad, Lib.byteCells, List.map_cons, List.map_nil, pad_cell, List.nil_append, List.cons_append]
  rfl

set_option maxRecDepth 100000 in
set_option maxHeartbeats 6400000 in
theorem appendGroup_calls (w : World) (B n x : Nat) (hx : x < 1000000000) (sv : Value) (xs : List Value) (hown : w.ownsRow B 5 1 sv n xs) (hB : B ≤ w.heap.size) (hl : n + 20 ≤ 140737488355328) :
    Calls Tryz.prog 125 #[sv, .int .u32 x] w fun e w' => ∃ v', e = .returned v' ∧ w'.ownsRow B 5 1 v' (n + 9) (xs ++ Lib.byteCells (pad 9 x)) ∧ Below B w w' := by
  obtain ⟨i0, hi, hz0, hz1, hz2⟩ := info_parts info_u8
  have hown' := hown.alloc (.cells (Lib.byteCells (pad 9 x)).toArray 161)
  have hcl : (Lib.byteCells (pad 9 x)).length = 9 := by rw [Lib.byteCells_length, pad_length]
  have hc : ∀ j u, (Lib.byteCells (pad 9 x))[j]? = some u → (w.alloc (.cells (Lib.byteCells (pad 9 x)).toArray 161)).cell? ((⟨w.heap.size, 0, none⟩ : Addr).add j) = some u := by
    intro j u hj
    rw [Lib.add_plain, Nat.zero_add]
    have hh : (w.alloc (.cells (Lib.byteCells (pad 9 x)).toArray 161)).heap[w.heap.size]? = some (.cells (Lib.byteCells (pad 9 x)).toArray 161 (0, 0)) := heap_alloc_new w _
    simp only [World.cell?, hh]
    simpa using hj
  have HC := Lib.hid hc
  have HP := Lib.hid (pad_cells x)
  have HO := Lib.hid hown'
  have HL := Lib.hid hcl
  clear hown hown' hcl hc
  go_enter Tryz.func125, Tryz.ntmps125
  go_wp2
  refine wp_loop_rounds 10 ?_
  rw [rounds_succ]
  go_wp2
  rw [rounds_succ]
  go_wp2
  rw [rounds_succ]
  go_wp2
  rw [rounds_succ]
  go_wp2
  rw [rounds_succ]
  go_wp2
  rw [rounds_succ]
  go_wp2
  rw [rounds_succ]
  go_wp2
  rw [rounds_succ]
  go_wp2
  rw [rounds_succ]
  go_wp2
  rw [rounds_succ, HP.out]
  obtain ⟨W, hW⟩ : ∃ W, W = w.alloc (.cells (Lib.byteCells (pad 9 x)).toArray 161) := ⟨_, rfl⟩
  rw [← hW] at HC HO ⊢
  have hB2 : B ≤ W.heap.size := by rw [hW]; simp; omega
  have hbel : Below B w W := by rw [hW]; exact (Below.refl _ _).alloc hB _
  have HW := Lib.hid hW
  clear hW HP
  go_wp2_with (at_builtin; refine wpList_append_own _ rfl _ _ 122 rfl B 5 i0 (.int .u8 0) 1 1 Tryz.underlying122 hi hz0 hz1 hz2 rfl (by decide) _ _ _ rfl HO.out ⟨w.heap.size, 0, none⟩ 9 9 (Lib.byteCells (pad 9 x)) rfl HL.out HC.out ?c2 ?c3 ?c4 hB2 ?_)
  case c2 => intro u' hu'; simp only [Lib.byteCells, List.mem_map] at hu'; obtain ⟨b, _, rfl⟩ := hu'; rfl
  case c3 => unfold maxLen; omega
  case c4 => omega
  intro v' w1 hown1 hgrow _
  go_wp2
  go_ret
  exact ⟨v', rfl, hown1, hbel.grown hgrow hB2 (fun k hk => (HO.out.lt k hk).1)⟩

theorem run_mkb (c : Nat) (hc : c ≤ 1000000) (C : Int) (hC : C = c) (w : World) :
    (Instr.makeSlice 122 (.int .i64 0) (.int .i64 C)).run Tryz.prog w = .ok (.slice (some ⟨w.heap.size, 0, none⟩) 0 c) (w.alloc (.cells (madeCells #[Value.int .u8 0] c) 5)) := by
  subst hC
  obtain ⟨i, hi, hzz⟩ := Option.map_eq_some_iff.1 info_u8
  simp only [Prod.mk.injEq] at hzz
  obtain ⟨hz, hs, hb⟩ := hzz
  have hr := run_make (P := Tryz.prog) w 122 5 i (.int .u8 0) Tryz.underlying122 hi hz .i64 .i64 0 (c : Int) (by omega) (by omega) (by rw [hb]; omega) (by omega)
  have e : (Value.int .u8 0).cells = #[Value.int .u8 0] := rfl
  rw [e, hs] at hr
  simpa using hr
def FmtRel (B : Nat) (W : World) (k : Nat) (sv : Value) (l : List UInt8) (wr : World) : Prop :=
  wr.ownsRow B 5 1 sv l.length (Lib.byteCells l) ∧ Below B W wr ∧ B ≤ wr.heap.size ∧ Hid (l.length + 9 * k ≤ 1000000)
theorem groups_drop (xs : List Nat) (k : Nat) (h : k < xs.length) : groups (xs.drop k) = groups (xs.drop (k + 1)) ++ pad 9 (xs.getD k 0) := by
  rw [List.drop_eq_getElem_cons h, groups, List.getD_eq_getElem?_getD, List.getElem?_eq_getElem h]
  rfl
theorem FmtRel.step {B : Nat} {W wr w' : World} {k : Nat} {sv v' : Value} {l m : List UInt8} (h : FmtRel B W (k + 1) sv l wr) (hm : m.length = 9) (ho : w'.ownsRow B 5 1 v' (l.length + 9) (Lib.byteCells l ++ Lib.byteCells m)) (hb : Below B wr w') : FmtRel B W k v' (l ++ m) w' := by
  obtain ⟨h1, h2, h3, h4⟩ := h
  refine ⟨?_, h2.trans hb, Nat.le_trans h3 hb.size, ?_⟩
  · rw [Lib.byteCells_append, List.length_append, hm]; exact ho
  · unfold Hid; have := h4.out; rw [List.length_append, hm]; omega
theorem FmtRel.text {B : Nat} {W wr : World} {k : Nat} {sv : Value} {l : List UInt8} (h : FmtRel B W k sv l wr) (hl : 0 < l.length) : (convert 122 9 sv).run Tryz.prog wr = .ok (.string ⟨l.toArray⟩) wr := by
  obtain ⟨h1, _⟩ := h
  rcases h1.2 with ⟨rfl, h0⟩ | ⟨g, cap, cur, rfl, hg, hh, hnc, hcm, _, htk⟩
  · omega
  · refine run_convert_bytes_back wr 122 9 5 ⟨g, 0, none⟩ cap l Tryz.underlying122 Tryz.underlying5 Tryz.underlying9 (fun j hj => ?_)
    refine h1.cells rfl j _ ?_
    simp [Lib.byteCells, hj]

set_option maxRecDepth 100000 in
set_option maxHeartbeats 6400000 in
theorem format_calls (w : World) (hW : WT w) (v : Value) (z : Int) (h : IsInt w v z) (l : Lim 100000 z) :
    Calls Tryz.prog 71 #[v] w fun e w' => e = .returned (.string ⟨(Lib.itoa z).toArray⟩) ∧ Ext w w' := by
  obtain ⟨ao, cap, s, n, rfl, h1, h2, h3, H4, H5, H6⟩ := h.open_
  obtain ⟨W, hWW, eW, c0, c1⟩ := box1 w (.bool s) (.slice ao (limbs n).length cap) 25
  rcases Nat.eq_zero_or_pos n with h0 | h0
  · subst h0
    have hz : z = 0 := by have h5 := H5.out; cases s <;> simpa [sgn] using h5
    subst hz
    have HR : Hid (Lib.itoa 0 = [48]) := by unfold Hid; exact (Lib.itoa_nonneg 0).trans (Lib.decDigits_one (by omega))
    rw [limbs_zero] at h1 c1 hWW
    clear H4 H5 H6 l h h3
    go_enter Tryz.func71, Tryz.ntmps71
    go_wp2
    go_ret
    exact ⟨by rw [HR.out]; rfl, (Ext.refl w).alloc _⟩
  · have hl : (limbs n).length ≤ 100000 := by unfold Lim at l; rw [← H4.out] at l; exact l
    have hlp : 0 < (limbs n).length := limbs_pos h0
    obtain ⟨b, off, rfl, hcell⟩ := h3.at_ hlp
    obtain ⟨xs, hxs⟩ : ∃ xs, xs = limbs n := ⟨_, rfl⟩
    have hdig : Dig xs := by rw [hxs]; exact dig_limbs n
    have hlast : xs.getD (xs.length - 1) 0 ≠ 0 := by rw [hxs]; exact limbs_last n (fun e => by rw [e] at hlp; simp at hlp)
    have hval : val xs = n := by rw [hxs]; exact val_limbs n
    rw [← hxs] at hl hlp hcell h1 c1 hWW h3 ⊢
    obtain ⟨L, hL⟩ : ∃ L, L + 1 = xs.length := ⟨xs.length - 1, by omega⟩
    obtain ⟨t, ht⟩ : ∃ t, t = xs.getD L 0 := ⟨_, rfl⟩
    have ht0 : 0 < t := by rw [ht]; have := hlast; rw [show xs.length - 1 = L by omega] at this; omega
    have ht9 : t < 1000000000 := by
      rw [ht]
      exact hdig L
    obtain ⟨lows, hlows⟩ : ∃ lows, lows = xs.take L := ⟨_, rfl⟩
    have hll : lows.length = L := by rw [hlows, List.length_take]; omega
    have hsplit : xs = lows ++ [t] := by
      rw [hlows, ht]
      conv => lhs; rw [← List.take_append_drop L xs]
      congr 1
      rw [List.drop_eq_getElem_cons (by omega), List.getD_eq_getElem?_getD, List.getElem?_eq_getElem (by omega), List.drop_eq_nil_of_le (by omega)]
      rfl
    have hdl : Dig lows := by rw [hlows]; exact hdig.take L
    have hdec : Lib.decDigits n = Lib.decDigits t ++ groups lows := by rw [← hval, hsplit]; exact dec_limbs t ht0 lows hdl
    have htop : W.cell? ⟨b, off + L, none⟩ = some (.int .u32 (t : Int)) := by rw [ht]; exact eW.cell (hcell L (by omega))
    have hlow : ∀ k, k < L → W.cell? ⟨b, off + k, none⟩ = some (.int .u32 ((lows.getD k 0 : Nat) : Int)) := by
      intro k hk
      rw [hlows, List.getD_eq_getElem?_getD, List.getElem?_take, if_pos hk, ← List.getD_eq_getElem?_getD]
      exact eW.cell (hcell k (by omega))
    have HLow := Lib.hid hlow
    have HTop := Lib.hid htop
    have HDec := Lib.hid hdec
    have HDig : Hid (∀ k x, x = lows.getD k 0 → x < 1000000000) := fun k x hx => by rw [hx]; exact hdl k
    have HLL := Lib.hid hll
    have hln : (lows.getD 0 0 : Nat) = lows.getD 0 0 := rfl
    have hWs : W.heap.size = w.heap.size + 1 := by rw [← hWW]; simp
    have HZ : Hid (Lib.itoa z = (if s = true then [45] else []) ++ Lib.decDigits n) := by
      unfold Hid
      have h5 := H5.out
      cases s
      · have : z = (n : Int) := h5
        subst this
        rw [Lib.itoa_nonneg]; rfl
      · have : z = -(n : Int) := h5
        subst this
        rw [Lib.itoa_neg n h0]; rfl
    have hLI : (xs.length : Int) = (L : Int) + 1 := by omega
    have hlb : (L : Int) ≤ 100000 := by omega
    have hbig : ∀ (t' : Nat), t' < 1000000000 → (Lib.decDigits t').length ≤ 20 := by
      intro t' h'
      rw [Lib.decDigits_length]
      by_cases h1 : t' = 0
      · subst h1; rw [Lib.nDigits_small (by omega)]; omega
      · have := Lib.numDigits_eq t' (by omega) (by omega)
        split at this <;> omega
    have HDl := Lib.hid (hbig t ht9)
    have HWT : Hid (WT W) := hW.ext eW
    have hlen1 : xs.length = L + 1 := hL.symm
    rw [hlen1] at c1 hWW h1 ⊢
    have hmk := run_mkb (1 + (L + 1) * 9) (by omega) (1 + ((L : Int) + 1) * 9) (by omega)
    have HC := Lib.hid (And.intro c0 c1)
    have HWs := Lib.hid hWs
    have Ht9 := Lib.hid (And.intro ht0 ht9)
    clear H4 H5 H6 l h h3 hcell hlast hval hdig hdl hsplit hdec htop hlow hll hlows ht hxs hbig hWs hln hlen1 hLI hL hl hlp ht0 ht9
    have hp : 0 < L + 1 := by omega
    have hbt := HTop.out
    have hlt : w.heap.size < W.heap.size := by have := HWs.out; omega
    have hblt : b < W.heap.size := lt_of_cell hbt
    have htI : (t : Int) ≤ 999999999 := by have := Ht9.out.2; omega
    obtain ⟨i0, hi, hz0, hz1, hz2⟩ := info_parts info_u8
    have hHI := Lib.hid hi
    have hH0 := Lib.hid hz0
    have hH1 := Lib.hid hz1
    have hH2 := Lib.hid hz2
    clear hi hz0 hz1 hz2
    have hB := Nat.le_refl W.heap.size
    have hown0 := World.ownsRow_made (base := W.heap.size) (e := 5) (size := 1) W (madeCells #[Value.int .u8 0] (1 + (L + 1) * 9)) (1 + (L + 1) * 9) hB (by unfold maxLen; omega) (by rw [size_madeCells, Nat.mul_one])
    have HO := Lib.hid hown0
    clear hown0 hB
    have hwt1 : WT (W.alloc (.cells (madeCells #[Value.int .u8 0] (1 + (L + 1) * 9)) 5)) := HWT.out.ext ((Ext.refl W).alloc _)
    have HW1 := Lib.hid hwt1
    clear hwt1
    cases s
    · go_enter Tryz.func71, Tryz.ntmps71
      go_wp2_with fail
      have hHZ : Hid (Lib.itoa z = [] ++ Lib.decDigits n) := by unfold Hid; rw [HZ.out]; rfl
      refine (appendUint_calls _ HW1.out W.heap.size 0 t Ht9.out.1 Ht9.out.2 _ [] HO.out (by simp) (by omega)).mono ?_
      rintro e w1 ⟨v1, rfl, hown1, hb1⟩
      have hF : FmtRel W.heap.size W L v1 ([] ++ Lib.decDigits t) w1 := by
        refine ⟨by rw [Nat.zero_add] at hown1; exact hown1, ((Below.refl _ _).alloc (Nat.le_refl _) _).trans hb1, Nat.le_trans (by simp) hb1.size, ?_⟩
        unfold Hid
        have := HDl.out
        simp only [List.nil_append]
        omega
      have HF := Lib.hid hF
      clear hF hown1 hb1 HZ htI
      obtain ⟨pre, hpre⟩ : ∃ pre : List UInt8, pre = [] := ⟨_, rfl⟩
      rw [← hpre] at HF hHZ
      clear hpre
      go_wp2_with fail
      go_loopw [4, 5] (fun tx i wr => ∃ k : Nat, k ≤ L ∧ i = .int .i64 ((k : Int) - 1) ∧ FmtRel W.heap.size W k tx (pre ++ Lib.decDigits t ++ groups (lows.drop k)) wr) (fun _ i _ => (intOf i + 1).toNat)
      case atStart => exact ⟨L, Nat.le_refl _, by go_num, by rw [List.drop_of_length_le (by have := HLL.out; omega), groups, List.append_nil]; exact HF.out⟩
      case round =>
        obtain ⟨k, hk, rfl, hR⟩ := hrel
        rcases k with _ | k
        · have htx := hR.text (by rw [List.length_append, List.length_append, Lib.decDigits_length]; have := Lib.nDigits_pos t; omega)
          have HE : Hid (Ext w wr) := by
            unfold Hid
            exact eW.trans hR.2.1
          have HRR := Lib.hid hR
          clear hR
          go_wp2
          go_ret
          refine ⟨?_, HE.out⟩
          rw [hHZ.out, HDec.out, ← List.append_assoc]
          rfl
        · have hk2 : k < L := by omega
          have hcx := hR.2.1.cell (p := ⟨b, off + k, none⟩) hblt
          rw [HLow.out k hk2] at hcx
          have c02 := hR.2.1.cell (p := ⟨w.heap.size, 0, none⟩) hlt
          have c12 := hR.2.1.cell (p := ⟨w.heap.size, 1, none⟩) hlt
          rw [c0] at c02
          rw [c1] at c12
          obtain ⟨x, hx⟩ : ∃ x, x = lows.getD k 0 := ⟨_, rfl⟩
          rw [← hx] at hcx
          have hx9 : x < 1000000000 := HDig.out k x hx
          have hgr := groups_drop lows k (by have := HLL.out; omega)
          rw [← hx] at hgr
          have HG := Lib.hid hgr
          have HRR := Lib.hid hR
          have HX := Lib.hid hx9
          have hkb : k < L + 1 := by omega
          have hkI : ((k + 1 : Nat) : Int) - 1 = (k : Int) := by omega
          rw [hkI]
          clear hR hgr hx hx9 hkI
          go_wp2_with fail
          refine (appendGroup_calls _ W.heap.size _ x HX.out _ _ HRR.out.1 HRR.out.2.2.1 (by have := HRR.out.2.2.2.out; omega)).mono ?_
          rintro e w2 ⟨v2, rfl, hown2, hb2⟩
          have HS : Hid (FmtRel W.heap.size W k v2 (pre ++ Lib.decDigits t ++ groups (lows.drop k)) w2) := by
            unfold Hid
            rw [HG.out, ← List.append_assoc]
            exact HRR.out.step (pad_length _ _) hown2 hb2
          clear hown2 hb2 c02 c12 hcx
          go_wp2
          go_roundw
          case rel => exact ⟨k, by omega, by go_num, HS.out⟩
          case measure => simp [intOf]
    · go_enter Tryz.func71, Tryz.ntmps71
      have hHZ : Hid (Lib.itoa z = [45] ++ Lib.decDigits n) := by unfold Hid; rw [HZ.out]; rfl
      have hnews : ∀ j u, [Value.int .u8 45][j]? = some u → ((W.alloc (.cells (madeCells #[Value.int .u8 0] (1 + (L + 1) * 9)) 5)).alloc (.cells #[Value.int .u8 45] 5)).cell? ((⟨W.heap.size + 1, 0, none⟩ : Addr).add j) = some u := by
        intro j u hj
        match j, hj with
        | 0, hj => injection hj with hj; subst hj; simp [Addr.add]
      have HN := Lib.hid hnews
      clear hnews
      go_wp2_with (at_builtin; refine wpList_append_own _ rfl _ _ 122 rfl W.heap.size 5 i0 (.int .u8 0) 1 1 Tryz.underlying122 hHI.out hH0.out hH1.out hH2.out rfl (by decide) _ 0 [] rfl (HO.out.alloc _) ⟨W.heap.size + 1, 0, none⟩ 1 1 [.int .u8 45] rfl rfl HN.out (by intro u' hu'; simp only [List.mem_singleton] at hu'; subst hu'; rfl) (by unfold maxLen; omega) (by omega) (by simp; omega) ?_)
      intro v0 w0 hown1 hgrow _
      have hb0 : Below W.heap.size W w0 := (((Below.refl _ _).alloc (Nat.le_refl _) _).alloc (by simp) _).grown hgrow (by simp; omega) (fun k hk => by simp [Value.ownBlock] at hk; omega)
      have c02 := hb0.cell (p := ⟨w.heap.size, 0, none⟩) hlt
      have c12 := hb0.cell (p := ⟨w.heap.size, 1, none⟩) hlt
      have ct2 := hb0.cell (p := ⟨b, off + L, none⟩) hblt
      rw [c0] at c02
      rw [c1] at c12
      rw [hbt] at ct2
      have HB0 := Lib.hid hb0
      have HO1 := Lib.hid hown1
      have HW2 : Hid (WT w0) := Lib.tabBelow_of_tabIs HWT.out w0 hb0
      clear hown1 hgrow hb0
      go_wp2_with fail
      refine (appendUint_calls _ HW2.out W.heap.size 1 t Ht9.out.1 Ht9.out.2 _ [.int .u8 45] HO1.out HB0.out.size (by omega)).mono ?_
      rintro e w1 ⟨v1, rfl, hown1, hb1⟩
      have hF : FmtRel W.heap.size W L v1 ([45] ++ Lib.decDigits t) w1 := by
        refine ⟨?_, HB0.out.trans hb1, Nat.le_trans HB0.out.size hb1.size, ?_⟩
        · rw [Lib.byteCells_append, List.length_append]; exact hown1
        · unfold Hid
          have := HDl.out
          simp only [List.length_append, List.length_cons, List.length_nil]
          omega
      have HF := Lib.hid hF
      clear hF hown1 hb1 HZ htI
      obtain ⟨pre, hpre⟩ : ∃ pre : List UInt8, pre = [45] := ⟨_, rfl⟩
      rw [← hpre] at HF hHZ
      clear hpre c02 c12 ct2
      go_wp2_with fail
      go_loopw [4, 5] (fun tx i wr => ∃ k : Nat, k ≤ L ∧ i = .int .i64 ((k : Int) - 1) ∧ FmtRel W.heap.size W k tx (pre ++ Lib.decDigits t ++ groups (lows.drop k)) wr) (fun _ i _ => (intOf i + 1).toNat)
      case atStart => exact ⟨L, Nat.le_refl _, by go_num, by rw [List.drop_of_length_le (by have := HLL.out; omega), groups, List.append_nil]; exact HF.out⟩
      case round =>
        obtain ⟨k, hk, rfl, hR⟩ := hrel
        rcases k with _ | k
        · have htx := hR.text (by rw [List.length_append, List.length_append, Lib.decDigits_length]; have := Lib.nDigits_pos t; omega)
          have HE : Hid (Ext w wr) := by
            unfold Hid
            exact eW.trans hR.2.1
          have HRR := Lib.hid hR
          clear hR
          go_wp2
          go_ret
          refine ⟨?_, HE.out⟩
          rw [hHZ.out, HDec.out, ← List.append_assoc]
          rfl
        · have hk2 : k < L := by omega
          have hcx := hR.2.1.cell (p := ⟨b, off + k, none⟩) hblt
          rw [HLow.out k hk2] at hcx
          have c02 := hR.2.1.cell (p := ⟨w.heap.size, 0, none⟩) hlt
          have c12 := hR.2.1.cell (p := ⟨w.heap.size, 1, none⟩) hlt
          rw [c0] at c02
          rw [c1] at c12
          obtain ⟨x, hx⟩ : ∃ x, x = lows.getD k 0 := ⟨_, rfl⟩
          rw [← hx] at hcx
          have hx9 : x < 1000000000 := HDig.out k x hx
          have hgr := groups_drop lows k (by have := HLL.out; omega)
          rw [← hx] at hgr
          have HG := Lib.hid hgr
          have HRR := Lib.hid hR
          have HX := Lib.hid hx9
          have hkb : k < L + 1 := by omega
          have hkI : ((k + 1 : Nat) : Int) - 1 = (k : Int) := by omega
          rw [hkI]
          clear hR hgr hx hx9 hkI
          go_wp2_with fail
          refine (appendGroup_calls _ W.heap.size _ x HX.out _ _ HRR.out.1 HRR.out.2.2.1 (by have := HRR.out.2.2.2.out; omega)).mono ?_
          rintro e w2 ⟨v2, rfl, hown2, hb2⟩
          have HS : Hid (FmtRel W.heap.size W k v2 (pre ++ Lib.decDigits t ++ groups (lows.drop k)) w2) := by
            unfold Hid
            rw [HG.out, ← List.append_assoc]
            exact HRR.out.step (pad_length _ _) hown2 hb2
          clear hown2 hb2 c02 c12 hcx
          go_wp2
          go_roundw
          case rel => exact ⟨k, by omega, by go_num, HS.out⟩
          case measure => simp [intOf]

end Go.Proofs.YtllijnecmekfeaaGreatDoor
end

section
set_option maxRecDepth 100000
namespace Go.Proofs.YtllijnecmekfeaaGreatDoor
open Go.RowKit Go.Shelf
def ren103 : Go.Shelf.Ren := ⟨fun | 103 => 53 | 210 => 104 | 206 => 152 | n => n, fun | 9 => 9 | 4 => 4 | 24 => 42 | 3 => 3 | n => n, fun | n => n⟩
theorem lays103 : Go.Proofs.Lays.n103 Tryz.prog ren103 := {
  mixed := by kernel_rfl
  f103 := Tryz.func53.trans (congrArg some (by kernel_rfl))
  f206 := Tryz.func152.trans (congrArg some (by kernel_rfl))
  f210 := Tryz.func104.trans (congrArg some (by kernel_rfl))
  t3 := Tryz.underlying3
  a3 := Tryz.isAgg3
  z3 := Tryz.sizeOf3
  v3 := Tryz.zeroValue3
  t4 := Tryz.underlying4
  a4 := Tryz.isAgg4
  z4 := Tryz.sizeOf4
  v4 := Tryz.zeroValue4
  t9 := Tryz.underlying9
  a9 := Tryz.isAgg9
  z9 := Tryz.sizeOf9
  v9 := Tryz.zeroValue9
  t24 := Tryz.underlying42
  a24 := Tryz.isAgg42
  z24 := Tryz.sizeOf42
  v24 := Tryz.zeroValue42 }
def negL (l : List UInt8) : Bool := Lib.hasPrefix l [45]
def digL (l : List UInt8) : List UInt8 := Lib.trimPrefix l [45]
theorem cut_calls (w : World) (s : ByteArray) : Calls Tryz.prog 53 #[.string s, .string ⟨#[45]⟩] w fun e w' => ∃ D : ByteArray, e = .returned (.tuple #[.string D, .bool (negL s.data.toList)]) ∧ D.data.toList = digL s.data.toList ∧ w = w' := by
  refine (Any.strings_CutPrefix lays103 s ⟨#[45]⟩ w).mono ?_
  rintro e w' ⟨h1, h2⟩
  exact ⟨_, h1, rfl, h2.symm⟩
theorem digL_len (l : List UInt8) : (digL l).length ≤ l.length := by
  unfold digL Lib.trimPrefix
  split
  · rw [List.length_drop]; omega
  · exact Nat.le_refl _
def parseOK (l : List UInt8) : Bool := decide (l.length ≤ 65536) && (numB (digL l) && !(negL l && digL l == [48]))
def parseV (l : List UInt8) : Int := sgn (negL l) (dv (digL l))
def RetParse (l : List UInt8) (w : World) (e : Ending) (w' : World) : Prop :=
  ∃ v, e = .returned (.tuple #[v, .int .i64 (if parseOK l then 0 else 2)]) ∧ IsInt w' v (if parseOK l then parseV l else 0) ∧ Ext w w'

set_option maxRecDepth 100000 in
set_option maxHeartbeats 1600000 in
theorem parse_bad (w : World) (s : ByteArray) (hs : s.size ≤ 9223372036854775807) (hb : parseOK s.data.toList = false) : Calls Tryz.prog 108 #[.string s] w (RetParse s.data.toList w) := by
  have fin : ∀ (W w1 : World), Ext w W → W.heap.size = w.heap.size + 1 → W.cell? ⟨w.heap.size, 0, none⟩ = some (.bool false) → W.cell? ⟨w.heap.size, 1, none⟩ = some (.slice none 0 0) → True := fun _ _ _ _ _ _ => trivial
  clear fin
  obtain ⟨W, hW, eW, _, r0, r1, f0, f1⟩ := res_new w 25
  have HB := Lib.hid hb
  have hl := bytes_len s
  have hcase : 65536 < s.size ∨ (¬ 65536 < s.size ∧ (numB (digL s.data.toList) = false ∨ (numB (digL s.data.toList) = true ∧ negL s.data.toList = true ∧ digL s.data.toList = [48]))) := by
    unfold parseOK at hb
    by_cases h1 : 65536 < s.size
    · exact .inl h1
    · refine .inr ⟨h1, ?_⟩
      rw [decide_eq_true (by omega), Bool.true_and] at hb
      cases h2 : numB (digL s.data.toList)
      · exact .inl rfl
      · right
        rw [h2, Bool.true_and] at hb
        simp at hb
        exact ⟨rfl, hb.1, hb.2⟩
  clear hb hl
  go_enter Tryz.func108, Tryz.ntmps108
  go_wp2_with fail
  clear hW
  refine (cut_calls _ s).mono ?_
  rintro e w1 ⟨D, rfl, hD, rfl⟩
  have hfin : Ext w ((W.setCell ⟨w.heap.size, 0, none⟩ (.bool false)).setCell ⟨w.heap.size, 1, none⟩ (.slice none 0 0)) := (eW.setCell (p := ⟨w.heap.size, 0, none⟩) (Nat.le_refl _) _).setCell (p := ⟨w.heap.size, 1, none⟩) (Nat.le_refl _) _
  have HF := Lib.hid hfin
  have hDs : D.size ≤ s.size := by rw [← bytes_len, hD, ← bytes_len]; exact digL_len _
  have HD := Lib.hid hD
  have HN := Lib.hid (isNumeral_calls W D (by omega))
  clear hfin hD
  rcases hcase with h1 | ⟨h1, h2 | ⟨h2, h3, h4⟩⟩
  · have g1 : (65536 : Int) < (s.size : Int) := by omega
    clear h1
    go_wp2
    exact bodyPost_ret (v := .tuple #[.agg #[.bool false, .slice none 0 0], .int .i64 2]) (by simp [results, Tryz.results108, go_sem, r0, r1]) rfl ⟨_, by rw [HB.out]; rfl, by rw [HB.out]; exact isInt_zero _, HF.out⟩
  · have g1 : ¬ (65536 : Int) < (s.size : Int) := by omega
    clear h1
    go_wp2_with fail
    refine HN.out.mono ?_
    rintro e w1 ⟨rfl, rfl⟩
    rw [HD.out, h2]
    go_wp2
    exact bodyPost_ret (v := .tuple #[.agg #[.bool false, .slice none 0 0], .int .i64 2]) (by simp [results, Tryz.results108, go_sem, r0, r1]) rfl ⟨_, by rw [HB.out]; rfl, by rw [HB.out]; exact isInt_zero _, HF.out⟩
  · have g1 : ¬ (65536 : Int) < (s.size : Int) := by omega
    have hd : D.toList = [48] := by rw [ByteArray.toList_eq, HD.out, h4]
    have hd2 : (D.toList == [48]) = true := by rw [hd]; rfl
    clear h1
    rw [h3]
    go_wp2_with fail
    refine HN.out.mono ?_
    rintro e w1 ⟨rfl, rfl⟩
    rw [HD.out, h2]
    go_wp2
    exact bodyPost_ret (v := .tuple #[.agg #[.bool false, .slice none 0 0], .int .i64 2]) (by simp [results, Tryz.results108, go_sem, r0, r1]) rfl ⟨_, by rw [HB.out]; rfl, by rw [HB.out]; exact isInt_zero _, HF.out⟩

theorem extract_list (D : ByteArray) (a b : Nat) : (D.extract a b).data.toList = (D.data.toList.take b).drop a := by
  rw [List.drop_take, ByteArray.data_extract, Array.toList_extract]
def ParseRel (w : World) (g : Nat) (D : List UInt8) (k : Nat) (zs : List Nat) (wr : World) : Prop :=
  zs.length = (D.length + 8) / 9 ∧ Dig zs ∧ Blk wr g zs ∧ Ext w wr ∧ val (zs.take k) = dv (D.drop (D.length - 9 * k))
theorem ParseRel.step {w : World} {g : Nat} {D : List UInt8} {k : Nat} {zs : List Nat} {wr : World} (h : ParseRel w g D k zs wr) (hg : w.heap.size ≤ g) (hk : k < zs.length) (hd : D.all digB = true) (x : Nat)
    (hx : x = dv ((D.take (D.length - 9 * k)).drop (D.length - 9 * k - 9))) : ParseRel w g D (k + 1) (zs.set k x) (wr.setCell ⟨g, k, none⟩ (.int .u32 (x : Int))) ∧ x < 1000000000 := by
  obtain ⟨h1, h2, h3, h4, h5⟩ := h
  have hL : 9 * k < D.length := by omega
  obtain ⟨e, he⟩ : ∃ e, e = D.length - 9 * k := ⟨_, rfl⟩
  rw [← he] at hx h5
  have hall : ((D.take e).drop (e - 9)).all digB = true := by
    rw [List.all_eq_true] at hd ⊢
    exact fun y hy => hd y (List.mem_of_mem_take (List.mem_of_mem_drop hy))
  have hxl : ((D.take e).drop (e - 9)).length ≤ 9 := by rw [List.length_drop, List.length_take]; omega
  have hxb : x < 1000000000 := by
    have := dv_lt hall
    rw [← hx] at this
    have h10 := Nat.pow_le_pow_right (n := 10) (by omega) hxl
    omega
  refine ⟨⟨by simpa using h1, h2.set k hxb, h3.set k x hk, h4.setCell (p := ⟨g, k, none⟩) hg _, ?_⟩, hxb⟩
  rw [val_take_set zs k x hk, h5]
  have hsplit : D.drop (D.length - 9 * (k + 1)) = (D.take e).drop (e - 9) ++ D.drop e := by
    rw [show D.length - 9 * (k + 1) = e - 9 by omega]
    rw [← List.drop_append_of_le_length (by rw [List.length_take]; omega), List.take_append_drop]
  rw [hsplit, dv_append, ← hx, List.length_drop, show D.length - e = 9 * k by omega, Nat.pow_mul, show (10 : Nat) ^ 9 = 1000000000 from rfl, Nat.mul_comm x]
  omega

set_option maxRecDepth 100000 in
set_option maxHeartbeats 3200000 in
theorem parse_good (w : World) (s : ByteArray) (hs : s.size ≤ 9223372036854775807) (hb : parseOK s.data.toList = true) : Calls Tryz.prog 108 #[.string s] w (RetParse s.data.toList w) := by
  obtain ⟨W, hW, eW, hz, r0, r1, f0, f1⟩ := res_new w 25
  have HB := Lib.hid hb
  have hl := bytes_len s
  have hcase : ¬ 65536 < s.size ∧ numB (digL s.data.toList) = true ∧ (negL s.data.toList = false ∨ digL s.data.toList ≠ [48]) := by
    unfold parseOK at hb
    simp only [Bool.and_eq_true, decide_eq_true_iff, Bool.not_eq_true', Bool.and_eq_false_iff, beq_eq_false_iff_ne] at hb
    exact ⟨by omega, hb.2.1, hb.2.2⟩
  clear hb hl
  go_enter Tryz.func108, Tryz.ntmps108
  go_wp2_with fail
  clear hW
  refine (cut_calls _ s).mono ?_
  rintro e w1 ⟨D, rfl, hD, rfl⟩
  have hDs : D.size ≤ s.size := by rw [← bytes_len, hD, ← bytes_len]; exact digL_len _
  have HD := Lib.hid hD
  have HN := Lib.hid (isNumeral_calls W D (by omega))
  obtain ⟨h1, h2, h3⟩ := hcase
  have g1 : ¬ (65536 : Int) < (s.size : Int) := by omega
  have hDb : D.size ≤ 65536 := by omega
  have HNum := Lib.hid h2
  rw [← hD] at h2 h3
  have HAll : Hid (D.data.toList.all digB = true) := by
    unfold Hid
    unfold numB at h2
    simp only [Bool.and_eq_true] at h2
    exact h2.2.2
  have hne : negL s.data.toList = true → (D.toList == [48]) = false := by
    intro hn
    rcases h3 with h3 | h3
    · rw [h3] at hn; cases hn
    · rw [ByteArray.toList_eq, beq_eq_false_iff_ne]; exact h3
  have HV : Hid (parseV s.data.toList = sgn (negL s.data.toList) (dv D.data.toList)) := by unfold Hid parseV; rw [hD]
  clear hD h1 h2 h3 hDs
  generalize negL s.data.toList = neg at *
  have hcs : neg = false ∨ neg = true ∧ (D.toList == [48]) = false := by
    cases hn : neg
    · exact .inl rfl
    · exact .inr ⟨rfl, hne hn⟩
  clear hne
  obtain ⟨K, hK⟩ : ∃ K, K = (D.size + 8) / 9 := ⟨_, rfl⟩
  have hKI : ((D.size : Int) + 9 - 1).tdiv 9 = (K : Int) := by rw [Int.tdiv_eq_ediv_of_nonneg (by omega)]; omega
  have hKI2 : ((D.size : Int) + 8).tdiv 9 = (K : Int) := by rw [Int.tdiv_eq_ediv_of_nonneg (by omega)]; omega
  have hmk := run_mk K (by omega) ↑K rfl
  have hKb : K ≤ 8000 := by omega
  have HK := Lib.hid hK
  clear hK
  rcases hcs with rfl | ⟨rfl, hq⟩
  all_goals
    go_wp2_with fail
    refine HN.out.mono ?_
    rintro e w1 ⟨rfl, rfl⟩
    rw [HD.out, HNum.out]
    go_wp2_with fail
    clear hmk hKI hKI2
    have hDL := bytes_len D
    have h0 : ParseRel W (w.heap.size + 1) D.data.toList 0 (List.replicate K 0) (W.alloc (.cells (u32s (List.replicate K 0)) 103)) := by
      refine ⟨by rw [List.length_replicate, HK.out, hDL], Dig.replicate _, ?_, (Ext.refl W).alloc _, ?_⟩
      · have := Blk.new W (List.replicate K 0)
        rwa [hz] at this
      · rw [List.drop_of_length_le (by omega)]; rfl
    go_loopw [38] (fun i wr => ∃ (k : Nat) (zs : List Nat), k ≤ K ∧ i = .int .i64 k ∧ ParseRel W (w.heap.size + 1) D.data.toList k zs wr) (fun i _ => K - (intOf i).toNat)
    case atStart => exact ⟨0, _, Nat.zero_le _, rfl, h0⟩
    case round =>
      obtain ⟨k, zs, hk, rfl, hR⟩ := hrel
      clear h0
      by_cases hlt : k < K
      · have hzl : zs.length = K := by rw [hR.1, hDL, ← HK.out]
        have hzc := hR.2.2.1.cell k (by omega)
        have hzf := hR.2.2.1.frozen k
        have h9k : 9 * k < D.size := by have := HK.out; omega
        obtain ⟨e, he⟩ : ∃ e, e = D.size - 9 * k := ⟨_, rfl⟩
        have heI : (D.size : Int) - (k : Int) * 9 = (e : Int) := by omega
        have hst := fun x hx => hR.step (by omega) (by omega) HAll.out x hx
        rw [hDL, ← he] at hst
        have HST := Lib.hid hst
        have HRR := Lib.hid hR
        clear hst hR
        obtain ⟨lo, hlo⟩ : ∃ lo, lo = e - 9 := ⟨_, rfl⟩
        have hmx : max (0 : Int) ((e : Int) - 9) = (lo : Int) := by omega
        rw [← hlo] at HST
        have he1 : (lo : Int) ≤ (e : Int) := by omega
        have he2 : (e : Int) ≤ (D.size : Int) := by omega
        have heb : (e : Int) ≤ 65536 := by omega
        have hlN : lo ≤ e := by omega
        have heN : e ≤ D.size := by omega
        have hel : e - lo ≤ 9 := by omega
        have HE := Lib.hid (And.intro he (And.intro hlo (And.intro h9k hel)))
        clear he hlo h9k hel
        have hgv := groupValue_calls wr (D.extract lo e) (by rw [ByteArray.size_extract, Nat.min_eq_left heN]; exact HE.out.2.2.2) (by
          rw [extract_list]
          have ha := HAll.out
          rw [List.all_eq_true] at ha ⊢
          exact fun y hy => ha y (List.mem_of_mem_take (List.mem_of_mem_drop hy)))
        rw [extract_list] at hgv
        obtain ⟨x, hx⟩ : ∃ x, x = dv (List.drop lo (List.take e D.data.toList)) := ⟨_, rfl⟩
        rw [← hx] at hgv
        have HGV := Lib.hid hgv
        have HX := Lib.hid (HST.out x hx)
        have hxb : (x : Int) < 1000000000 := by have := HX.out.2; omega
        clear hgv hx HST
        go_wp2_with fail
        refine HGV.out.mono ?_
        rintro e' w1 ⟨rfl, rfl⟩
        go_wp2
        go_roundw
        case rel => exact ⟨k + 1, _, by omega, by go_num, HX.out.1⟩
        case measure => simp [intOf]; omega
      · have e : k = K := by omega
        subst e
        have HRR := Lib.hid hR
        have hzl : zs.length = k := by rw [hR.1, hDL, ← HK.out]
        have HZV : Hid (val zs = dv D.data.toList) := by
          have h5 := hR.2.2.2.2
          rw [List.take_of_length_le (by omega), hDL, show D.size - 9 * k = 0 by have := HK.out; omega, List.drop_zero] at h5
          exact h5
        have hsg : ∀ neg, Calls Tryz.prog 109 #[.bool neg, .slice (some ⟨w.heap.size + 1, 0, none⟩) k k] wr (Ret (fun v w' => IsInt w' v (sgn neg (val zs))) wr) := fun neg => by
          have := signed_calls wr neg (some ⟨w.heap.size + 1, 0, none⟩) zs k (by omega) (by omega) hR.2.2.1.cells hR.2.1
          rwa [hzl] at this
        have HSG := Lib.hid hsg
        have HZL := Lib.hid hzl
        clear hzl hsg
        have eR := hR.2.2.2.1
        replace r0 := eR.cell r0
        replace r1 := eR.cell r1
        replace f0 := eR.frozen (p := ⟨w.heap.size, 0, none⟩) (by show w.heap.size < W.heap.size; omega) f0
        replace f1 := eR.frozen (p := ⟨w.heap.size, 1, none⟩) (by show w.heap.size < W.heap.size; omega) f1
        replace eW := eW.trans eR
        clear hR eR
        go_wp2_with fail
        refine (HSG.out _).mono ?_
        rintro e' w1 ⟨v3, rfl, hI, e3⟩
        obtain ⟨ao3, cap3, s3, n3, rfl, _⟩ := IsInt.open_ hI
        replace f0 := e3.frozen (lt_of_cell r0) f0
        replace f1 := e3.frozen (lt_of_cell r1) f1
        replace r0 := e3.cell r0
        replace r1 := e3.cell r1
        go_wp2
        obtain ⟨u, hu, hu2, hu3⟩ := fin_int hI r0 r1 (Nat.le_refl _) (eW.trans e3)
        injection hu with hu
        subst hu
        exact bodyPost_ret (v := .tuple #[.agg #[.bool s3, .slice ao3 (limbs n3).length cap3], .int .i64 0]) (by simp [results, Tryz.results108, go_sem, r0, r1]) rfl ⟨_, by rw [HB.out]; rfl, by rw [HB.out, if_pos rfl, HV.out, ← HZV.out]; exact hu2, hu3⟩

theorem parse_calls (w : World) (s : ByteArray) (hs : s.size ≤ 9223372036854775807) : Calls Tryz.prog 108 #[.string s] w (RetParse s.data.toList w) := by
  cases hb : parseOK s.data.toList
  · exact parse_bad w s hs hb
  · exact parse_good w s hs hb

end Go.Proofs.YtllijnecmekfeaaGreatDoor
end

section
set_option maxRecDepth 100000
namespace Go.Proofs.YtllijnecmekfeaaGreatDoor
open Go.RowKit Go.Shelf
def pZ (l : List UInt8) : Int := if parseOK l then parseV l else 0
def pE (l : List UInt8) : Int := if parseOK l then 0 else 2
theorem digL_all {l : List UInt8} (h : parseOK l = true) : (digL l).all digB = true := by
  unfold parseOK at h
  simp only [Bool.and_eq_true] at h
  have := h.2.1
  unfold numB at this
  simp only [Bool.and_eq_true] at this
  exact this.2.2
theorem pZ_lim {l : List UInt8} {m : Nat} (h : l.length ≤ m) : Lim (m / 9 + 1) (pZ l) := by
  unfold pZ
  split
  · rename_i hok
    have h1 := dv_lt (digL_all hok)
    have h2 := digL_len l
    have h3 : (parseV l).natAbs = dv (digL l) := by
      unfold parseV sgn
      split <;> omega
    refine limbs_len_le ?_
    rw [h3]
    refine Nat.lt_of_lt_of_le h1 ?_
    rw [show (1000000000 : Nat) = 10 ^ 9 from rfl, ← Nat.pow_mul]
    exact Nat.pow_le_pow_right (by omega) (by omega)
  · exact lim_zero
theorem parse_list (w : World) (l : List UInt8) (hl : l.length ≤ 65536) : Calls Tryz.prog 108 #[.string ⟨l.toArray⟩] w fun e w' => ∃ v, e = .returned (.tuple #[v, .int .i64 (pE l)]) ∧ IsInt w' v (pZ l) ∧ Ext w w' := by
  have hs : (⟨l.toArray⟩ : ByteArray).size = l.length := by simp [ByteArray.size]
  refine (parse_calls w ⟨l.toArray⟩ (by rw [hs]; omega)).mono ?_
  rintro e w' ⟨v, h1, h2, h3⟩
  exact ⟨v, h1, h2, h3⟩
def sE (ls : List (List UInt8)) (zs : List Int) (bs : List Bool) : Env := ⟨fun i => zs.getD i 0, fun i => bs.getD i false, fun _ => (false, []), fun i => ls.getD i []⟩
theorem one_str {E : Env} {w : World} {t : ST} {m : Nat} {v : Value} : one E w (false, [.str t m]) v ↔ v = .string ⟨(t.den E).toArray⟩ ∧ (t.den E).length ≤ m := by
  constructor
  · rintro ⟨⟨x, y, e1, ⟨e2, e3⟩, e4⟩, _⟩
    simp only [chunks] at e4
    subst e2 e4
    injection e1 with e1
    exact ⟨e1, e3⟩
  · rintro ⟨rfl, h⟩
    exact ⟨⟨[_], [], rfl, ⟨rfl, h⟩, rfl⟩, rfl⟩
end Go.Proofs.YtllijnecmekfeaaGreatDoor
end

section
set_option maxRecDepth 100000
namespace Go.Proofs.YtllijnecmekfeaaGreatDoor
open Go.RowKit Go.Shelf
def WQ (w : World) : Prop := WM w ∧ WT w
theorem WQ.ext {w w' : World} (h : WQ w) (e : Ext w w') : WQ w' := ⟨h.1.ext e, h.2.ext e⟩
theorem nDigits_le : ∀ (k u : Nat), u < 10 ^ (k + 1) → Lib.nDigits u ≤ k + 1
  | 0, u, h => by rw [Lib.nDigits_small (by simpa using h)]; exact Nat.le_refl _
  | k + 1, u, h => by
    by_cases h1 : u < 10
    · rw [Lib.nDigits_small h1]; omega
    · rw [Lib.nDigits_big h1]
      have := nDigits_le k (u / 10) (by rw [Nat.pow_succ] at h; omega)
      omega
theorem itoa_len {l : Nat} {z : Int} (h : Lim l z) : (Lib.itoa z).length ≤ 9 * l + 2 := by
  have h1 := lt_of_limbs_len h
  have h2 : (Lib.decDigits z.natAbs).length ≤ 9 * l + 1 := by
    rw [Lib.decDigits_length]
    refine nDigits_le (9 * l) _ (Nat.lt_of_lt_of_le h1 ?_)
    rw [show (1000000000 : Nat) = 10 ^ 9 from rfl, ← Nat.pow_mul]
    exact Nat.pow_le_pow_right (by omega) (by omega)
  unfold Lib.itoa
  split
  · simp only [List.length_cons]; omega
  · rename_i hz
    rw [show z.toNat = z.natAbs by omega]; omega
def kFmt : Con
  | [.val true [.int x l]], _ => if decide (l ≤ 100000) then some (.val false [.str (.fmt x) (9 * l + 2)]) else none
  | _, _ => none
theorem kFmt_ok {E : Env} : ConW Tryz.prog WQ E 71 kFmt := by
  refine ⟨?_, ?_, ⟨_, Tryz.func71, by decide +kernel, by kernel_rfl⟩⟩
  · intro args As r h hG β w vs hW hv hlen
    unfold kFmt at h
    split at h
    · split at h
      · rename_i hm
        have hm' := of_decide_eq_true hm
        injection h with h
        subst h
        obtain ⟨v, rfl, h1⟩ := args1 hv hlen
        obtain ⟨i1, l1⟩ := one_int.1 h1
        refine (format_calls w hW.2 v _ i1 (l1.mono hm')).mono ?_
        rintro e w' ⟨rfl, ex⟩
        exact ⟨_, rfl, one_str.2 ⟨rfl, itoa_len l1⟩, ex⟩
      · cases h
    · cases h
  · intro args As r h x off
    unfold kFmt at h
    split at h
    · split at h
      · injection h with h; subst h; intro e; cases e
      · cases h
    · cases h
def sqN (n d : Int) (z : Int) : Int := if sqB n && sqB d then isq z else 0
def tSq : Tree := .ite (.and (.eq (.a1 3 (.var 0)) (.lit 0)) (.eq (.a2 3 (.a2 2 (.a1 2 (.var 0)) (.a1 2 (.var 0))) (.var 0)) (.lit 0)))
  (.ite (.and (.eq (.a1 3 (.var 1)) (.lit 0)) (.eq (.a2 3 (.a2 2 (.a1 2 (.var 1)) (.a1 2 (.var 1))) (.var 1)) (.lit 0))) (.leaf [(true, [.int (.a1 2 (.var 0)) 100000, .int (.a1 2 (.var 1)) 100000]), (false, [.b (.lit true)])])
    (.leaf [(true, [.int (.lit 0) 0, .int (.lit 0) 0]), (false, [.b (.lit false)])]))
  (.leaf [(true, [.int (.lit 0) 0, .int (.lit 0) 0]), (false, [.b (.lit false)])])
def RetSqQ (n d : Int) (w : World) (e : Ending) (w' : World) : Prop := ∃ v, e = .returned (.tuple #[v, .bool (sqB n && sqB d)]) ∧ IsPair w' v (sqN n d n) (sqN n d d) ∧ Ext w w'
theorem open_qb {E : Env} {β : Nat → Nat} {w : World} {v : Value} {x y : IT} {k m : Nat} {t : BT} (hx : (AV.tup [(true, [.int x k, .int y m]), (false, [.b t])]).holds E β w v) : ∃ p, v = .tuple #[p, .bool (t.den E)] ∧ IsPair w p (x.den E) (y.den E) := by
  obtain ⟨vs, rfl, u1, r1, rfl, k1, u2, r2, rfl, k2, hn⟩ := hx
  simp only [tupAll] at hn
  subst hn
  have k2' := one_bool.1 k2
  subst k2'
  exact ⟨u1, rfl, (one_pair.1 k1).1⟩
def kFlQ : Con
  | [.val true [.int x l, .int y m]], _ => if canon x y && (ql l && ql m) then some (.val true [.int (.a2 4 x y) l]) else none
  | _, _ => none
theorem kFlQ_ok {E : Env} (hE : QEnv E) : ConOK Tryz.prog E 66 kFlQ := by
  refine ⟨?_, ?_, ⟨_, Tryz.func66, by decide +kernel, by kernel_rfl⟩⟩
  · intro args As r h hG β w vs hv hlen
    unfold kFlQ at h
    split at h
    · split at h
      · rename_i hm
        simp only [ql, Bool.and_eq_true, decide_eq_true_iff] at hm
        obtain ⟨c1, b1, b2⟩ := hm
        injection h with h
        subst h
        obtain ⟨v, rfl, h1⟩ := args1 hv hlen
        obtain ⟨q, _, e1, e2, hq, m1, m2⟩ := one_ratQ hE c1 h1
        refine (floor_rat_calls w v q hq ⟨m1.mono b1, m2.mono b2⟩).mono ?_
        rintro e w' ⟨u, rfl, hI, ex⟩
        refine ⟨_, rfl, one_int.2 ⟨?_, ?_⟩, ex⟩
        · show IsInt w' u (dq _ _)
          rw [e1, e2]; exact hI
        · show Lim _ (dq _ _)
          rw [e1, e2]; exact m1.natAbs_le (dq_abs _ _)
      · cases h
    · cases h
  · intro args As r h x off
    unfold kFlQ at h
    split at h
    · split at h
      · injection h with h; subst h; intro e; cases e
      · cases h
    · cases h
end Go.Proofs.YtllijnecmekfeaaGreatDoor
end

section
set_option maxRecDepth 100000
namespace Go.Proofs.YtllijnecmekfeaaGreatDoor
open Go.ChangeShapes Go.WideShapes Go.ChangeAt Go.RowKit Go.Joins
theorem handed_laid {H : Type} {enc : TypeId × Value → H} {a : Assume} {C : Checked} {os : Os} {f : FuncId} {fn : Func} {s : ChangeSpec} {conds : List PathCond} {apart fresh handsOn again : Bool} {L : List (String × DataW Unit)}
    (own : ownKnob C.prog.godebug = none) (started : os.Started) (noInit : C.prog.inits.idxOf? f = none) (hfn : C.prog.funcs[f]? = some fn)
    (witness : ∃ (w : World) (tape : Tape) (i : Input), w.os = os ∧ (w.forCall tape i).Shaped C.prog ∧ i.vars = [] ∧ Input.okWide C.prog (w.forCall tape i) .any w.heap.size f i ∧
      ((s.pre enc C.prog fn conds apart (w.forCall tape i).memory i.args ∧ laidMetH C.prog L (w.forCall tape i).memory) ∧ sizedMet enc C.prog fn (OpenSpec.ofChange s) apart (w.forCall tape i).memory i.args) ∧ a.holds C.prog (lone (Frame.enter C.prog f i.args .normal) [] (w.forCall tape i)))
    (contract : ∀ (W : World) (base : Nat) (args : Array Value) (ds gs : List (DataW H)) (before : List MemPlace),
      (∀ (j : Nat) t v, fn.params[j]? = some t → args[j]? = some v → Value.okWide C.prog W .any base t v) →
      DataW.Whole enc C.prog fn.params.toList s.vars apart W args.toList ds gs before →
      conds.all (PathCond.test C.prog ⟨fn.params.toList, ds, s.plain.varTypes C.prog, gs⟩) = true →
      laidMetH C.prog L W → W.ShapedOpen C.prog →
      Calls C.prog f args W fun e W' => ∃ v, e = .returned v ∧ s.post enc C.prog fn apart fresh handsOn again W args v W') :
    ReturnsInHanded a C os f .any (fun w args => (s.pre enc C.prog fn conds apart w args ∧ laidMetH C.prog L w) ∧ sizedMet enc C.prog fn (OpenSpec.ofChange s) apart w args) (s.post enc C.prog fn apart fresh handsOn again) := by
  refine returnsInHanded_of_calls own started noInit witness ?_
  intro w tape i _ hsh _ hok hpre _
  obtain ⟨_, _, _, fn', hfn', _, _, _, _, hval⟩ := hok
  have e : fn' = fn := Option.some.inj (hfn'.symm.trans hfn)
  subst e
  obtain ⟨⟨⟨ds, gs, before, hw, hc⟩, hx⟩, _⟩ := hpre
  have hw' := DataW.Whole.of_heap (w' := w.forCall tape i) (by rfl) hw
  refine (contract (w.forCall tape i) w.heap.size i.args ds gs before hval hw' hc (hx.of_heap (by rfl)) hsh).mono fun e W' ⟨v, he, hp⟩ => ?_
  subst he
  exact ChangeSpec.post_blind hp

theorem pow10_eq {H : Type} : (Rows.laid_internal_strconv_uint64pow10 : DataW H) = Lib.tabData .u64 Lib.pow10Tab := by rfl
end Go.Proofs.YtllijnecmekfeaaGreatDoor
end

section
set_option maxRecDepth 100000
namespace Go.Proofs.YtllijnecmekfeaaGreatDoor
open Go.RowKit Go.Shelf
def lays162_ren : Go.Shelf.Ren := ⟨fun | 162 => 133 | 232 => 183 | 227 => 155 | 234 => 184 | 236 => 185 | 228 => 199 | 271 => 213 | 151 => 201 | 120 => 231 | 197 => 200 | 152 => 223 | 260 => 222 | 137 => 237 | 119 => 238 | 224 => 197 | 225 => 196 | 217 => 195 | 266 => 220 | n => n, fun | 9 => 9 | 4 => 4 | 3 => 3 | 5 => 5 | 117 => 139 | 116 => 138 | 0 => 0 | 124 => 142 | 21 => 21 | 105 => 173 | 46 => 148 | 119 => 204 | 139 => 207 | 138 => 206 | n => n, fun | 3 => 2 | 4 => 3 | n => n⟩
theorem lays162 : Go.Proofs.Lays.n162 Tryz.prog lays162_ren := {
  mixed := by kernel_rfl
  f119 := Tryz.func238.trans (congrArg some (by kernel_rfl))
  f120 := Tryz.func231.trans (congrArg some (by kernel_rfl))
  f137 := Tryz.func237.trans (congrArg some (by kernel_rfl))
  f151 := Tryz.func201.trans (congrArg some (by kernel_rfl))
  f152 := Tryz.func223.trans (congrArg some (by kernel_rfl))
  f162 := Tryz.func133.trans (congrArg some (by kernel_rfl))
  f197 := Tryz.func200.trans (congrArg some (by kernel_rfl))
  f217 := Tryz.func195.trans (congrArg some (by kernel_rfl))
  f224 := Tryz.func197.trans (congrArg some (by kernel_rfl))
  f225 := Tryz.func196.trans (congrArg some (by kernel_rfl))
  f227 := Tryz.func155.trans (congrArg some (by kernel_rfl))
  f228 := Tryz.func199.trans (congrArg some (by kernel_rfl))
  f232 := Tryz.func183.trans (congrArg some (by kernel_rfl))
  f234 := Tryz.func184.trans (congrArg some (by kernel_rfl))
  f236 := Tryz.func185.trans (congrArg some (by kernel_rfl))
  f260 := Tryz.func222.trans (congrArg some (by kernel_rfl))
  f266 := Tryz.func220.trans (congrArg some (by kernel_rfl))
  f271 := Tryz.func213.trans (congrArg some (by kernel_rfl))
  t0 := Tryz.underlying0
  a0 := Tryz.isAgg0
  z0 := Tryz.sizeOf0
  v0 := Tryz.zeroValue0
  t3 := Tryz.underlying3
  a3 := Tryz.isAgg3
  z3 := Tryz.sizeOf3
  v3 := Tryz.zeroValue3
  t4 := Tryz.underlying4
  a4 := Tryz.isAgg4
  z4 := Tryz.sizeOf4
  v4 := Tryz.zeroValue4
  t5 := Tryz.underlying5
  a5 := Tryz.isAgg5
  z5 := Tryz.sizeOf5
  v5 := Tryz.zeroValue5
  t9 := Tryz.underlying9
  a9 := Tryz.isAgg9
  z9 := Tryz.sizeOf9
  v9 := Tryz.zeroValue9
  t21 := Tryz.underlying21
  a21 := Tryz.isAgg21
  z21 := Tryz.sizeOf21
  v21 := Tryz.zeroValue21
  t46 := Tryz.underlying148
  a46 := Tryz.isAgg148
  z46 := Tryz.sizeOf148
  v46 := Tryz.zeroValue148
  t105 := Tryz.underlying173
  a105 := Tryz.isAgg173
  z105 := Tryz.sizeOf173
  v105 := Tryz.zeroValue173
  t116 := Tryz.underlying138
  a116 := Tryz.isAgg138
  z116 := Tryz.sizeOf138
  t117 := Tryz.underlying139
  a117 := Tryz.isAgg139
  z117 := Tryz.sizeOf139
  v117 := Tryz.zeroValue139
  t119 := Tryz.underlying204
  a119 := Tryz.isAgg204
  z119 := Tryz.sizeOf204
  t124 := Tryz.underlying142
  a124 := Tryz.isAgg142
  z124 := Tryz.sizeOf142
  v124 := Tryz.zeroValue142
  t138 := Tryz.underlying206
  a138 := Tryz.isAgg206
  z138 := Tryz.sizeOf206
  v138 := Tryz.zeroValue206
  t139 := Tryz.underlying207
  a139 := Tryz.isAgg207
  z139 := Tryz.sizeOf207
  v139 := Tryz.zeroValue207
  g3 := by kernel_rfl
  g4 := by kernel_rfl }

def lays102_ren : Go.Shelf.Ren := ⟨fun | 102 => 132 | 209 => 182 | 207 => 212 | n => n, fun | 9 => 9 | 4 => 4 | 3 => 3 | n => n, fun | n => n⟩
theorem lays102 : Go.Proofs.Lays.n102 Tryz.prog lays102_ren := {
  mixed := by kernel_rfl
  f102 := Tryz.func132.trans (congrArg some (by kernel_rfl))
  f207 := Tryz.func212.trans (congrArg some (by kernel_rfl))
  f209 := Tryz.func182.trans (congrArg some (by kernel_rfl))
  t3 := Tryz.underlying3
  a3 := Tryz.isAgg3
  z3 := Tryz.sizeOf3
  v3 := Tryz.zeroValue3
  t4 := Tryz.underlying4
  a4 := Tryz.isAgg4
  z4 := Tryz.sizeOf4
  v4 := Tryz.zeroValue4
  t9 := Tryz.underlying9
  a9 := Tryz.isAgg9
  z9 := Tryz.sizeOf9
  v9 := Tryz.zeroValue9 }

def lays105_ren : Go.Shelf.Ren := ⟨fun | 105 => 123 | 212 => 173 | 99 => 174 | 165 => 175 | 166 => 176 | 170 => 177 | 169 => 178 | 263 => 207 | 264 => 208 | 206 => 152 | 240 => 209 | 241 => 210 | 276 => 229 | 277 => 230 | n => n, fun | 9 => 9 | 3 => 3 | 4 => 4 | 20 => 20 | 0 => 0 | 46 => 148 | 109 => 149 | 5 => 5 | 72 => 153 | 76 => 157 | 51 => 103 | 146 => 180 | 53 => 109 | 148 => 182 | 70 => 151 | 37 => 122 | 75 => 156 | 127 => 184 | 164 => 199 | 80 => 160 | n => n, fun | n => n⟩
theorem lays105 : Go.Proofs.Lays.n105 Tryz.prog lays105_ren := {
  mixed := by kernel_rfl
  f99 := Tryz.func174.trans (congrArg some (by kernel_rfl))
  f105 := Tryz.func123.trans (congrArg some (by kernel_rfl))
  f165 := Tryz.func175.trans (congrArg some (by kernel_rfl))
  f166 := Tryz.func176.trans (congrArg some (by kernel_rfl))
  f169 := Tryz.func178.trans (congrArg some (by kernel_rfl))
  f170 := Tryz.func177.trans (congrArg some (by kernel_rfl))
  f206 := Tryz.func152.trans (congrArg some (by kernel_rfl))
  f212 := Tryz.func173.trans (congrArg some (by kernel_rfl))
  f240 := Tryz.func209.trans (congrArg some (by kernel_rfl))
  f241 := Tryz.func210.trans (congrArg some (by kernel_rfl))
  f263 := Tryz.func207.trans (congrArg some (by kernel_rfl))
  f264 := Tryz.func208.trans (congrArg some (by kernel_rfl))
  f276 := Tryz.func229.trans (congrArg some (by kernel_rfl))
  f277 := Tryz.func230.trans (congrArg some (by kernel_rfl))
  t0 := Tryz.underlying0
  a0 := Tryz.isAgg0
  z0 := Tryz.sizeOf0
  v0 := Tryz.zeroValue0
  t3 := Tryz.underlying3
  a3 := Tryz.isAgg3
  z3 := Tryz.sizeOf3
  v3 := Tryz.zeroValue3
  t4 := Tryz.underlying4
  a4 := Tryz.isAgg4
  z4 := Tryz.sizeOf4
  v4 := Tryz.zeroValue4
  t5 := Tryz.underlying5
  a5 := Tryz.isAgg5
  z5 := Tryz.sizeOf5
  v5 := Tryz.zeroValue5
  t9 := Tryz.underlying9
  a9 := Tryz.isAgg9
  z9 := Tryz.sizeOf9
  v9 := Tryz.zeroValue9
  t20 := Tryz.underlying20
  a20 := Tryz.isAgg20
  z20 := Tryz.sizeOf20
  v20 := Tryz.zeroValue20
  t37 := Tryz.underlying122
  a37 := Tryz.isAgg122
  z37 := Tryz.sizeOf122
  v37 := Tryz.zeroValue122
  t46 := Tryz.underlying148
  a46 := Tryz.isAgg148
  z46 := Tryz.sizeOf148
  v46 := Tryz.zeroValue148
  t51 := Tryz.underlying103
  a51 := Tryz.isAgg103
  z51 := Tryz.sizeOf103
  v51 := Tryz.zeroValue103
  t53 := Tryz.underlying109
  a53 := Tryz.isAgg109
  z53 := Tryz.sizeOf109
  v53 := Tryz.zeroValue109
  t70 := Tryz.underlying151
  a70 := Tryz.isAgg151
  z70 := Tryz.sizeOf151
  v70 := Tryz.zeroValue151
  t72 := Tryz.underlying153
  a72 := Tryz.isAgg153
  z72 := Tryz.sizeOf153
  v72 := Tryz.zeroValue153
  t75 := Tryz.underlying156
  a75 := Tryz.isAgg156
  z75 := Tryz.sizeOf156
  v75 := Tryz.zeroValue156
  t76 := Tryz.underlying157
  a76 := Tryz.isAgg157
  z76 := Tryz.sizeOf157
  v76 := Tryz.zeroValue157
  t109 := Tryz.underlying149
  a109 := Tryz.isAgg149
  z109 := Tryz.sizeOf149
  v109 := Tryz.zeroValue149
  t127 := Tryz.underlying184
  a127 := Tryz.isAgg184
  z127 := Tryz.sizeOf184
  v127 := Tryz.zeroValue184
  t146 := Tryz.underlying180
  a146 := Tryz.isAgg180
  z146 := Tryz.sizeOf180
  v146 := Tryz.zeroValue180
  t148 := Tryz.underlying182
  a148 := Tryz.isAgg182
  z148 := Tryz.sizeOf182
  v148 := Tryz.zeroValue182
  t164 := Tryz.underlying199
  a164 := Tryz.isAgg199
  z164 := Tryz.sizeOf199
  v164 := Tryz.zeroValue199 }

def laysM173_ren : Go.Shelf.Ren := ⟨fun | 173 => 95 | 246 => 148 | 283 => 190 | 284 => 191 | 285 => 192 | 286 => 193 | 129 => 216 | 317 => 215 | 318 => 217 | 319 => 218 | 320 => 219 | 337 => 235 | 338 => 236 | n => n, fun | 2 => 2 | 3 => 3 | 9 => 9 | 4 => 4 | 171 => 165 | 0 => 0 | 53 => 109 | 37 => 122 | 5 => 5 | 173 => 168 | 212 => 187 | 51 => 103 | 20 => 20 | 213 => 188 | 46 => 148 | 232 => 210 | 233 => 211 | n => n, fun | 17 => 1 | 18 => 4 | 19 => 5 | n => n⟩
theorem laysM173 : Go.Proofs.LaysM.n173 Tryz.prog laysM173_ren := {
  mixed := by kernel_rfl
  f129 := Tryz.func216.trans (congrArg some (by kernel_rfl))
  f173 := Tryz.func95.trans (congrArg some (by kernel_rfl))
  f246 := Tryz.func148.trans (congrArg some (by kernel_rfl))
  f283 := Tryz.func190.trans (congrArg some (by kernel_rfl))
  f284 := Tryz.func191.trans (congrArg some (by kernel_rfl))
  f285 := Tryz.func192.trans (congrArg some (by kernel_rfl))
  f286 := Tryz.func193.trans (congrArg some (by kernel_rfl))
  f317 := Tryz.func215.trans (congrArg some (by kernel_rfl))
  f318 := Tryz.func217.trans (congrArg some (by kernel_rfl))
  f319 := Tryz.func218.trans (congrArg some (by kernel_rfl))
  f320 := Tryz.func219.trans (congrArg some (by kernel_rfl))
  f337 := Tryz.func235.trans (congrArg some (by kernel_rfl))
  f338 := Tryz.func236.trans (congrArg some (by kernel_rfl))
  t0 := Tryz.underlying0
  a0 := Tryz.isAgg0
  z0 := Tryz.sizeOf0
  v0 := Tryz.zeroValue0
  t2 := Tryz.underlying2
  a2 := Tryz.isAgg2
  z2 := Tryz.sizeOf2
  v2 := Tryz.zeroValue2
  t3 := Tryz.underlying3
  a3 := Tryz.isAgg3
  z3 := Tryz.sizeOf3
  v3 := Tryz.zeroValue3
  t4 := Tryz.underlying4
  a4 := Tryz.isAgg4
  z4 := Tryz.sizeOf4
  v4 := Tryz.zeroValue4
  t5 := Tryz.underlying5
  a5 := Tryz.isAgg5
  z5 := Tryz.sizeOf5
  v5 := Tryz.zeroValue5
  t9 := Tryz.underlying9
  a9 := Tryz.isAgg9
  z9 := Tryz.sizeOf9
  v9 := Tryz.zeroValue9
  t20 := Tryz.underlying20
  a20 := Tryz.isAgg20
  z20 := Tryz.sizeOf20
  v20 := Tryz.zeroValue20
  t37 := Tryz.underlying122
  a37 := Tryz.isAgg122
  z37 := Tryz.sizeOf122
  v37 := Tryz.zeroValue122
  t46 := Tryz.underlying148
  a46 := Tryz.isAgg148
  z46 := Tryz.sizeOf148
  v46 := Tryz.zeroValue148
  t51 := Tryz.underlying103
  a51 := Tryz.isAgg103
  z51 := Tryz.sizeOf103
  v51 := Tryz.zeroValue103
  t53 := Tryz.underlying109
  a53 := Tryz.isAgg109
  z53 := Tryz.sizeOf109
  v53 := Tryz.zeroValue109
  t171 := Tryz.underlying165
  a171 := Tryz.isAgg165
  z171 := Tryz.sizeOf165
  v171 := Tryz.zeroValue165
  t173 := Tryz.underlying168
  a173 := Tryz.isAgg168
  z173 := Tryz.sizeOf168
  v173 := Tryz.zeroValue168
  t212 := Tryz.underlying187
  a212 := Tryz.isAgg187
  z212 := Tryz.sizeOf187
  v212 := Tryz.zeroValue187
  t213 := Tryz.underlying188
  a213 := Tryz.isAgg188
  z213 := Tryz.sizeOf188
  t232 := Tryz.underlying210
  a232 := Tryz.isAgg210
  z232 := Tryz.sizeOf210
  v232 := Tryz.zeroValue210
  t233 := Tryz.underlying211
  a233 := Tryz.isAgg211
  z233 := Tryz.sizeOf211
  v233 := Tryz.zeroValue211
  g17 := by kernel_rfl
  g18 := by kernel_rfl
  g19 := by kernel_rfl
  i0 := by kernel_rfl
  i2 := by kernel_rfl
  i3 := by kernel_rfl
  i4 := by kernel_rfl
  i5 := by kernel_rfl
  i9 := by kernel_rfl
  i20 := by kernel_rfl
  i37 := by kernel_rfl
  i46 := by kernel_rfl
  i51 := by kernel_rfl
  i53 := by kernel_rfl
  i171 := by kernel_rfl
  i173 := by kernel_rfl
  i212 := by kernel_rfl
  i232 := by kernel_rfl
  i233 := by kernel_rfl
  m17 := by kernel_rfl
  m18 := by kernel_rfl
  m19 := by kernel_rfl }

theorem Builder_Extra_105 : Builder.Extra Tryz.prog lays105_ren := {
  sizeBuilder := by kernel_rfl
  liesBuilder := by kernel_rfl
  t5 := Tryz.underlying5
  a5 := Tryz.isAgg5
  z5 := Tryz.sizeOf5
  v5 := Tryz.zeroValue5
  infoByte := by kernel_rfl
  cellsByte := by kernel_rfl
  sizeByte := by kernel_rfl
  neB5 := by decide }
theorem repeat_calls (w : World) (c : Int) (hc : 0 ≤ c) (hl : c ≤ 1000000) : Calls Tryz.prog 123 #[.string ⟨#[48]⟩, .int .i64 c] w fun e w' => ∃ R : ByteArray, e = .returned (.string R) ∧ R.data.toList = List.replicate c.toNat 48 ∧ Ext w w' := by
  obtain ⟨n, rfl⟩ : ∃ n : Nat, c = (n : Int) := ⟨c.toNat, by omega⟩
  refine (Any.strings_Repeat lays105 Builder_Extra_105 ⟨#[48]⟩ n w (by omega) (by show 1 * n ≤ _; omega)).mono ?_
  rintro e w' ⟨rfl, h⟩
  refine ⟨_, rfl, ?_, h⟩
  show Lib.repeatL [48] n = _
  rw [show ([48] : List UInt8) = List.replicate 1 48 from rfl, Lib.repeatL_replicate, Nat.mul_one, Int.toNat_natCast]
theorem trimRight_calls (w : World) (s : ByteArray) (hs : s.size ≤ 1000000) : Calls Tryz.prog 133 #[.string s, .string ⟨#[48]⟩] w fun e w' => e = .returned (.string ⟨(Lib.trimRightB s.data.toList 48).toArray⟩) ∧ w' = w :=
  Any.strings_TrimRight_one lays162 s 48 (by decide) w (by omega)
theorem trimSuffix_calls (w : World) (s : ByteArray) (hs : s.size ≤ 1000000) : Calls Tryz.prog 132 #[.string s, .string ⟨#[46]⟩] w fun e w' => e = .returned (.string ⟨(Lib.trimSuffix s.data.toList [46]).toArray⟩) ∧ w' = w :=
  Any.strings_TrimSuffix lays102 s ⟨#[46]⟩ w (by omega)
theorem formatInt_calls (w : World) (hW : WT w) (n : Int) (h0 : -9223372036854775808 ≤ n) (h1 : n ≤ 9223372036854775807) : Calls Tryz.prog 95 #[.int .i64 n, .int .i64 10] w fun e w' => e = .returned (.string ⟨(Lib.itoa n).toArray⟩) ∧ Ext w w' := by
  refine (Any.strconv_FormatInt_10 laysM173 n h0 h1 w hW).mono ?_
  rintro e w' ⟨rfl, k, os, rfl⟩
  exact ⟨rfl, ⟨rfl, rfl, rfl, by first | (simp [Go.Sort.grow]; done) | (simp [Go.Sort.grow]; omega), fun i hi => by
    show ((w.drewN k).heap ++ os)[i]? = _
    rw [Array.getElem?_append_left (by show i < w.heap.size; omega)]
    rfl⟩⟩
def pointL (l : List UInt8) (d : Nat) : List UInt8 := l.take (l.length - d) ++ [46] ++ l.drop (l.length - d)
def padL (l : List UInt8) (d : Nat) : List UInt8 := List.replicate (d + 1 - l.length) 48 ++ l
def wpL (l : List UInt8) (d : Nat) : List UInt8 := if d = 0 then l else (if negL l then [45] else []) ++ pointL (padL (digL l) d) d
theorem dropWhile_len {α : Type} (p : α → Bool) : ∀ l : List α, (l.dropWhile p).length ≤ l.length
  | [] => Nat.le_refl _
  | x :: l => by
    have := dropWhile_len p l
    rw [List.dropWhile_cons]
    split
    · simp only [List.length_cons]; omega
    · exact Nat.le_refl _
theorem trimRight_len (l : List UInt8) (c : UInt8) : (Lib.trimRightB l c).length ≤ l.length := by
  unfold Lib.trimRightB
  rw [List.length_reverse]
  have := dropWhile_len (· == c) l.reverse
  rwa [List.length_reverse] at this
def shL (l : List UInt8) : List UInt8 := Lib.trimSuffix (Lib.trimRightB l 48) [46]
theorem shortest_calls (w : World) (s : ByteArray) (hs : s.size ≤ 1000000) : Calls Tryz.prog 81 #[.string s] w fun e w' => e = .returned (.string ⟨(shL s.data.toList).toArray⟩) ∧ w' = w := by
  go_enter Tryz.func81, Tryz.ntmps81
  go_wp2_with fail
  refine (trimRight_calls w s hs).mono ?_
  rintro e w' ⟨rfl, rfl⟩
  go_wp2_with fail
  refine (trimSuffix_calls w' _ ?_).mono ?_
  · show (Lib.trimRightB s.data.toList 48).toArray.size ≤ 1000000
    rw [List.size_toArray]
    have h1 := trimRight_len s.data.toList 48
    have h2 : s.data.toList.length = s.size := by rw [Array.length_toList]; rfl
    omega
  rintro e w' ⟨rfl, rfl⟩
  go_wp2
  go_ret
  exact ⟨rfl, rfl⟩
theorem point_eq (A T : ByteArray) (n m : Nat) (hm : m = T.size) : A ++ T.extract 0 n ++ ⟨#[46]⟩ ++ T.extract n m = ⟨(A.data.toList ++ (T.data.toList.take n ++ [46] ++ T.data.toList.drop n)).toArray⟩ := by
  subst hm
  refine ByteArray.ext (Array.toList_inj.1 ?_)
  have hs : T.size = T.data.toList.length := (bytes_len T).symm
  simp only [ByteArray.data_append, ByteArray.data_extract, Array.toList_append, Array.toList_extract, List.extract_eq_take_drop, List.drop_zero, Nat.sub_zero, hs, List.append_assoc]
  rw [List.take_of_length_le (i := T.data.toList.length - n) (by rw [List.length_drop]; exact Nat.le_refl _)]
theorem withPoint_calls (w : World) (s : ByteArray) (d : Nat) (hd : d ≤ 1000) (hs : s.size ≤ 100000) : Calls Tryz.prog 70 #[.string s, .int .i64 (d : Int)] w fun e w' => e = .returned (.string ⟨(wpL s.data.toList d).toArray⟩) ∧ Ext w w' := by
  rcases Nat.eq_zero_or_pos d with h0 | h0
  · subst h0
    go_enter Tryz.func70, Tryz.ntmps70
    go_wp2
    go_ret
    exact ⟨rfl, Ext.refl w⟩
  · go_enter Tryz.func70, Tryz.ntmps70
    go_wp2_with fail
    refine (cut_calls w s).mono ?_
    rintro e w' ⟨D, rfl, hD, rfl⟩
    have hDs : D.size ≤ s.size := by
      have h1 := digL_len s.data.toList
      rw [← hD] at h1
      have h2 : s.data.toList.length = s.size := by rw [Array.length_toList]; rfl
      have h3 : D.data.toList.length = D.size := by rw [Array.length_toList]; rfl
      omega
    go_wp2_with fail
    refine (repeat_calls w _ (by omega) (by omega)).mono ?_
    rintro e w' ⟨R, rfl, hR, ex⟩
    have hRs : R.size = (max 0 ((d : Int) + 1 - (D.size : Int))).toNat := by
      have h2 : R.data.toList.length = R.size := by rw [Array.length_toList]; rfl
      rw [← h2, hR, List.length_replicate]
    obtain ⟨T, hT⟩ : ∃ T, T = R ++ D := ⟨_, rfl⟩
    have hTs : T.size = R.size + D.size := by rw [hT]; exact ByteArray.size_append
    have hTd : d < T.size := by omega
    have hTm : T.size ≤ 200000 := by omega
    have hl : T.data.toList = padL (digL s.data.toList) d := by
      unfold padL
      rw [hT, ByteArray.data_append, Array.toList_append, hR, hD, ← hD, bytes_len, show (max 0 ((d : Int) + 1 - (D.size : Int))).toNat = d + 1 - D.size by omega]
    have hn : (max 0 ((d : Int) + 1 - (D.size : Int)) + (D.size : Int)).toNat = T.size := by omega
    have fin : ∀ (b : Bool) (A : ByteArray), negL s.data.toList = b → A.data.toList = (if b then [45] else []) → ∀ m, m = T.size → A ++ T.extract 0 ((max 0 ((d : Int) + 1 - (D.size : Int)) + (D.size : Int)).toNat - d) ++ ⟨#[46]⟩ ++ T.extract ((max 0 ((d : Int) + 1 - (D.size : Int)) + (D.size : Int)).toNat - d) m = ⟨(wpL s.data.toList d).toArray⟩ := by
      intro b A hb hA m hm
      rw [point_eq A T _ _ hm, hA, hn, hl]
      have hd0 : ¬ d = 0 := by omega
      unfold wpL pointL
      rw [if_neg hd0, hb, ← hl, bytes_len]
    have HF := Lib.hid fin
    clear hn hl fin
    go_wp2
    · go_quiet (fail)
      go_wp2
      go_ret
      have hb : negL s.data.toList = true := by assumption
      exact ⟨congrArg (fun x => Ending.returned (.string x)) (by rw [← hT]; exact HF.out true ⟨#[45]⟩ hb rfl _ (by omega)), Ext.drewN ex _⟩
    · go_quiet (fail)
      go_wp2
      go_ret
      have hb : negL s.data.toList = false := by assumption
      exact ⟨congrArg (fun x => Ending.returned (.string x)) (by rw [← hT]; exact HF.out false ⟨#[]⟩ hb rfl _ (by omega)), Ext.drewN ex _⟩
end Go.Proofs.YtllijnecmekfeaaGreatDoor
end

section
set_option maxRecDepth 100000
namespace Go.Proofs.YtllijnecmekfeaaGreatDoor
open Go.RowKit
theorem rsign_rat_calls (w : World) (v1 : Value) (n d : Int) (h1 : IsPair w v1 n d) (l1 : Lim 100000 n) (l1' : Lim 100000 d) : Calls Tryz.prog 98 #[v1] w fun e w' => e = .returned (.int .i64 (cmpZ n 0)) ∧ Ext w w' := by
  refine (fun_sound (E := zE [n, d]) (args := [argQ 0]) (T := .leaf [(false, [.n .i64 (.a2 3 (.var 0) (.lit 0))])])
    mixed (cfg_ok (.cons (kIn_ok (f := 116) (g := fun x => .a2 3 x (.lit 0)) (fun x => cmpZ x 0) (fun _ => rfl) (fun w v z h => rsign_calls w v z h) ⟨_, Tryz.func116, by decide +kernel, by kernel_rfl⟩) .nil))
    no_asm Tryz.func98 (by decide +kernel) (by kernel_rfl) (by decide +kernel) rfl w [v1] rfl ?_).mono ?_
  · intro i x hx
    match i, hx with
    | 0, hx => injection hx with hx; subst hx; exact ⟨fun _ => 0, v1, rfl, argP_holds h1 l1 l1' rfl rfl⟩
  · rintro e w' ⟨β, v, rfl, hh, ex⟩
    have := one_num.1 hh
    subst this
    exact ⟨rfl, ex⟩
theorem kSgF_ok {E : Env} {f : Nat} (hc : ∀ (w : World) (v1 : Value) (n d : Int), IsPair w v1 n d → Lim 100000 n → Lim 100000 d → Calls Tryz.prog f #[v1] w fun e w' => e = .returned (.int .i64 (cmpZ n 0)) ∧ Ext w w')
    (hb : ∃ fn, Tryz.prog.funcs[f]? = some fn ∧ fn.name ≠ "runtime.NumGoroutine" ∧ fn.body.isNone = false) : ConOK Tryz.prog E f kSg := by
  refine ⟨?_, ?_, hb⟩
  · intro args As r h hG β w vs hv hlen
    unfold kSg at h
    split at h
    · split at h
      · rename_i hlo
        injection h with h
        subst h
        simp only [Bool.and_eq_true, decide_eq_true_iff] at hlo
        obtain ⟨v, rfl, h1⟩ := args1 hv hlen
        obtain ⟨p1, a1, a2⟩ := one_pair.1 h1
        refine (hc w v _ _ p1 (a1.mono hlo.1) (a2.mono hlo.2)).mono ?_
        rintro e w' ⟨rfl, ex⟩
        exact ⟨_, rfl, one_num.2 rfl, ex⟩
      · cases h
    · cases h
  · intro args As r h x off
    unfold kSg at h
    split at h
    · split at h
      · injection h with h; subst h; intro e; cases e
      · cases h
    · cases h
theorem rcmp_rat_calls (w : World) (v1 v2 : Value) (a b : Rat) (h1 : IsRat w v1 a) (h2 : IsRat w v2 b) (l1 : LimQ 100000 a) (l2 : LimQ 100000 b) :
    Calls Tryz.prog 23 #[v1, v2] w fun e w' => e = .returned (.int .i64 (cmpZ (a.num * (b.den : Int)) (b.num * (a.den : Int)))) ∧ Ext w w' := by
  refine (walkQ2 (T := .leaf [(false, [.n .i64 (.a2 3 (.a2 2 (.var 0) (.var 3)) (.a2 2 (.var 2) (.var 1)))])])
    (tab := (78, kIIn (.a2 3)) :: tabR3 true)
    (.cons (kIIn_ok cmpZ (fun _ _ => rfl) (fun w v1 v2 z1 z2 h1 h2 => rcmp_calls w v1 v2 z1 z2 h1 h2) ⟨_, Tryz.func78, by decide +kernel, by kernel_rfl⟩) (tabR3_ok (q := true) (fun _ => qE_ok _)))
    Tryz.func23 (by kernel_rfl) (by decide +kernel) (by decide +kernel) h1 h2 l1 l2).mono ?_
  rintro e w' ⟨β, v, rfl, hh, ex⟩
  have := one_num.1 hh
  subst this
  exact ⟨rfl, ex⟩
def tabT : List (Nat × Con) :=
  (98, kSg)  ::
  (141, kSg)  ::
  (23, kCmpQ)  ::
  
  tabQ
theorem tabT_ok {E : Env} (hE : QEnv E) : TabOK Tryz.prog E tabT := by
  refine .cons (kSgF_ok (fun w v1 n d h l m => rsign_rat_calls w v1 n d h l m) ⟨_, Tryz.func98, by decide +kernel, by kernel_rfl⟩) ?_ 
  refine .cons kSg_ok ?_ 
  refine .cons (kCmpQ_ok hE (fun w v1 v2 a b h1 h2 l1 l2 => rcmp_rat_calls w v1 v2 a b h1 h2 l1 l2) ⟨_, Tryz.func23, by decide +kernel, by kernel_rfl⟩) ?_
  
  exact tabQ_ok hE

abbrev IT2 := IT × IT
def qv (i : Nat) : IT2 := (.var (2 * i), .var (2 * i + 1))
def qop (f : Nat) (p q : IT2) : IT2 := (.a4 (2 * f) p.1 p.2 q.1 q.2, .a4 (2 * f + 1) p.1 p.2 q.1 q.2)
def RepQ (E : Env) (p : IT2) (q : Rat) : Prop := p.1.den E = q.num ∧ p.2.den E = (q.den : Int)
theorem rep_op {E : Env} {f : Nat} {p q : IT2} {a b : Rat} (hf : f ≠ 4) (hp : RepQ E p a) (hq : RepQ E q b) : RepQ E (qop f p q) (ratF f a b) := by
  constructor
  · show fn4 (2 * f) (p.1.den E) (p.2.den E) (q.1.den E) (q.2.den E) = _
    rw [hp.1, hp.2, hq.1, hq.2, fn4_num (by omega), show 2 * f / 2 = f by omega]
  · show fn4 (2 * f + 1) (p.1.den E) (p.2.den E) (q.1.den E) (q.2.den E) = _
    rw [hp.1, hp.2, hq.1, hq.2, fn4_den (by omega) (by omega), show (2 * f + 1) / 2 = f by omega]
theorem rep_div {E : Env} {p q : IT2} {a b : Rat} (hb : b ≠ 0) (hp : RepQ E p a) (hq : RepQ E q b) : RepQ E (qop 4 p q) (a / b) := by
  constructor
  · show fn4 8 (p.1.den E) (p.2.den E) (q.1.den E) (q.2.den E) = _
    rw [hp.1, hp.2, hq.1, hq.2, fn4_num rfl]; rfl
  · show fn4 9 (p.1.den E) (p.2.den E) (q.1.den E) (q.2.den E) = _
    rw [hp.1, hp.2, hq.1, hq.2]
    unfold fn4
    rw [if_neg (by decide), divInt_parts, divInt_parts, if_neg (fun e => hb e.2)]
    rfl
theorem rep_v {l : List Rat} {i : Nat} : RepQ (qE l) (qv i) (l.getD i 0) := by
  constructor
  · show (if 2 * i % 2 = 0 then _ else _) = _
    rw [if_pos (by omega), show 2 * i / 2 = i by omega]
  · show (if (2 * i + 1) % 2 = 0 then _ else _) = _
    rw [if_neg (by omega), show (2 * i + 1) / 2 = i by omega]
end Go.Proofs.YtllijnecmekfeaaGreatDoor
end

section
set_option maxRecDepth 100000
namespace Go.Proofs.YtllijnecmekfeaaGreatDoor
open Go.RowKit
end Go.Proofs.YtllijnecmekfeaaGreatDoor
end

section
set_option maxRecDepth 100000
namespace Go.Proofs.YtllijnecmekfeaaGreatDoor
open Go.RowKit
def sgQ (q : Rat) : Int := cmpZ q.num 0
theorem num_pos_iff (q : Rat) : 0 < q.num ↔ 0 < q := by
  have h1 : 0 ≤ q.num ↔ 0 ≤ q := Rat.num_nonneg
  have h2 : q.num = 0 ↔ q = 0 := Rat.num_eq_zero
  constructor
  · intro h
    have a := h1.1 (by omega)
    have b : q ≠ 0 := fun e => by have := h2.2 e; omega
    grind
  · intro h
    have a := h1.2 (by grind)
    have b : q.num ≠ 0 := fun e => by have := h2.1 e; grind
    omega
theorem sgQ_cases (q : Rat) : (q < 0 ∧ sgQ q = -1) ∨ (q = 0 ∧ sgQ q = 0) ∨ (0 < q ∧ sgQ q = 1) := by
  have h1 := num_pos_iff q
  have h2 : q.num = 0 ↔ q = 0 := Rat.num_eq_zero
  unfold sgQ
  rcases cmpZ_cases q.num 0 with ⟨h, e⟩ | ⟨h, e⟩ | ⟨h, e⟩
  · refine .inl ⟨?_, e⟩
    have a : ¬ 0 < q := fun k => by have := h1.2 k; omega
    have b : q ≠ 0 := fun k => by have := h2.2 k; omega
    grind
  · exact .inr (.inl ⟨h2.1 h, e⟩)
  · exact .inr (.inr ⟨h1.1 h, e⟩)
theorem sgQ_pos {q : Rat} (h : 0 < q) : sgQ q = 1 := by rcases sgQ_cases q with ⟨k, e⟩ | ⟨k, e⟩ | ⟨k, e⟩ <;> grind
theorem sgQ_neg' {q : Rat} (h : q < 0) : sgQ q = -1 := by rcases sgQ_cases q with ⟨k, e⟩ | ⟨k, e⟩ | ⟨k, e⟩ <;> grind
theorem rfromInt_calls (w : World) (v : Value) (z : Int) (h : IsInt w v z) (l : Lim 400000 z) : Calls Tryz.prog 40 #[v] w (Ret (fun v w' => IsPair w' v z 1) w) := by
  refine (walkZ1 (T := .leaf [(true, [.int (.var 0) 400000, .int (.lit 1) 3])]) (tabR3_ok (q := false) (fun h => by cases h)) Tryz.func40 (by kernel_rfl) (by decide +kernel) (by decide +kernel) h l).mono ?_
  rintro e w' ⟨β, v, rfl, hh, ex⟩
  exact ⟨v, rfl, (one_pair.1 hh).1, ex⟩
end Go.Proofs.YtllijnecmekfeaaGreatDoor
end

section
set_option maxRecDepth 100000
namespace Go.Proofs.YtllijnecmekfeaaGreatDoor
open Go.RowKit
theorem run_append_own_limbs (w : World) (B : Nat) (hB : B ≤ w.heap.size) (ty : TypeId) (v : Value) (zs : List Nat) (lz : zs.length ≤ 1099511627776) (hz : 0 < zs.length) (hown : w.ownsRow B 103 1 v zs.length (zs.map fun x => Value.int .u32 ((x : Nat) : Int))) (b : Nat) (xs : List Nat) (c : Nat) (lx : xs.length ≤ 1099511627776)
    (h : ∀ i, i < xs.length → w.cell? ⟨b, i, none⟩ = some (.int .u32 ((xs.getD i 0 : Nat) : Int))) :
    ∃ ao' cap w1, (Builtin.append_ #[23, 23] ty #[v, .slice (some ⟨b, 0, none⟩) xs.length c]).run Tryz.prog w = .ok (.slice ao' (zs.length + xs.length) cap) w1 ∧
      zs.length + xs.length ≤ cap ∧ cap ≤ 9223372036854775807 ∧ Below B w w1 ∧ Cells w1 ao' (zs ++ xs) := by
  obtain ⟨i0, hi, hz0, hz1, hz2⟩ := info_parts info_u32
  have hnews : ∀ j u, (xs.map fun x => Value.int .u32 ((x : Nat) : Int))[j]? = some u → w.cell? ((⟨b, 0, none⟩ : Addr).add j) = some u := by
    intro j u hu
    rw [List.getElem?_map] at hu
    obtain ⟨x, hx1, rfl⟩ := Option.map_eq_some_iff.1 hu
    have hj : j < xs.length := (List.getElem?_eq_some_iff.1 hx1).1
    have := h j hj
    rw [List.getD_eq_getElem?_getD, hx1] at this
    by_cases h0 : j = 0
    · subst h0; simpa [Addr.add] using this
    · simpa [Addr.add, h0] using this
  obtain ⟨v', w1, hrun, hown1, hgrow, hnil⟩ := run_append_own (P := Tryz.prog) w B 23 ty 103 i0 (.int .u32 0) 1 4 Tryz.underlying23 hi hz0 hz1 hz2 rfl (by decide) _ _ _ hown ⟨b, 0, none⟩ xs.length c (xs.map fun x => Value.int .u32 ((x : Nat) : Int)) (by simp) hnews
    (by intro u hu; obtain ⟨x, _, rfl⟩ := List.mem_map.1 hu; rfl) (by unfold maxLen; omega) (by omega) hB
  rw [← List.map_append, ← List.length_append] at hown1
  have hE : Below B w w1 := Below.grown (Below.refl _ _) hgrow hB (fun k hk => (hown.lt k hk).1)
  rcases hown1.2 with ⟨rfl, h0⟩ | ⟨g, cap, cur, rfl, hg, _, hnc, hcm, _, _⟩
  · exfalso
    rw [List.length_append] at h0
    omega
  · rw [List.length_append] at hnc
    exact ⟨_, cap, w1, by rw [hrun, List.length_append], hnc, by unfold maxLen at hcm; omega, hE, (Blk.of_owns hown1).cells⟩

def sqI : LInv where
  lk := [(1, .ptr 1 0), (2, .ptr 2 0), (4, .ptr 4 0), (5, .ptr 5 0)]
  vr := [(1, [.int (.var 0) 100000]), (2, [.int (.lit 0) 0]), (4, [.int (.var 1) 100001]), (5, [.int (.lit 2) 3])]
  vs := [1]
  G := []
  lm := [(1, 100001)]
def sqNext : IT := .a2 4 (.a2 0 (.var 1) (.a2 4 (.var 0) (.var 1))) (.lit 2)
def sqLeaf : List (Bool × List Chunk) := [(true, [.int (.var 1) 100001]), (false, [.n .i64 (.lit 0)])]
def sqTree : LTree := .ite (.le (.lit 0) (.a2 3 sqNext (.var 1))) (.leaf sqLeaf) (.again 0 [sqNext])
def tabRsq : List (Nat × Con) := [(127, kDM), (91, kII (.a2 0) (fun l m => max l m + 1)), (78, kIIn (.a2 3))]
theorem tabRsq_ok {E : Env} : TabOK Tryz.prog E tabRsq :=
  .cons (kDMg_ok (fun w v u a b h k l1 l2 => rdivMod_fn w v u a b h k l1 l2) ⟨_, Tryz.func127, by decide +kernel, by kernel_rfl⟩)
    (.cons (tabR1_ok.all (91, kII (.a2 0) (fun l m => max l m + 1)) (by simp [tabR1]))
      (.cons (kIIn_ok cmpZ (fun _ _ => rfl) (fun w v1 v2 z1 z2 h1 h2 => rcmp_calls w v1 v2 z1 z2 h1 h2) ⟨_, Tryz.func78, by decide +kernel, by kernel_rfl⟩) .nil))

theorem VarAt.new {E : Env} {w : World} {cs : List Chunk} {vs : List Value} {t : TypeId} (h : chunks E w cs vs) : VarAt E (w.alloc (.cells vs.toArray t)) w.heap.size cs := by
  have hk := Kp.of (B := w.heap.size) ((Ext.refl w).alloc (.cells vs.toArray t)) (Nat.le_refl _)
  have hh : (w.alloc (.cells vs.toArray t)).heap[w.heap.size]? = some (.cells vs.toArray t (0, 0)) := heap_alloc_new w _
  refine ⟨vs, chunks_keep hk h, fun i v hi => ⟨?_, ?_⟩⟩
  · simp only [World.cell?, hh]
    simpa using hi
  · simp only [World.frozen?, hh]
    simp
theorem chunks_int {E : Env} {w : World} {x y : Value} {t : IT} {l : Nat} {z : Int} (h : IsInt w (.agg #[x, y]) z) (hz : t.den E = z) (hl : Lim l z) : chunks E w [.int t l] [x, y] :=
  ⟨[x, y], [], rfl, ⟨x, y, rfl, by rw [hz]; exact h, by rw [hz]; exact hl⟩, rfl⟩
theorem sq_run (n : Nat) (hn : 0 < n) : ∀ (x : Nat), 0 < x → n < (x + 1) * (x + 1) → Lim 100001 (x : Int) → ∃ m E', Run (fun _ => True) (noStk.set 0 (sqI, sqTree)) sqTree ((zE [(n : Int), 0]).upd [1] [(x : Int)]) m E' sqLeaf ∧ E'.i 1 = (isqN n : Int) := by
  intro x
  induction x using Nat.strongRecOn with
  | ind x ih =>
    intro hx hu hl
    have hq : dq (n : Int) (x : Int) = ((n / x : Nat) : Int) := by rw [dq_pos (by omega)]; exact (Int.natCast_ediv n x).symm
    have hy : sqNext.den ((zE [(n : Int), 0]).upd [1] [(x : Int)]) = (((x + n / x) / 2 : Nat) : Int) := by
      show dq ((x : Int) + dq (n : Int) (x : Int)) 2 = _
      rw [hq, dq_pos (by omega)]
      omega
    have hc : (IT.a2 3 sqNext (.var 1)).den ((zE [(n : Int), 0]).upd [1] [(x : Int)]) = cmpZ (((x + n / x) / 2 : Nat) : Int) (x : Int) := by
      show cmpZ (sqNext.den _) (x : Int) = _
      rw [hy]
    by_cases hge : x ≤ (x + n / x) / 2
    · refine ⟨0, _, .iteT ?_ .leaf, ?_⟩
      · show decide ((0 : Int) ≤ (IT.a2 3 sqNext (.var 1)).den _) = true
        rw [hc, decide_eq_true_iff]
        rcases cmpZ_cases (((x + n / x) / 2 : Nat) : Int) (x : Int) with ⟨h, e⟩ | ⟨h, e⟩ | ⟨h, e⟩ <;> omega
      · show (x : Int) = _
        rw [isqN_spec_eq (newton_stop hx hu hge)]
    · have hp := newton_pos hx hn
      have hnx := newton_next (n := n) hx
      obtain ⟨m, E', hR, hE⟩ := ih _ (by omega) hp hnx (hl.natAbs_le (by omega))
      refine ⟨m + 1, E', .iteF ?_ (.again (I := sqI) (T := sqTree) (by simp [Stk.set]) ⟨no_asm, trivial, ?_⟩ ?_), hE⟩
      · show decide ((0 : Int) ≤ (IT.a2 3 sqNext (.var 1)).den _) = false
        rw [hc, decide_eq_false_iff_not]
        rcases cmpZ_cases (((x + n / x) / 2 : Nat) : Int) (x : Int) with ⟨h, e⟩ | ⟨h, e⟩ | ⟨h, e⟩ <;> omega
      · intro p hp
        simp only [sqI, List.mem_cons, List.not_mem_nil, or_false] at hp
        subst hp
        show Lim 100001 (sqNext.den _)
        rw [hy]
        exact hl.natAbs_le (by omega)
      · have : Env.upd ((zE [(n : Int), 0]).upd [1] [(x : Int)]) sqI.vs ([sqNext].map (IT.den ((zE [(n : Int), 0]).upd [1] [(x : Int)]))) = (zE [(n : Int), 0]).upd [1] [(((x + n / x) / 2 : Nat) : Int)] := by
          simp only [List.map_cons, List.map_nil, hy]
          unfold Env.upd
          congr 1
          funext k
          simp only [sqI, updI]
          by_cases hk : k = 1
          · simp [hk]
          · simp [hk]
        rw [this]
        exact hR

set_option maxRecDepth 100000 in
set_option maxHeartbeats 1600000 in
theorem rsqrt_pos (w : World) (v : Value) (z : Int) (h : IsInt w v z) (l : Lim 100000 z) (hz : 0 < z) : Calls Tryz.prog 143 #[v] w (RetSqA z w) := by
  obtain ⟨ao, cap, s, n, rfl, h1, h2, h3, H4, H5, H6⟩ := h.open_
  obtain ⟨W, hW, eW, c0, c1, r0, r1, f0, f1⟩ := boxes1r w (.bool s) (.slice ao (limbs n).length cap) 25
  have hs : s = false := by
    cases s
    · rfl
    · have h5 := H5.out; have h6 := H6.out rfl; simp only [sgn, if_true] at h5; omega
  subst hs
  have hz2 : z = (n : Int) := H5.out
  have hl0 : 0 < (limbs n).length := limbs_pos (by omega)
  have l' := l
  unfold Lim at l'
  rw [← H4.out] at l'
  subst hz2
  obtain ⟨K, hK⟩ : ∃ K, K = ((limbs n).length + 1) / 2 := ⟨_, rfl⟩
  have hKI : (((limbs n).length : Int) + 1).tdiv 2 = (K : Int) := by rw [Int.tdiv_eq_ediv_of_nonneg (by omega)]; omega
  have hmk := run_mk K (by omega) ↑K rfl
  have hKb : K ≤ 100000 := by omega
  have hWs : W.heap.size = w.heap.size + 2 := by rw [← hW]; simp
  have HI := Lib.hid (show IsInt W (.agg #[.bool false, .slice ao (limbs n).length cap]) (n : Int) from h.ext eW)
  -- the zeros, the one, and what the append leaves
  have hown : ((W.alloc (.cells (u32s (List.replicate K 0)) 103)).alloc (.cells #[.int .u32 1] 103)).ownsRow W.heap.size 103 1 (.slice (some ⟨W.heap.size, 0, none⟩) K K) (List.replicate K 0).length ((List.replicate K 0).map fun x => Value.int .u32 ((x : Nat) : Int)) := by
    have h0 : (W.alloc (.cells (u32s (List.replicate K 0)) 103)).ownsRow W.heap.size 103 1 (.slice (some ⟨W.heap.size, 0, none⟩) K K) K ((List.replicate K 0).map fun x => Value.int .u32 ((x : Nat) : Int)) :=
      ⟨by simp, .inr ⟨W.heap.size, K, u32s (List.replicate K 0), rfl, by omega, heap_alloc_new W _, Nat.le_refl _, by unfold maxLen; omega, by simp [u32s], by rw [Nat.mul_one]; simp only [u32s]; exact List.take_of_length_le (by simp)⟩⟩
    have := h0.alloc (.cells #[.int .u32 1] 103)
    rwa [List.length_replicate]
  obtain ⟨a3, c3, w3, hrun, k1, k2, hB3, k3⟩ := run_append_own_limbs _ W.heap.size (by simp; omega) 23 _ (List.replicate K 0) (by simp; omega) (by simp; omega) hown (W.heap.size + 1) [1] 1 (by simp) (fun i hi => by
    have : i = 0 := by simpa using hi
    subst this
    simp)
  rw [List.length_replicate, show [1].length = 1 from rfl] at hrun k1
  obtain ⟨x0, hx0⟩ : ∃ x0, x0 = 1000000000 ^ K := ⟨_, rfl⟩
  have hsh := limbs_shift K 1 (by omega)
  rw [Nat.mul_one, ← hx0, limbs_of_one] at hsh
  rw [← hsh] at k3
  have hxl : K + 1 = (limbs x0).length := by rw [hsh]; simp
  have HX : Hid (IsInt w3 (.agg #[.bool false, .slice a3 (K + 1) c3]) (x0 : Int)) := by
    rw [hxl]
    exact ⟨a3, c3, by simp, by rw [Int.natAbs_natCast, ← hxl]; exact k1, k2, by rw [Int.natAbs_natCast]; exact k3⟩
  have e3 : Ext W w3 := by
    refine Below.trans ?_ hB3
    exact ((Ext.refl W).alloc _).alloc _
  have V1 : Hid (VarAt (zE [(n : Int), (x0 : Int)]) W w.heap.size [.int (.var 0) 100000]) := by
    unfold Hid
    rw [← hW]
    refine VarAt.ext (w := w.alloc (.cells #[.bool false, .slice ao (limbs n).length cap] 25)) ?_ ((Ext.refl _).alloc _)
    exact VarAt.new (vs := [_, _]) (chunks_int h rfl l)
  have V2 : Hid (VarAt (zE [(n : Int), (x0 : Int)]) W (w.heap.size + 1) [.int (.lit 0) 0]) := by
    unfold Hid
    rw [← hW]
    have := VarAt.new (E := zE [(n : Int), (x0 : Int)]) (w := w.alloc (.cells #[.bool false, .slice ao (limbs n).length cap] 25)) (vs := [_, _]) (t := 25) (chunks_int (t := .lit 0) (l := 0) (isInt_zero _) rfl lim_zero)
    rwa [World.size_alloc] at this
  have HL3 : Hid (Lim 100001 (x0 : Int)) := by unfold Hid Lim; rw [Int.natAbs_natCast, ← hxl]; omega
  have HRUN := Lib.hid hrun
  have HK := Lib.hid hK
  have Hx0 := Lib.hid hx0
  clear hK H4 H5 H6 h hrun hown hx0 hsh k1 k2 k3 hxl hB3
  go_enter Tryz.func143, Tryz.ntmps143
  have hWs2 := Lib.hid hWs
  clear hWs
  go_wp2_with (at_builtin; refine wpList_append_run' rfl _ _ 23 rfl rfl rfl HRUN.out ?_)
  obtain ⟨w4, hw4⟩ : ∃ w4, w4 = w3.alloc (.cells #[.bool false, .slice a3 (K + 1) c3] 25) := ⟨_, rfl⟩
  rw [← hw4]
  refine (rfromInt64_calls w4 2 (by decide) (by decide)).mono ?_
  rintro e w5 ⟨v5, rfl, hI5, e5⟩
  obtain ⟨ao5, cap5, s5, n5, rfl, _⟩ := IsInt.open_ hI5
  have HI5 := Lib.hid hI5
  clear hI5
  go_wp2_with fail
  have hx0p : 0 < x0 := by rw [Hx0.out]; exact Nat.pow_pos (by omega)
  have hnx : n < (x0 + 1) * (x0 + 1) := by
    refine lt_next_sq ?_
    rw [Hx0.out, ← Nat.pow_add]
    exact Nat.lt_of_lt_of_le (lt_of_limbs_len (Nat.le_refl _)) (Nat.pow_le_pow_right (by omega) (by have := HK.out; omega))
  obtain ⟨m, E', hR, hE⟩ := sq_run n (by omega) x0 hx0p hnx HL3.out
  have hup : (zE [(n : Int), (x0 : Int)]).upd sqI.vs ([IT.var 1].map (IT.den (zE [(n : Int), (x0 : Int)]))) = (zE [(n : Int), 0]).upd [1] [(x0 : Int)] := by
    unfold Env.upd
    congr 1
    funext k
    show (if k = 1 then some (x0 : Int) else none).getD (([(n : Int), (x0 : Int)]).getD k 0) = (if k = 1 then some (x0 : Int) else none).getD (([(n : Int), 0]).getD k 0)
    by_cases hk : k = 1
    · rw [if_pos hk]; rfl
    · rw [if_neg hk]
      match k, hk with
      | 0, _ => rfl
      | k + 2, _ => rfl
  have e35 : Ext w3 w5 := by
    have := (Ext.refl w3).alloc (.cells #[.bool false, .slice a3 (K + 1) c3] 25)
    rw [← hw4] at this
    exact this.trans e5
  have e6 := (Ext.refl w5).alloc (.cells #[.bool s5, .slice ao5 (limbs n5).length cap5] 25)
  have V4 : VarAt (zE [(n : Int), (x0 : Int)]) w4 w3.heap.size [.int (.var 1) 100001] := by
    rw [hw4]
    exact VarAt.new (vs := [_, _]) (chunks_int HX.out rfl HL3.out)
  have V5 := VarAt.new (E := zE [(n : Int), (x0 : Int)]) (vs := [_, _]) (t := 25) (chunks_int (t := .lit 2) (l := 3) HI5.out rfl (lim3 (by decide) (by decide)))
  have sz3 := e3.size
  have sz35 := e35.size
  have sz4 : w4.heap.size = w3.heap.size + 1 := by rw [hw4]; simp
  have sz5 := e5.size
  have hs2 := hWs2.out
  refine execL_sound (Good := fun _ => True) (C := cfgOf tabRsq) (L := fun _ => some sqI) (w0 := w) (B := w.heap.size) (n := Tryz.f143.ntmps) (l := sqLeaf) (E' := E') mixed (fun _ _ => ⟨cfg_ok tabRsq_ok, fun _ _ => True.intro⟩) _ 0 (fun _ S e => match e with | .ret => (resE (cfgOf tabRsq) S Tryz.f143.results.toList).map .leaf | _ => none) _ noStk [] ⟨lookN sqI.lk, lookN sqI.vr⟩ (.loop 0 sqI [.var 1] sqTree) (zE [(n : Int), (x0 : Int)]) m _ _ no_asm trivial ?_ (by kernel_rfl) (.loop ⟨no_asm, trivial, ?_⟩ (by rw [hup]; exact hR)) ?_
  · have hz2 : ∀ t x, lookN sqI.lk t = some x → t = 1 ∧ x = .ptr 1 0 ∨ t = 2 ∧ x = .ptr 2 0 ∨ t = 4 ∧ x = .ptr 4 0 ∨ t = 5 ∧ x = .ptr 5 0 := by
      intro t x hx
      have := lookN_mem hx
      simpa [sqI] using this
    have hz3 : ∀ t x, lookN sqI.vr t = some x → t = 1 ∧ x = [.int (.var 0) 100000] ∨ t = 2 ∧ x = [.int (.lit 0) 0] ∨ t = 4 ∧ x = [.int (.var 1) 100001] ∨ t = 5 ∧ x = [.int (.lit 2) 3] := by
      intro t x hx
      have := lookN_mem hx
      simpa [sqI] using this
    refine ⟨fun t => if t = 1 then w.heap.size else if t = 2 then w.heap.size + 1 else if t = 4 then w3.heap.size else w5.heap.size, ⟨?_, ?_, ?_, ?_, by kernel_rfl, rfl, ?_, ?_, ?_⟩⟩
    · intro t x hx
      rcases hz2 t x hx with ⟨rfl, rfl⟩ | ⟨rfl, rfl⟩ | ⟨rfl, rfl⟩ | ⟨rfl, rfl⟩ <;> rfl
    · intro t x hx
      rcases hz3 t x hx with ⟨rfl, rfl⟩ | ⟨rfl, rfl⟩ | ⟨rfl, rfl⟩ | ⟨rfl, rfl⟩
      · exact ⟨fun _ => Nat.le_refl _, (V1.out.ext (e3.trans e35)).ext e6⟩
      · exact ⟨fun _ => by show w.heap.size ≤ w.heap.size + 1; omega, (V2.out.ext (e3.trans e35)).ext e6⟩
      · exact ⟨fun _ => by show w.heap.size ≤ w3.heap.size; omega, (V4.ext e5).ext e6⟩
      · exact ⟨fun _ => by show w.heap.size ≤ w5.heap.size; omega, V5⟩
    · intro x y hx hy he
      obtain ⟨cs, hcs⟩ := Option.isSome_iff_exists.1 hx
      obtain ⟨ds, hds⟩ := Option.isSome_iff_exists.1 hy
      rcases hz3 x cs hcs with ⟨rfl, _⟩ | ⟨rfl, _⟩ | ⟨rfl, _⟩ | ⟨rfl, _⟩ <;> rcases hz3 y ds hds with ⟨rfl, _⟩ | ⟨rfl, _⟩ | ⟨rfl, _⟩ | ⟨rfl, _⟩ <;> first | rfl | (exfalso; revert he; simp; done) | (exfalso; revert he; simp; omega)
    · intro t x off hx
      rcases hz2 t _ hx with ⟨rfl, hh⟩ | ⟨rfl, hh⟩ | ⟨rfl, hh⟩ | ⟨rfl, hh⟩ <;> (injection hh with h1 h2; subst h1; rfl)
    · simp; omega
    · exact (eW.trans (e3.trans e35)).trans (Below.mono e6 (by omega))
    · intro x cs hx
      rcases hz3 x cs hx with ⟨rfl, rfl⟩ | ⟨rfl, rfl⟩ | ⟨rfl, rfl⟩ | ⟨rfl, rfl⟩ <;> decide
  · intro p hp
    simp only [sqI, List.mem_cons, List.not_mem_nil, or_false] at hp
    subst hp
    rw [hup]
    exact HL3.out
  · intro K' G' S' e T' E1 m' hm' hK' h1 hR' hG' hE' a' w' h4'
    cases e with
    | norm => cases h1
    | exit id => cases h1
    | ret =>
      obtain ⟨l', hl, rfl⟩ := Option.map_eq_some_iff.1 h1
      cases hR' with
      | leaf =>
        obtain ⟨β, v, r1, r2⟩ := resE_sound (cfg_ok tabRsq_ok) h4' (fn := Tryz.f143) (rs := Tryz.f143.results.toList) (by simp) (by decide +kernel) hl
        obtain ⟨β', hS⟩ := h4'
        refine ⟨hS.nd, v, r1, ?_⟩
        obtain ⟨vs, rfl, u1, r1, rfl, k1, u2, r2, rfl, k2, hn⟩ := r2
        simp only [tupAll] at hn
        subst hn
        have k2' := one_num.1 k2
        subst k2'
        have k1' := (one_int.1 k1).1
        refine ⟨u1, ?_, ?_, hS.bl⟩
        · show _ = Ending.returned (.tuple #[u1, .int .i64 (isqE (n : Int))])
          rw [show isqE (n : Int) = 0 from if_neg (by omega)]
          rfl
        · rw [show isq (n : Int) = (isqN n : Int) by unfold isq; rw [if_neg (by omega), Int.natAbs_natCast], ← hE]
          exact k1'

theorem open_iq {E : Env} {β : Nat → Nat} {w : World} {v : Value} {x u : IT} {l : Nat} (hx : (AV.tup [(true, [.int x l]), (false, [.n .i64 u])]).holds E β w v) : ∃ p, v = .tuple #[p, .int .i64 (u.den E)] ∧ IsInt w p (x.den E) := by
  obtain ⟨vs, rfl, u1, r1, rfl, k1, u2, r2, rfl, k2, hn⟩ := hx
  simp only [tupAll] at hn
  subst hn
  have k2' := one_num.1 k2
  subst k2'
  exact ⟨u1, rfl, (one_int.1 k1).1⟩
theorem rsqrt_any (w : World) (v : Value) (z : Int) (h : IsInt w v z) (l : Lim 100000 z) : Calls Tryz.prog 143 #[v] w (RetSqA z w) := by
  by_cases hz : 0 < z
  · exact rsqrt_pos w v z h l hz
  · by_cases h0 : z = 0
    · subst h0
      refine (fun_sound (C := cfgOf []) (E := zE []) (args := [.val true [.int (.lit 0) 0]]) (T := .leaf [(true, [.int (.lit 0) 0]), (false, [.n .i64 (.lit 0)])])
        mixed (cfg_ok .nil) no_asm Tryz.func143 (by decide +kernel) (by kernel_rfl) (by decide +kernel) rfl w [v] rfl ?_).mono ?_
      · intro i x hx
        match i, hx with
        | 0, hx => injection hx with hx; subst hx; exact ⟨fun _ => 0, v, rfl, one_int.2 ⟨h, lim_zero⟩⟩
      · rintro e w' ⟨β, u, rfl, hh, ex⟩
        obtain ⟨p, rfl, hp⟩ := open_iq hh
        exact ⟨p, rfl, hp, ex⟩
    · have hneg : z < 0 := by omega
      refine (fun_sound (C := cfgOf []) (E := zE [z]) (G := [(.lt (.var 0) (.lit 0), true)]) (args := [.val true [.int (.var 0) 100000]]) (T := .leaf [(true, [.int (.lit 0) 0]), (false, [.n .i64 (.lit 7)])])
        mixed (cfg_ok .nil) (asm_cons no_asm (by show decide (z < 0) = true; exact decide_eq_true hneg)) Tryz.func143 (by decide +kernel) (by kernel_rfl) (by decide +kernel) rfl w [v] rfl ?_).mono ?_
      · intro i x hx
        match i, hx with
        | 0, hx => injection hx with hx; subst hx; exact ⟨fun _ => 0, v, rfl, one_int.2 ⟨h, l⟩⟩
      · rintro e w' ⟨β, u, rfl, hh, ex⟩
        obtain ⟨p, rfl, hp⟩ := open_iq hh
        refine ⟨p, ?_, ?_, ex⟩
        · rw [show isqE z = 7 from if_pos hneg]; rfl
        · rw [show isq z = 0 from if_pos hneg]; exact hp

end Go.Proofs.YtllijnecmekfeaaGreatDoor
end

section
set_option maxRecDepth 100000
namespace Go.Proofs.YtllijnecmekfeaaGreatDoor
open Go.RowKit
def kSqRef : Con
  | [.val true [.int x l]], _ => if decide (l ≤ 100000) then some (.tup [(true, [.int (.a1 2 x) l]), (false, [.n .i64 (.a1 3 x)])]) else none
  | _, _ => none
theorem kSqRef_ok {E : Env} : ConOK Tryz.prog E 143 kSqRef := by
  refine ⟨?_, ?_, ⟨_, Tryz.func143, by decide +kernel, by kernel_rfl⟩⟩
  · intro args As r h hG β w vs hv hlen
    unfold kSqRef at h
    split at h
    · split at h
      · rename_i hlo
        injection h with h
        subst h
        simp only [decide_eq_true_iff] at hlo
        obtain ⟨v, rfl, h1⟩ := args1 hv hlen
        obtain ⟨i1, l1⟩ := one_int.1 h1
        refine (rsqrt_any w v _ i1 (l1.mono hlo)).mono ?_
        rintro e w' ⟨u, rfl, k1, ex⟩
        exact ⟨_, rfl, ⟨[u, .int .i64 _], rfl, u, _, rfl, one_int.2 ⟨k1, isq_lim l1⟩, _, _, rfl, one_num.2 rfl, rfl⟩, ex⟩
      · cases h
    · cases h
  · intro args As r h x off
    unfold kSqRef at h
    split at h
    · split at h
      · injection h with h; subst h; intro e; cases e
      · cases h
    · cases h
theorem open_ib' {E : Env} {β : Nat → Nat} {w : World} {v : Value} {x : IT} {k : Nat} {t : BT} (hx : (AV.tup [(true, [.int x k]), (false, [.b t])]).holds E β w v) : ∃ p, v = .tuple #[p, .bool (t.den E)] ∧ IsInt w p (x.den E) := by
  obtain ⟨vs, rfl, u1, r1, rfl, k1, u2, r2, rfl, k2, hn⟩ := hx
  simp only [tupAll] at hn
  subst hn
  have k2' := one_bool.1 k2
  subst k2'
  exact ⟨u1, rfl, (one_int.1 k1).1⟩
theorem perfect_calls (w : World) (v : Value) (z : Int) (h : IsInt w v z) (l : Lim 100000 z) :
    Calls Tryz.prog 151 #[v] w fun e w' => ∃ u, e = .returned (.tuple #[u, .bool (sqB z)]) ∧ IsInt w' u (isq z) ∧ Ext w w' := by
  refine (fun_sound (C := cfgOf ((143, kSqRef) :: (28, kIIb fun x y => .eq x y) :: tabR1)) (E := zE [z]) (args := [.val true [.int (.var 0) 100000]])
    (T := .ite (.eq (.a1 3 (.var 0)) (.lit 0)) (.leaf [(true, [.int (.a1 2 (.var 0)) 100000]), (false, [.b (.eq (.a2 2 (.a1 2 (.var 0)) (.a1 2 (.var 0))) (.var 0))])]) (.leaf [(true, [.int (.a1 2 (.var 0)) 100000]), (false, [.b (.lit false)])]))
    mixed (cfg_ok (.cons kSqRef_ok (.cons (kIIb_ok (fun x y => x == y) (fun _ _ => rfl) (fun w v1 v2 z1 z2 h1 h2 => (rsame_calls w v1 v2 z1 z2 h1 h2).mono (fun e w' h => ⟨by rw [h.1]; by_cases hz : z1 = z2 <;> simp [hz], h.2⟩)) ⟨_, Tryz.func28, by decide +kernel, by kernel_rfl⟩) tabR1_ok)))
    no_asm Tryz.func151 (by decide +kernel) (by kernel_rfl) (by decide +kernel) rfl w [v] rfl ?_).mono ?_
  · intro i x hx
    match i, hx with
    | 0, hx => injection hx with hx; subst hx; exact ⟨fun _ => 0, v, rfl, one_int.2 ⟨h, l⟩⟩
  · rintro e w' ⟨β, u, rfl, hh, ex⟩
    simp only [Tree.pick] at hh
    split at hh
    · rename_i hz
      obtain ⟨p, rfl, hp⟩ := open_ib' hh
      refine ⟨p, ?_, hp, ex⟩
      have hz' : (isqE z == 0) = true := hz
      have e1 : (BT.eq (.a2 2 (.a1 2 (.var 0)) (.a1 2 (.var 0))) (.var 0)).den (zE [z]) = (cmpZ (isq z * isq z) z == 0) := by
        show (isq z * isq z == z) = _
        rw [Bool.eq_iff_iff, beq_iff_eq, beq_iff_eq]
        rcases cmpZ_cases (isq z * isq z) z with ⟨h, e⟩ | ⟨h, e⟩ | ⟨h, e⟩ <;> rw [e] <;> omega
      rw [e1]
      unfold sqB
      rw [hz', Bool.true_and]
    · rename_i hz
      obtain ⟨p, rfl, hp⟩ := open_ib' hh
      have hz' : (isqE z == 0) = false := by
        cases hb : (isqE z == 0) with
        | false => rfl
        | true => exact absurd hb hz
      refine ⟨p, ?_, hp, ex⟩
      unfold sqB
      rw [hz', Bool.false_and]
      rfl
theorem kPf_ok {E : Env} : ConOK Tryz.prog E 151 kSqr := by
  refine ⟨?_, ?_, ⟨_, Tryz.func151, by decide +kernel, by kernel_rfl⟩⟩
  · intro args As r h hG β w vs hv hlen
    unfold kSqr at h
    split at h
    · split at h
      · rename_i hlo
        injection h with h
        subst h
        simp only [decide_eq_true_iff] at hlo
        obtain ⟨v, rfl, h1⟩ := args1 hv hlen
        obtain ⟨i1, l1⟩ := one_int.1 h1
        refine (perfect_calls w v _ i1 (l1.mono hlo)).mono ?_
        rintro e w' ⟨u, rfl, k1, ex⟩
        exact ⟨_, rfl, ⟨[u, .bool _], rfl, u, _, rfl, one_int.2 ⟨k1, isq_lim l1⟩, _, _, rfl, one_bool.2 rfl, rfl⟩, ex⟩
      · cases h
    · cases h
  · intro args As r h x off
    unfold kSqr at h
    split at h
    · split at h
      · injection h with h; subst h; intro e; cases e
      · cases h
    · cases h
theorem rsqrtQ_calls (w : World) (v : Value) (n d : Int) (h : IsPair w v n d) (l1 : Lim 100000 n) (l2 : Lim 100000 d) : Calls Tryz.prog 101 #[v] w (RetSqQ n d w) := by
  refine (fun_sound (C := cfgOf [(151, kSqr)]) (E := zE [n, d]) (args := [argQ 0]) (T := tSq)
    mixed (cfg_ok (.cons kPf_ok .nil)) no_asm Tryz.func101 (by decide +kernel) (by kernel_rfl) (by decide +kernel) rfl w [v] rfl ?_).mono ?_
  · intro i x hx
    match i, hx with
    | 0, hx => injection hx with hx; subst hx; exact ⟨fun _ => 0, v, rfl, argP_holds h l1 l2 rfl rfl⟩
  · rintro e w' ⟨β, u, rfl, hh, ex⟩
    have d0 : (BT.and (.eq (.a1 3 (.var 0)) (.lit 0)) (.eq (.a2 3 (.a2 2 (.a1 2 (.var 0)) (.a1 2 (.var 0))) (.var 0)) (.lit 0))).den (zE [n, d]) = sqB n := rfl
    have d1 : (BT.and (.eq (.a1 3 (.var 1)) (.lit 0)) (.eq (.a2 3 (.a2 2 (.a1 2 (.var 1)) (.a1 2 (.var 1))) (.var 1)) (.lit 0))).den (zE [n, d]) = sqB d := rfl
    unfold tSq at hh
    simp only [Tree.pick, d0, d1] at hh
    unfold RetSqQ sqN
    cases h0 : sqB n <;> cases h1 : sqB d <;> rw [h0, h1] at hh
    · obtain ⟨p, rfl, hp⟩ := open_qb hh
      exact ⟨p, rfl, hp, ex⟩
    · obtain ⟨p, rfl, hp⟩ := open_qb hh
      exact ⟨p, rfl, hp, ex⟩
    · obtain ⟨p, rfl, hp⟩ := open_qb hh
      exact ⟨p, rfl, hp, ex⟩
    · obtain ⟨p, rfl, hp⟩ := open_qb hh
      exact ⟨p, rfl, hp, ex⟩

theorem mul_self_parts (a : Rat) : (a * a).num = a.num * a.num ∧ (a * a).den = a.den * a.den := by
  have hc : (a.num * a.num).natAbs.Coprime (a.den * a.den) := by
    rw [Int.natAbs_mul]
    exact (Nat.Coprime.mul_left a.reduced a.reduced).symm.mul_left (Nat.Coprime.mul_left a.reduced a.reduced).symm |>.symm
  have hn : a.den * a.den ≠ 0 := Nat.mul_ne_zero a.den_nz a.den_nz
  have e : a * a = ⟨a.num * a.num, a.den * a.den, hn, hc⟩ := by
    rw [Rat.mk_eq_divInt]
    have h : Rat.divInt a.num a.den * Rat.divInt a.num a.den = a * a := by rw [Rat.num_divInt_den]
    rw [← h, Rat.divInt_mul_divInt, Int.natCast_mul]
  rw [e]
  exact ⟨rfl, rfl⟩
theorem isq_self (n : Int) : isq (n * n) = (n.natAbs : Int) ∧ sqB (n * n) = true := by
  have h0 : ¬ n * n < 0 := by
    have e : ((n.natAbs : Int)) * (n.natAbs : Int) = n * n := Int.natAbs_mul_self
    have h := Int.natCast_nonneg (n.natAbs * n.natAbs)
    rw [Int.natCast_mul, e] at h
    omega
  have e1 : isq (n * n) = (n.natAbs : Int) := by
    unfold isq
    rw [if_neg h0, Int.natAbs_mul]
    congr 1
    refine isqN_spec_eq ⟨Nat.le_refl _, ?_⟩
    exact Nat.mul_lt_mul'' (by omega) (by omega)
  refine ⟨e1, ?_⟩
  unfold sqB
  rw [e1]
  have e2 : ((n.natAbs : Int)) * (n.natAbs : Int) = n * n := Int.natAbs_mul_self
  rw [e2, cmpZ_eq rfl]
  unfold isqE
  rw [if_neg h0]
  rfl
theorem sqB_spec {z : Int} (h : sqB z = true) : isq z * isq z = z := by
  unfold sqB at h
  rw [Bool.and_eq_true, beq_iff_eq, beq_iff_eq] at h
  rcases cmpZ_cases (isq z * isq z) z with ⟨_, e⟩ | ⟨k, _⟩ | ⟨_, e⟩
  · have := h.2; omega
  · exact k
  · have := h.2; omega
theorem root_rat {a : Rat} (h : sqB a.num = true) (k : sqB (a.den : Int) = true) : ∃ s : Rat, s.num = isq a.num ∧ (s.den : Int) = isq (a.den : Int) := by
  have e1 := sqB_spec h
  have e2 := sqB_spec k
  have hd : (a.den : Int) ≠ 0 := den_ne a
  have hp : 0 ≤ isq (a.den : Int) := by unfold isq; split <;> omega
  have hne : (isq (a.den : Int)).natAbs ≠ 0 := by
    intro e
    have : isq (a.den : Int) = 0 := by omega
    rw [this] at e2
    omega
  have hc : (isq a.num).natAbs.Coprime (isq (a.den : Int)).natAbs := by
    have h1 : (isq a.num).natAbs * (isq a.num).natAbs = a.num.natAbs := by rw [← Int.natAbs_mul, e1]
    have h2 : (isq (a.den : Int)).natAbs * (isq (a.den : Int)).natAbs = a.den := by rw [← Int.natAbs_mul, e2, Int.natAbs_natCast]
    have hr := a.reduced
    rw [← h1, ← h2] at hr
    exact (Nat.Coprime.coprime_mul_left (Nat.Coprime.coprime_mul_left hr).symm).symm
  refine ⟨⟨isq a.num, (isq (a.den : Int)).natAbs, hne, hc⟩, rfl, ?_⟩
  show (((isq (a.den : Int)).natAbs : Nat) : Int) = _
  omega
end Go.Proofs.YtllijnecmekfeaaGreatDoor
end

section
set_option maxRecDepth 100000
namespace Go.Proofs.YtllijnecmekfeaaGreatDoor
open Go.RowKit
def Rd (b c : Rat) : Prop := (b = 0 ∧ c = 0) ∨ (b ≠ 0 ∧ 0 < c ∧ ∀ q : Rat, q * q ≠ c)
theorem sqz_sqB {z : Int} (h : 0 ≤ z) : sqz z = sqB z := by
  unfold sqz sqB isqE
  rw [if_neg (by omega)]
  show _ = (true && _)
  rw [Bool.true_and, Bool.eq_iff_iff, beq_iff_eq, beq_iff_eq]
  rcases cmpZ_cases (isq z * isq z) z with ⟨h, e⟩ | ⟨h, e⟩ | ⟨h, e⟩ <;> rw [e] <;> omega
theorem sq_of_root {c : Rat} (hc : 0 < c) (h : sqz c.num = true) (k : sqz (c.den : Int) = true) : ∃ q : Rat, q * q = c := by
  have hn := (num_pos_iff c).2 hc
  rw [sqz_sqB (by omega)] at h
  rw [sqz_sqB (by omega)] at k
  obtain ⟨s, s1, s2⟩ := root_rat h k
  refine ⟨s, ?_⟩
  obtain ⟨m1, m2⟩ := mul_self_parts s
  refine Rat.ext ?_ ?_
  · rw [m1, s1, sqB_spec h]
  · have : ((s.den * s.den : Nat) : Int) = (c.den : Int) := by rw [Int.natCast_mul, s2, sqB_spec k]
    rw [m2]; omega
theorem root_of_sq {c q : Rat} (h : q * q = c) : sqz c.num = true ∧ sqz (c.den : Int) = true := by
  obtain ⟨m1, m2⟩ := mul_self_parts q
  rw [h] at m1 m2
  obtain ⟨i1, j1⟩ := isq_self q.num
  obtain ⟨i2, j2⟩ := isq_self (q.den : Int)
  refine ⟨?_, ?_⟩
  · unfold sqz
    rw [m1, i1, beq_iff_eq]
    exact Int.natAbs_mul_self
  · unfold sqz
    rw [m2, Int.natCast_mul, i2, beq_iff_eq]
    exact Int.natAbs_mul_self
theorem Rdb_iff {b c : Rat} : Rdb b c = true ↔ Rd b c := by
  have n1 : b.num = 0 ↔ b = 0 := Rat.num_eq_zero
  have n2 : c.num = 0 ↔ c = 0 := Rat.num_eq_zero
  have n3 := num_pos_iff c
  unfold Rdb Rd
  simp only [Bool.or_eq_true, Bool.and_eq_true, beq_iff_eq, bne_iff_ne, decide_eq_true_iff, Bool.not_eq_true', Bool.and_eq_false_iff]
  constructor
  · rintro (⟨h1, h2⟩ | ⟨h1, h2, h3⟩)
    · exact .inl ⟨n1.1 h1, n2.1 h2⟩
    · refine .inr ⟨fun e => h1 (n1.2 e), n3.1 h2, fun q hq => ?_⟩
      obtain ⟨k1, k2⟩ := root_of_sq hq
      rcases h3 with h3 | h3
      · rw [k1] at h3; cases h3
      · rw [k2] at h3; cases h3
  · rintro (⟨h1, h2⟩ | ⟨h1, h2, h3⟩)
    · exact .inl ⟨n1.2 h1, n2.2 h2⟩
    · refine .inr ⟨fun e => h1 (n1.1 e), n3.2 h2, ?_⟩
      cases k1 : sqz c.num with
      | false => exact .inl rfl
      | true =>
        cases k2 : sqz (c.den : Int) with
        | false => exact .inr rfl
        | true =>
          obtain ⟨q, hq⟩ := sq_of_root h2 k1 k2
          exact absurd hq (h3 q)
def rC (b c : Rat) : Rat := if b.num = 0 then 0 else c
def rN (b c : Rat) : Rat := if b.num = 0 then c else 0
def sq2 (b c : Rat) : Rat := if b.num < 0 then - (b * b * c) else b * b * c
theorem rC_zero (c : Rat) : rC 0 c = 0 := rfl
theorem rC_ne {b : Rat} (h : b ≠ 0) (c : Rat) : rC b c = c := if_neg (fun e => h (Rat.num_eq_zero.1 e))
theorem rN_zero (c : Rat) : rN 0 c = c := rfl
theorem rN_ne {b : Rat} (h : b ≠ 0) (c : Rat) : rN b c = 0 := if_neg (fun e => h (Rat.num_eq_zero.1 e))
theorem sq_pos {b : Rat} (h : b ≠ 0) : 0 < b * b := by
  rcases (by grind : b < 0 ∨ 0 < b) with k | k
  · have := Rat.mul_pos (a := -b) (b := -b) (by grind) (by grind)
    grind
  · exact Rat.mul_pos k k
def nrm (a b c : Rat) : Rat := a * a - b * b * c
def sgN (a b c : Rat) : Int := if 0 < nrm a b c then sgQ a else if nrm a b c < 0 then sgQ b else 0
theorem sgN_pos {a b c : Rat} (h : 0 < nrm a b c) : sgN a b c = sgQ a := if_pos h
theorem sgN_neg {a b c : Rat} (h : nrm a b c < 0) : sgN a b c = sgQ b := by unfold sgN; rw [if_neg (by grind), if_pos h]
theorem sgN_zero {a b c : Rat} (h : nrm a b c = 0) : sgN a b c = 0 := by unfold sgN; rw [if_neg (by grind), if_neg (by grind)]
theorem nrm_ne {a b c : Rat} (R : Rd b c) (h : nrm a b c = 0) : a = 0 ∧ b = 0 := by
  unfold nrm at h
  rcases R with ⟨rfl, rfl⟩ | ⟨hb, hc, hs⟩
  · refine ⟨?_, rfl⟩
    refine Decidable.byContradiction fun ha => ?_
    have := sq_pos ha
    grind
  · exfalso
    refine hs (a / b) ?_
    have e : a / b * b = a := Rat.div_mul_cancel hb
    have e2 : (a / b * (a / b) - c) * (b * b) = 0 := by grind
    have hbb := sq_pos hb
    refine Decidable.byContradiction fun hn => ?_
    have hne : a / b * (a / b) - c ≠ 0 := by grind
    rcases Rat.mul_eq_zero.1 e2 with h1 | h1
    · exact hne h1
    · grind
theorem sgN_mono {x y b c : Rat} (R : Rd b c) (h : x ≤ y) (k : 0 ≤ sgN x b c) : 0 ≤ sgN y b c := by
  have sq_le : ∀ {u v : Rat}, 0 ≤ u → u ≤ v → u * u ≤ v * v := by
    intro u v h1 h2
    have e1 : 0 ≤ (v - u) * v := Rat.mul_nonneg (by grind) (by grind)
    have e2 : 0 ≤ (v - u) * u := Rat.mul_nonneg (by grind) h1
    grind
  have s1 : ∀ q : Rat, 0 ≤ sgQ q ↔ 0 ≤ q := by
    intro q
    rcases sgQ_cases q with ⟨k, e⟩ | ⟨k, e⟩ | ⟨k, e⟩ <;> rw [e] <;> constructor <;> intro h <;> first | omega | grind
  rcases (by grind : nrm y b c < 0 ∨ nrm y b c = 0 ∨ 0 < nrm y b c) with n | n | n
  · rw [sgN_neg n, s1]
    refine Decidable.byContradiction fun hb => ?_
    rcases R with ⟨rfl, rfl⟩ | ⟨hb0, hc, hs⟩
    · grind
    have hx : 0 < nrm x b c := by
      refine Decidable.byContradiction fun hn => ?_
      rcases (by grind : nrm x b c < 0 ∨ nrm x b c = 0) with m | m
      · rw [sgN_neg m, s1] at k; grind
      · exact hb0 (nrm_ne (.inr ⟨hb0, hc, hs⟩) m).2
    rw [sgN_pos hx, s1] at k
    have := sq_le k h
    unfold nrm at n hx
    grind
  · rw [sgN_zero n]; exact Int.le_refl _
  · rw [sgN_pos n, s1]
    refine Decidable.byContradiction fun hy => ?_
    have hy' := sq_le (u := -y) (v := -x) (by grind) (by grind)
    have hx : 0 < nrm x b c := by unfold nrm at n ⊢; grind
    rw [sgN_pos hx, s1] at k
    grind
end Go.Proofs.YtllijnecmekfeaaGreatDoor
end

section
set_option maxRecDepth 100000
namespace Go.Proofs.YtllijnecmekfeaaGreatDoor
open Go.RowKit
def IsFl (a b c : Rat) (n : Int) : Prop := 0 ≤ sgN (a - (n : Rat)) b c ∧ sgN (a - ((n + 1 : Int) : Rat)) b c < 0
theorem IsFl.unique {a b c : Rat} (R : Rd b c) {n m : Int} (h : IsFl a b c n) (k : IsFl a b c m) : n = m := by
  have key : ∀ {n m : Int}, IsFl a b c n → IsFl a b c m → n ≤ m := by
    intro n m h k
    refine Decidable.byContradiction fun hn => ?_
    have e : ((m + 1 : Int) : Rat) ≤ (n : Rat) := Rat.intCast_le_intCast.2 (by omega)
    have := sgN_mono R (x := a - (n : Rat)) (y := a - ((m + 1 : Int) : Rat)) (by grind) h.1
    have := k.2
    omega
  exact Int.le_antisymm (key h k) (key k h)
theorem IsFl.zero {a : Rat} : IsFl a 0 0 a.floor := by
  have s1 : ∀ q : Rat, sgN q 0 0 = sgQ q := by
    intro q
    by_cases hq : q = 0
    · subst hq; rw [sgN_zero (by unfold nrm; grind)]; rfl
    · rw [sgN_pos (by have := sq_pos hq; unfold nrm; grind)]
  have h1 := Rat.floor_le a
  have h2 := Rat.lt_floor_add_one a
  unfold IsFl
  rw [s1, s1]
  constructor
  · rcases sgQ_cases (a - (a.floor : Rat)) with ⟨k, e⟩ | ⟨k, e⟩ | ⟨k, e⟩ <;> rw [e] <;> first | omega | grind
  · rw [sgQ_neg' (by grind)]; omega
theorem isq_bounds {y : Int} (h : 0 ≤ y) : 0 ≤ isq y ∧ isq y * isq y ≤ y ∧ y < (isq y + 1) * (isq y + 1) := by
  unfold isq
  rw [if_neg (by omega)]
  obtain ⟨h1, h2⟩ := isqN_spec y.natAbs
  have e : ((y.natAbs : Nat) : Int) = y := by omega
  refine ⟨by omega, ?_, ?_⟩
  · have : ((isqN y.natAbs * isqN y.natAbs : Nat) : Int) ≤ ((y.natAbs : Nat) : Int) := by exact_mod_cast h1
    rw [Int.natCast_mul, e] at this
    exact this
  · have : ((y.natAbs : Nat) : Int) < (((isqN y.natAbs + 1) * (isqN y.natAbs + 1) : Nat) : Int) := by exact_mod_cast h2
    rw [Int.natCast_mul, e] at this
    exact this
theorem castQ_mul (x y : Int) : ((x * y : Int) : Rat) = (x : Rat) * (y : Rat) := Rat.intCast_mul x y
theorem fl_spec {a b c : Rat} {x Y D : Int} (hb : b ≠ 0) (hc : 0 < c) (hs : ∀ q : Rat, q * q ≠ c) (hD : 0 < D) (hx : a * (D : Rat) = (x : Rat)) (hY : b * b * c * ((D : Rat) * (D : Rat)) = (Y : Rat)) :
    IsFl a b c (dq (x + (if b < 0 then - (isq Y + 1) else isq Y)) D) := by
  have R : Rd b c := .inr ⟨hb, hc, hs⟩
  have hDq : (0 : Rat) < (D : Rat) := Rat.intCast_pos.2 hD
  have hDD := Rat.mul_pos hDq hDq
  have hbbc := Rat.mul_pos (sq_pos hb) hc
  have hYp : 0 < Y := by
    have := Rat.mul_pos hbbc hDD
    rw [hY] at this
    exact Rat.intCast_pos.1 this
  obtain ⟨w0, w1, w2⟩ := isq_bounds (y := Y) (by omega)
  generalize isq Y = w at *
  -- the sign of the norm, over integers
  have nn : ∀ m : Int, nrm (a - (m : Rat)) b c * ((D : Rat) * (D : Rat)) = (((x - m * D) * (x - m * D) - Y : Int) : Rat) := by
    intro m
    rw [Rat.intCast_sub, castQ_mul, Rat.intCast_sub, castQ_mul, ← hx, ← hY]
    unfold nrm
    grind
  have npos : ∀ m : Int, 0 < (x - m * D) * (x - m * D) - Y → 0 < nrm (a - (m : Rat)) b c := by
    intro m h
    refine Decidable.byContradiction fun hn => ?_
    have h2 : 0 ≤ (-(nrm (a - (m : Rat)) b c)) * ((D : Rat) * (D : Rat)) := Rat.mul_nonneg (by grind) (by grind)
    have h3 := Rat.intCast_pos.2 h
    rw [← nn m] at h3
    grind
  have nneg : ∀ m : Int, (x - m * D) * (x - m * D) - Y < 0 → nrm (a - (m : Rat)) b c < 0 := by
    intro m h
    refine Decidable.byContradiction fun hn => ?_
    have h2 : 0 ≤ (nrm (a - (m : Rat)) b c) * ((D : Rat) * (D : Rat)) := Rat.mul_nonneg (by grind) (by grind)
    have h3 : (((x - m * D) * (x - m * D) - Y : Int) : Rat) < ((0 : Int) : Rat) := Rat.intCast_lt_intCast.2 h
    rw [← nn m] at h3
    have : ((0 : Int) : Rat) = 0 := rfl
    grind
  have nzero : ∀ m : Int, (x - m * D) * (x - m * D) - Y ≠ 0 := by
    intro m h
    have h3 := nn m
    rw [h] at h3
    have e0 : ((0 : Int) : Rat) = 0 := rfl
    rw [e0] at h3
    rcases Rat.mul_eq_zero.1 h3 with h4 | h4
    · exact hb (nrm_ne R h4).2
    · grind
  have sga : ∀ m : Int, (0 < x - m * D → sgQ (a - (m : Rat)) = 1) ∧ (x - m * D < 0 → sgQ (a - (m : Rat)) = -1) := by
    intro m
    have e : (a - (m : Rat)) * (D : Rat) = ((x - m * D : Int) : Rat) := by rw [Rat.intCast_sub, castQ_mul, ← hx]; grind
    constructor
    · intro h
      refine sgQ_pos ?_
      have h3 := Rat.intCast_pos.2 h
      rw [← e] at h3
      refine Decidable.byContradiction fun hn => ?_
      have : 0 ≤ (-(a - (m : Rat))) * (D : Rat) := Rat.mul_nonneg (by grind) (by grind)
      grind
    · intro h
      refine sgQ_neg' ?_
      have h3 : ((x - m * D : Int) : Rat) < ((0 : Int) : Rat) := Rat.intCast_lt_intCast.2 h
      rw [← e] at h3
      have e0 : ((0 : Int) : Rat) = 0 := rfl
      refine Decidable.byContradiction fun hn => ?_
      have : 0 ≤ (a - (m : Rat)) * (D : Rat) := Rat.mul_nonneg (by grind) (by grind)
      grind
  -- the quotient
  have hq : ∀ W : Int, dq (x + W) D * D ≤ x + W ∧ x + W < (dq (x + W) D + 1) * D := by
    intro W
    rw [dq_pos hD]
    exact ⟨Int.ediv_mul_le _ (by omega), Int.lt_ediv_add_one_mul_self _ hD⟩
  have sq_le : ∀ {u v : Int}, 0 ≤ u → u ≤ v → u * u ≤ v * v := by
    intro u v h1 h2
    exact Int.mul_le_mul h2 h2 h1 (by omega)
  have hsq : ∀ u : Int, u * u = (-u) * (-u) := fun u => (Int.neg_mul_neg u u).symm
  unfold IsFl
  by_cases hbn : b < 0
  · rw [if_pos hbn]
    obtain ⟨q1, q2⟩ := hq (-(w + 1))
    generalize dq (x + -(w + 1)) D = n at *
    have sb : sgQ b = -1 := sgQ_neg' hbn
    constructor
    · have t : w + 1 ≤ x - n * D := by omega
      have := sq_le (u := w + 1) (v := x - n * D) (by omega) t
      rw [sgN_pos (npos n (by omega)), (sga n).1 (by omega)]
      omega
    · have t : x - (n + 1) * D ≤ w := by omega
      have hz := nzero (n + 1)
      rcases (by omega : (x - (n + 1) * D) * (x - (n + 1) * D) - Y < 0 ∨ 0 < (x - (n + 1) * D) * (x - (n + 1) * D) - Y) with h | h
      · rw [sgN_neg (nneg _ h), sb]; omega
      · have hneg : x - (n + 1) * D < 0 := by
          refine Decidable.byContradiction fun hn => ?_
          have := sq_le (u := x - (n + 1) * D) (v := w) (by omega) t
          omega
        rw [sgN_pos (npos _ h), (sga _).2 hneg]; omega
  · rw [if_neg hbn]
    obtain ⟨q1, q2⟩ := hq w
    generalize dq (x + w) D = n at *
    have sb : sgQ b = 1 := sgQ_pos (by grind)
    constructor
    · have t : -w ≤ x - n * D := by omega
      have hz := nzero n
      rcases (by omega : (x - n * D) * (x - n * D) - Y < 0 ∨ 0 < (x - n * D) * (x - n * D) - Y) with h | h
      · rw [sgN_neg (nneg _ h), sb]; omega
      · have hpos : 0 < x - n * D := by
          refine Decidable.byContradiction fun hn => ?_
          have := sq_le (u := -(x - n * D)) (v := w) (by omega) (by omega)
          rw [← hsq] at this
          omega
        rw [sgN_pos (npos _ h), (sga _).1 hpos]; omega
    · have t : x - (n + 1) * D ≤ -(w + 1) := by omega
      have := sq_le (u := w + 1) (v := -(x - (n + 1) * D)) (by omega) (by omega)
      rw [← hsq] at this
      rw [sgN_pos (npos (n + 1) (by omega)), (sga _).2 (by omega)]
      omega
end Go.Proofs.YtllijnecmekfeaaGreatDoor
end

section
set_option maxRecDepth 100000
namespace Go.Proofs.YtllijnecmekfeaaGreatDoor
open Go.RowKit
def kInl (C : Cfg) (fn : Func) : Con := fun args G =>
  if args.all noPtr && (decide (args.length ≤ fn.ntmps) && decide (fn.results.toList.length ≤ 4)) then
    match funE C fn G args with
    | some (.leaf l) => some (toAV l)
    | _ => none
  else none
def kInlN (C : Cfg) (fn : Func) (args : List AV) (G : Asm) : Option BT :=
  match funE C fn G args with
  | some (.ite b _ _) => some b
  | _ => none
theorem toAV_nptr {l : List (Bool × List Chunk)} {x off : Nat} : toAV l ≠ .ptr x off := by
  unfold toAV
  split <;> (intro h; cases h)
theorem toAV_beta {E : Env} {β β' : Nat → Nat} {w : World} {l : List (Bool × List Chunk)} {v : Value} (h : (toAV l).holds E β w v) : (toAV l).holds E β' w v := by
  unfold toAV at *
  split at h <;> exact h
structure InlOK (P : Program) (l : List (Nat × Func)) : Prop where
  all : ∀ p ∈ l, P.funcs[p.1]? = some p.2 ∧ p.2.name ≠ "runtime.NumGoroutine" ∧ p.2.body.isNone = false
theorem InlOK.nil {P : Program} : InlOK P [] := ⟨fun _ h => by cases h⟩
theorem InlOK.cons {P : Program} {f : Nat} {fn : Func} {l : List (Nat × Func)} (h : P.funcs[f]? = some fn) (h1 : fn.name ≠ "runtime.NumGoroutine") (h2 : fn.body.isNone = false) (k : InlOK P l) : InlOK P ((f, fn) :: l) := ⟨fun d hd => by
  rcases List.mem_cons.1 hd with rfl | hd
  · exact ⟨h, h1, h2⟩
  · exact k.all d hd⟩
theorem kInl_ok {P : Program} (hm : P.follows .mixedOrders = true) {E : Env} {C : Cfg} (hC : CfgOK P E C) (hw : ∀ w, C.wok w) {f : Nat} {fn : Func} (hf : P.funcs[f]? = some fn) (h1 : fn.name ≠ "runtime.NumGoroutine") (h2 : fn.body.isNone = false) : ConOK P E f (kInl C fn) := by
  refine ⟨?_, ?_, fn, hf, h1, h2⟩
  · intro args G r h hG β w vs hv hlen
    unfold kInl at h
    split at h
    · rename_i hc
      simp only [Bool.and_eq_true, decide_eq_true_iff] at hc
      split at h
      · rename_i l hl
        injection h with h
        subst h
        refine (fun_sound hm hC hG hf hc.2.2 hl hc.2.1 hc.1 w vs hlen (fun i x hx => ⟨β, hv i x hx⟩) (fun w' _ => hw w')).mono ?_
        rintro e w' ⟨β', v, rfl, hh, ex⟩
        exact ⟨v, rfl, toAV_beta hh, ex⟩
      · cases h
    · cases h
  · intro args G r h x off
    unfold kInl at h
    split at h
    · split at h
      · injection h with h; subst h; exact toAV_nptr
      · cases h
    · cases h
def cfgI (C C0 : Cfg) (l : List (Nat × Func)) : Cfg :=
  { C with
    calls := fun f args M G => match findR l f with
      | some fn => kInl C0 fn args G
      | none => C.calls f args M G
    need := fun f args M G => match findR l f with
      | some fn => kInlN C0 fn args G
      | none => C.need f args M G }
theorem cfgI_ok {P : Program} (hm : P.follows .mixedOrders = true) {E : Env} {C C0 : Cfg} {l : List (Nat × Func)} (h : CfgOK P E C) (h0 : CfgOK P E C0) (hw : ∀ w, C0.wok w) (hl : InlOK P l) : CfgOK P E (cfgI C C0 l) := by
  refine ⟨h.zero, h.ag, h.fld, h.flds, h.bool, h.row, h.arr, ?_, ?_, ?_, h.slc, h.strT, h.cnv, h.apd, h.eq2⟩
  · intro f args M G r hr hG β w vs hwk hv hlen hmem
    simp only [cfgI] at hr
    split at hr
    · rename_i fn hfn
      obtain ⟨k1, k2, k3⟩ := hl.all _ (findR_spec hfn)
      exact (kInl_ok hm h0 hw k1 k2 k3).calls args G r hr hG β w vs hv hlen
    · exact h.calls f args M G r hr hG β w vs hwk hv hlen hmem
  · intro f args M G r hr x off
    simp only [cfgI] at hr
    split at hr
    · rename_i fn hfn
      obtain ⟨k1, k2, k3⟩ := hl.all _ (findR_spec hfn)
      exact (kInl_ok hm h0 hw k1 k2 k3).nptr args G r hr x off
    · exact h.nptr f args M G r hr x off
  · intro f args M G r hr
    simp only [cfgI] at hr
    split at hr
    · rename_i fn hfn
      obtain ⟨k1, k2, k3⟩ := hl.all _ (findR_spec hfn)
      exact ⟨fn, k1, k2, k3⟩
    · exact h.body f args M G r hr
theorem TabOK.app {P : Program} {E : Env} {l m : List (Nat × Con)} (h : TabOK P E l) (k : TabOK P E m) : TabOK P E (l ++ m) := ⟨fun p hp => by
  rcases List.mem_append.1 hp with hp | hp
  · exact h.all p hp
  · exact k.all p hp⟩
def cfgT (tab : List (Nat × Con)) (l : List (Nat × Func)) : Cfg := cfgI (cfgOf tab) (cfgOf tab) l
def cfgT2 (tab : List (Nat × Con)) (l l2 : List (Nat × Func)) : Cfg := cfgI (cfgT tab l) (cfgT tab l) l2
def cfgT3 (tab : List (Nat × Con)) (l l2 l3 : List (Nat × Func)) : Cfg := cfgI (cfgT2 tab l l2) (cfgT2 tab l l2) l3
theorem cfgT_ok {E : Env} {tab : List (Nat × Con)} {l : List (Nat × Func)} (hm : Tryz.prog.follows .mixedOrders = true) (h : TabOK Tryz.prog E tab) (hl : InlOK Tryz.prog l) : CfgOK Tryz.prog E (cfgT tab l) := cfgI_ok hm (cfg_ok h) (cfg_ok h) (fun _ => trivial) hl
theorem cfgT2_ok {E : Env} {tab : List (Nat × Con)} {l l2 : List (Nat × Func)} (hm : Tryz.prog.follows .mixedOrders = true) (h : TabOK Tryz.prog E tab) (hl : InlOK Tryz.prog l) (hl2 : InlOK Tryz.prog l2) : CfgOK Tryz.prog E (cfgT2 tab l l2) := cfgI_ok hm (cfgT_ok hm h hl) (cfgT_ok hm h hl) (fun _ => trivial) hl2
theorem cfgT3_ok {E : Env} {tab : List (Nat × Con)} {l l2 l3 : List (Nat × Func)} (hm : Tryz.prog.follows .mixedOrders = true) (h : TabOK Tryz.prog E tab) (hl : InlOK Tryz.prog l) (hl2 : InlOK Tryz.prog l2) (hl3 : InlOK Tryz.prog l3) : CfgOK Tryz.prog E (cfgT3 tab l l2 l3) := cfgI_ok hm (cfgT2_ok hm h hl hl2) (cfgT2_ok hm h hl hl2) (fun _ => trivial) hl3
end Go.Proofs.YtllijnecmekfeaaGreatDoor
end
