/-
  gcdSmall, and GCD of integers with at most two limbs.
-/
import Derived.Test.YtfjaboolfjgleaaDiv
namespace Go.Proofs.Ytfjaboolfjgleaa
open Go.RowKit

set_option maxRecDepth 100000 in
set_option maxHeartbeats 800000 in
theorem gcdSmall_calls (w : World) (m n : Nat) (hm : m ≤ 18446744073709551615) (hn : n ≤ 18446744073709551615) :
    Calls Try.prog 61 #[.int .u64 (m : Int), .int .u64 (n : Int)] w fun e w' => e = .returned (.int .u64 ((Nat.gcd m n : Nat) : Int)) ∧ Ext w w' := by
  have HMN := Lib.hid (And.intro hm hn)
  clear hm hn
  go_enter Try.func61, Try.ntmps61
  go_wp2
  go_loopw [0, 1] (fun x y wr => ∃ a b : Nat, x = .int .u64 a ∧ y = .int .u64 b ∧ Hid (a ≤ 18446744073709551615 ∧ b ≤ 18446744073709551615) ∧ Hid (Nat.gcd a b = Nat.gcd m n) ∧ Ext w wr) (fun _ y _ => (intOf y).toNat)
  case atStart => exact ⟨m, n, rfl, rfl, HMN, rfl, Ext.refl w⟩
  case round =>
    obtain ⟨a, b, rfl, rfl, HAB, HG, hE⟩ := hrel
    rcases Nat.eq_zero_or_pos b with h0 | h0
    · subst h0
      go_wp2
      go_ret
      exact ⟨ret_int (by rw [← HG.out, Nat.gcd_zero_right]), hE⟩
    · have hb0 : ((b : Int) != 0) = true := by rw [bne_iff_ne]; omega
      obtain ⟨r, hr⟩ : ∃ r, r = a % b := ⟨_, rfl⟩
      have hrb := Nat.mod_lt a h0
      obtain ⟨f1, f2⟩ := rem_nat a b r hr
      have h1 : ¬ b = 0 := by omega
      have HR := Lib.hid (show r < b ∧ Nat.gcd b r = Nat.gcd m n by
        rw [hr]
        refine ⟨hrb, ?_⟩
        rw [← HG.out, Nat.gcd_comm a b, Nat.gcd_rec b a, Nat.gcd_comm])
      clear hr hrb h0
      go_wp2
      go_quiet (fail)
      go_wp2
      go_roundw
      case rel => exact ⟨b, r, rfl, by first | rfl | exact vint f1, ⟨HAB.out.2, by have := HR.out.1; have := HAB.out.2; omega⟩, HR.out.2, hE.drewN _⟩
      case measure => have := HR.out.1; simp [intOf]; omega

/-- GCD where the lesser absolute value has at most two limbs. -/
def GcdStart (n n' : Nat) : Prop := (limbs n).length ≤ 1048576 ∧ (limbs n').length ≤ 1048576
set_option maxRecDepth 100000 in
set_option maxHeartbeats 6400000 in
theorem gcd_small (w : World) (v1 v2 : Value) (z1 z2 : Int) (h : IsInt w v1 z1) (k : IsInt w v2 z2) (l1 : Sm z1) (l2 : Sm z2) (hmin : (limbs z1.natAbs).length ≤ 2 ∧ (limbs z2.natAbs).length ≤ 2)
    (hD : ∀ m n, 0 < n → (m = z1.natAbs ∧ n = z2.natAbs ∨ m = z2.natAbs ∧ n = z1.natAbs) → DivOK m n) :
    Calls Try.prog 36 #[v1, v2] w (Ret (fun v w' => IsInt w' v ((Nat.gcd z1.natAbs z2.natAbs : Nat) : Int)) w) := by
  obtain ⟨ao, cap, s, n, rfl, h1, h2, h3, H4, H5, H6⟩ := h.open_
  obtain ⟨ao', cap', s', n', rfl, k1, k2, k3, K4, K5, K6⟩ := k.open_
  unfold Sm at l1 l2
  rw [← H4.out] at l1 hmin
  rw [← K4.out] at l2 hmin
  rw [← H4.out, ← K4.out] at hD ⊢
  have HL : Hid ((limbs n).length ≤ 2 ∧ (limbs n').length ≤ 2) := hmin
  obtain ⟨W, hW, eW, c0, c1, d0, d1, r0, r1, f0, f1⟩ := boxes2r w (.bool s) (.slice ao (limbs n).length cap) (.bool s') (.slice ao' (limbs n').length cap') 24
  have HVA := Lib.hid (isInt_raw h1 h2 h3 H6.out)
  have HVB := Lib.hid (isInt_raw k1 k2 k3 K6.out)
  clear H5 K5 hmin h k
  go_enter Try.func36, Try.ntmps36
  go_wp2_with fail
  clear hW
  refine (valid_calls W _ s (limbs n) (HVA.out.1.ext eW)).mono ?_
  rintro e w1 ⟨rfl, e1⟩
  rw [HVA.out.2]
  replace c0 := e1.cell c0
  replace c1 := e1.cell c1
  replace d0 := e1.cell d0
  replace d1 := e1.cell d1
  go_wp2_with fail
  refine (valid_calls w1 _ s' (limbs n') (HVB.out.1.ext (eW.trans e1))).mono ?_
  rintro e w2 ⟨rfl, e2⟩
  rw [HVB.out.2]
  have eA := e1.trans e2
  replace c0 := e2.cell c0
  replace c1 := e2.cell c1
  replace d0 := e2.cell d0
  replace d1 := e2.cell d1
  replace f0 := eA.frozen (lt_of_cell r0) f0
  replace f1 := eA.frozen (lt_of_cell r1) f1
  replace r0 := eA.cell r0
  replace r1 := eA.cell r1
  replace eW := eW.trans eA
  clear HVA HVB e1 e2 eA
  go_wp2_with fail
  go_quiet (fail)
  clear c0 c1 d0 d1
  replace eW := eW.drewN nq
  have rr0 : (w2.drewN nq).cell? ⟨w.heap.size + 2, 0, none⟩ = some (.bool false) := r0
  have rr1 : (w2.drewN nq).cell? ⟨w.heap.size + 2, 1, none⟩ = some (.slice none 0 0) := r1
  have ff0 : (w2.drewN nq).frozen? ⟨w.heap.size + 2, 0, none⟩ = false := f0
  have ff1 : (w2.drewN nq).frozen? ⟨w.heap.size + 2, 1, none⟩ = false := f1
  clear r0 r1 f0 f1
  generalize w2.drewN nq = w3 at *
  have hbl := Lib.hid (show (limbs n).length ≤ 9223372036854775807 ∧ (limbs n').length ≤ 9223372036854775807 by omega)
  clear l1 l2
  go_wp2_with fail
  refine (compareLimbs_calls _ _ _ n n' _ _ hbl.out.1 hbl.out.2 (h3.ext eW) (k3.ext eW)).mono ?_
  rintro e w4 ⟨rfl, j, hw4⟩
  have e4 : Ext w3 w4 := by rw [hw4]; exact (Ext.refl w3).drewN j
  have r0 := e4.cell rr0
  have r1 := e4.cell rr1
  have f0 := e4.frozen (lt_of_cell rr0) ff0
  have f1 := e4.frozen (lt_of_cell rr1) ff1
  replace eW := eW.trans e4
  clear hw4 hbl rr0 rr1 ff0 ff1 e4
  by_cases hc : cmpZ n n' < 0
  · have hD' := fun h0 => hD n' n h0 (.inr ⟨rfl, rfl⟩)
    have HDD := Lib.hid hD'
    clear hD hD'
    have hD' := HDD.out
    clear HDD
    rcases Nat.eq_zero_or_pos n with h0 | h0
    · have HG : Hid ((n' : Nat) = Nat.gcd n n') := by unfold Hid; subst h0; simp
      have hl0 : (limbs n).length = 0 := by rw [h0]; rfl
      clear h0
      go_wp2_with fail
      refine wp_loop_rounds 1 ?_
      rw [rounds_succ]
      go_wp2_with fail
      refine (clone_calls w4 ao' (limbs n') cap' (by have := HL.out; omega) (k3.ext eW) k1).mono ?_
      rintro e w3 ⟨a3, c3, rfl, x1, x2, e3, x3⟩
      have x4 := Cloned.cells x3
      clear x3
      go_wp2_with fail
      refine (signedL_calls _ _ _ _ _ x1 x2 x4).mono ?_
      rintro e w4 ⟨v4, rfl, hI, e4⟩
      have hI2 : IsInt w4 v4 ((Nat.gcd n n' : Nat) : Int) := by rw [← HG.out]; exact hI
      clear hI
      obtain ⟨ao4, cap4, s4, n4, rfl, _⟩ := hI2.open_
      have eA := e3.trans e4
      have r02 := eA.cell r0
      have r12 := eA.cell r1
      have f02 := eA.frozen (lt_of_cell r0) f0
      have f12 := eA.frozen (lt_of_cell r1) f1
      clear r0 r1 f0 f1
      go_wp2
      exact bodyPost_ret (v := .agg #[.bool s4, .slice ao4 (limbs n4).length cap4]) (by simp [results, Try.results36, go_sem, r02, r12]) rfl (fin_int hI2 r02 r12 (by omega) (eW.trans eA))
    · have hyb : n < 1000000000000000000 := by have := lt_of_limbs_len (n := n) (k := 2) (by have := HL.out; omega); omega
      have hrb := Nat.mod_lt n' h0
      have hdiv := hD' h0 w4 ao' ao cap' cap k1 h1 k2 h2 (k3.ext eW) (h3.ext eW)
      have HDIV := Lib.hid hdiv
      have hlp := limbs_pos h0
      have hl0 : (((limbs n).length : Int) == 0) = false := by rw [beq_eq_false_iff_ne]; omega
      have hl2 : decide ((2 : Int) < ((limbs n).length : Int)) = false := decide_eq_false (by have := HL.out; omega)
      have HG : Hid (Nat.gcd n (n' % n) = Nat.gcd n n' ∧ n ≤ 18446744073709551615 ∧ n' % n ≤ 18446744073709551615 ∧ Nat.gcd n (n' % n) ≤ 18446744073709551615) := by
        have e : Nat.gcd n (n' % n) = Nat.gcd n n' := by rw [Nat.gcd_comm, ← Nat.gcd_rec]
        have hle : Nat.gcd n (n' % n) ≤ n := Nat.gcd_le_left _ h0
        exact ⟨e.trans (by first | rfl | exact Nat.gcd_comm _ _), by omega, by omega, by omega⟩
      clear hyb hrb hlp h0 hdiv
      go_wp2_with fail
      refine wp_loop_rounds 1 ?_
      rw [rounds_succ]
      go_wp2_with fail
      refine HDIV.out.mono ?_
      rintro e w3 ⟨u1, u2, rfl, ⟨aq, cq, rfl, m1, m2, m3⟩, ⟨ar, cr, rfl, p1, p2, p3⟩, e3⟩
      have hvy := Lib.hid (valueOf_calls w3 ao (limbs n) cap h1 h2 (h3.ext (eW.trans e3)) (by rw [val_limbs]; exact HG.out.2.1))
      have hvr := Lib.hid (valueOf_calls w3 ar (limbs (n' % n)) cr p1 p2 p3 (by rw [val_limbs]; exact HG.out.2.2.1))
      rw [val_limbs] at hvy hvr
      clear HDIV
      go_wp2_with fail
      refine hvy.out.mono ?_
      rintro e w' ⟨rfl, rfl⟩
      go_wp2_with fail
      refine hvr.out.mono ?_
      rintro e w' ⟨rfl, rfl⟩
      have hgs := Lib.hid (gcdSmall_calls w3 n (n' % n) HG.out.2.1 HG.out.2.2.1)
      rw [HG.out.1] at hgs
      obtain ⟨rr, hrr⟩ : ∃ rr, rr = n' % n := ⟨_, rfl⟩
      obtain ⟨gg, hgg⟩ : ∃ gg, gg = Nat.gcd n n' := ⟨_, rfl⟩
      have HGG := Lib.hid (show gg ≤ 18446744073709551615 by rw [hgg, ← HG.out.1]; exact HG.out.2.2.2)
      rw [← hrr, ← hgg] at hgs
      have HQ := Lib.hid hgg
      have HRR := Lib.hid hrr
      clear hgg
      rw [← HRR.out]
      clear hrr
      go_wp2_with fail
      refine hgs.out.mono ?_
      rintro e w4 ⟨rfl, e4⟩
      go_wp2_with fail
      refine (limbsOf_calls _ gg HGG.out).mono ?_
      rintro e w5 ⟨v5, rfl, ⟨a5, c5, rfl, x1, x2, x3⟩, e5⟩
      go_wp2_with fail
      refine (signedL_calls _ _ _ _ _ x1 x2 x3).mono ?_
      rintro e w6 ⟨v6, rfl, hI, e6⟩
      have hI2 : IsInt w6 v6 ((Nat.gcd n n' : Nat) : Int) := by rw [← HQ.out]; exact hI
      clear hI
      obtain ⟨ao4, cap4, s4, n4, rfl, _⟩ := hI2.open_
      have eA := ((e3.trans e4).trans e5).trans e6
      have r02 := eA.cell r0
      have r12 := eA.cell r1
      have f02 := eA.frozen (lt_of_cell r0) f0
      have f12 := eA.frozen (lt_of_cell r1) f1
      clear r0 r1 f0 f1
      go_wp2
      exact bodyPost_ret (v := .agg #[.bool s4, .slice ao4 (limbs n4).length cap4]) (by simp [results, Try.results36, go_sem, r02, r12]) rfl (fin_int hI2 r02 r12 (by omega) (eW.trans eA))
  · have hD' := fun h0 => hD n n' h0 (.inl ⟨rfl, rfl⟩)
    clear hD
    replace hc : (0 : Int) ≤ cmpZ n n' := by omega
    rcases Nat.eq_zero_or_pos n' with h0 | h0
    · have HG : Hid ((n : Nat) = Nat.gcd n n') := by unfold Hid; subst h0; simp
      have hl0 : (limbs n').length = 0 := by rw [h0]; rfl
      clear h0
      go_wp2_with fail
      refine wp_loop_rounds 1 ?_
      rw [rounds_succ]
      go_wp2_with fail
      refine (clone_calls w4 ao (limbs n) cap (by have := HL.out; omega) (h3.ext eW) h1).mono ?_
      rintro e w3 ⟨a3, c3, rfl, x1, x2, e3, x3⟩
      have x4 := Cloned.cells x3
      clear x3
      go_wp2_with fail
      refine (signedL_calls _ _ _ _ _ x1 x2 x4).mono ?_
      rintro e w4 ⟨v4, rfl, hI, e4⟩
      have hI2 : IsInt w4 v4 ((Nat.gcd n n' : Nat) : Int) := by rw [← HG.out]; exact hI
      clear hI
      obtain ⟨ao4, cap4, s4, n4, rfl, _⟩ := hI2.open_
      have eA := e3.trans e4
      have r02 := eA.cell r0
      have r12 := eA.cell r1
      have f02 := eA.frozen (lt_of_cell r0) f0
      have f12 := eA.frozen (lt_of_cell r1) f1
      clear r0 r1 f0 f1
      go_wp2
      exact bodyPost_ret (v := .agg #[.bool s4, .slice ao4 (limbs n4).length cap4]) (by simp [results, Try.results36, go_sem, r02, r12]) rfl (fin_int hI2 r02 r12 (by omega) (eW.trans eA))
    · have hyb : n' < 1000000000000000000 := by have := lt_of_limbs_len (n := n') (k := 2) (by have := HL.out; omega); omega
      have hrb := Nat.mod_lt n h0
      have hdiv := hD' h0 w4 ao ao' cap cap' h1 k1 h2 k2 (h3.ext eW) (k3.ext eW)
      have HDIV := Lib.hid hdiv
      have hlp := limbs_pos h0
      have hl0 : (((limbs n').length : Int) == 0) = false := by rw [beq_eq_false_iff_ne]; omega
      have hl2 : decide ((2 : Int) < ((limbs n').length : Int)) = false := decide_eq_false (by have := HL.out; omega)
      have HG : Hid (Nat.gcd n' (n % n') = Nat.gcd n n' ∧ n' ≤ 18446744073709551615 ∧ n % n' ≤ 18446744073709551615 ∧ Nat.gcd n' (n % n') ≤ 18446744073709551615) := by
        have e : Nat.gcd n' (n % n') = Nat.gcd n' n := by rw [Nat.gcd_comm, ← Nat.gcd_rec]
        have hle : Nat.gcd n' (n % n') ≤ n' := Nat.gcd_le_left _ h0
        exact ⟨e.trans (by first | rfl | exact Nat.gcd_comm _ _), by omega, by omega, by omega⟩
      clear hyb hrb hlp h0 hdiv
      go_wp2_with fail
      refine wp_loop_rounds 1 ?_
      rw [rounds_succ]
      go_wp2_with fail
      refine HDIV.out.mono ?_
      rintro e w3 ⟨u1, u2, rfl, ⟨aq, cq, rfl, m1, m2, m3⟩, ⟨ar, cr, rfl, p1, p2, p3⟩, e3⟩
      have hvy := Lib.hid (valueOf_calls w3 ao' (limbs n') cap' k1 k2 (k3.ext (eW.trans e3)) (by rw [val_limbs]; exact HG.out.2.1))
      have hvr := Lib.hid (valueOf_calls w3 ar (limbs (n % n')) cr p1 p2 p3 (by rw [val_limbs]; exact HG.out.2.2.1))
      rw [val_limbs] at hvy hvr
      clear HDIV
      go_wp2_with fail
      refine hvy.out.mono ?_
      rintro e w' ⟨rfl, rfl⟩
      go_wp2_with fail
      refine hvr.out.mono ?_
      rintro e w' ⟨rfl, rfl⟩
      have hgs := Lib.hid (gcdSmall_calls w3 n' (n % n') HG.out.2.1 HG.out.2.2.1)
      rw [HG.out.1] at hgs
      obtain ⟨rr, hrr⟩ : ∃ rr, rr = n % n' := ⟨_, rfl⟩
      obtain ⟨gg, hgg⟩ : ∃ gg, gg = Nat.gcd n n' := ⟨_, rfl⟩
      have HGG := Lib.hid (show gg ≤ 18446744073709551615 by rw [hgg, ← HG.out.1]; exact HG.out.2.2.2)
      rw [← hrr, ← hgg] at hgs
      have HQ := Lib.hid hgg
      have HRR := Lib.hid hrr
      clear hgg
      rw [← HRR.out]
      clear hrr
      go_wp2_with fail
      refine hgs.out.mono ?_
      rintro e w4 ⟨rfl, e4⟩
      go_wp2_with fail
      refine (limbsOf_calls _ gg HGG.out).mono ?_
      rintro e w5 ⟨v5, rfl, ⟨a5, c5, rfl, x1, x2, x3⟩, e5⟩
      go_wp2_with fail
      refine (signedL_calls _ _ _ _ _ x1 x2 x3).mono ?_
      rintro e w6 ⟨v6, rfl, hI, e6⟩
      have hI2 : IsInt w6 v6 ((Nat.gcd n n' : Nat) : Int) := by rw [← HQ.out]; exact hI
      clear hI
      obtain ⟨ao4, cap4, s4, n4, rfl, _⟩ := hI2.open_
      have eA := ((e3.trans e4).trans e5).trans e6
      have r02 := eA.cell r0
      have r12 := eA.cell r1
      have f02 := eA.frozen (lt_of_cell r0) f0
      have f12 := eA.frozen (lt_of_cell r1) f1
      clear r0 r1 f0 f1
      go_wp2
      exact bodyPost_ret (v := .agg #[.bool s4, .slice ao4 (limbs n4).length cap4]) (by simp [results, Try.results36, go_sem, r02, r12]) rfl (fin_int hI2 r02 r12 (by omega) (eW.trans eA))

end Go.Proofs.Ytfjaboolfjgleaa
