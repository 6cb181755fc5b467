/-
  GCD of any two integers.
-/
import Derived.Test.YtfjaboolfjgleaaReduce
import Derived.Test.YtfjaboolfjgleaaGcds
import Derived.Deep.LoopGhost
namespace Go.Proofs.Ytfjaboolfjgleaa
open Go.RowKit

/-- What the loop of GCD keeps: two numbers with this greatest common divisor. -/
def GcdRel (w0 : World) (G M n : Nat) (x y : Value) (wr : World) : Prop :=
  ∃ m ax cx ay cy, x = .slice ax (limbs m).length cx ∧ y = .slice ay (limbs n).length cy ∧ Hid (Nat.gcd m n = G ∧ n ≤ m ∧ m ≤ M ∧ (limbs m).length ≤ cx ∧ (limbs n).length ≤ cy ∧ cx ≤ 9223372036854775807 ∧ cy ≤ 9223372036854775807) ∧
    Cells wr ax (limbs m) ∧ Cells wr ay (limbs n) ∧ Ext w0 wr

set_option maxRecDepth 100000 in
set_option maxHeartbeats 6400000 in
theorem gcd_calls (w : World) (v1 v2 : Value) (z1 z2 : Int) (h : IsInt w v1 z1) (k : IsInt w v2 z2) (l1 : Sm z1) (l2 : Sm z2) :
    Calls Try.prog 36 #[v1, v2] w (Ret (fun v w' => IsInt w' v ((Nat.gcd z1.natAbs z2.natAbs : Nat) : Int)) w) := by
  obtain ⟨ao, cap, s, n, rfl, h1, h2, h3, H4, H5, H6⟩ := h.open_
  obtain ⟨ao', cap', s', n', rfl, k1, k2, k3, K4, K5, K6⟩ := k.open_
  unfold Sm at l1 l2
  rw [← H4.out] at l1
  rw [← K4.out] at l2
  rw [← H4.out, ← K4.out]
  obtain ⟨G, hG⟩ : ∃ G, G = Nat.gcd n n' := ⟨_, rfl⟩
  rw [← hG]
  have HGe := Lib.hid hG
  clear hG
  have HL := Lib.hid (And.intro l1 l2)
  obtain ⟨W, hW, eW, c0, c1, d0, d1, r0, r1, f0, f1⟩ := boxes2r w (.bool s) (.slice ao (limbs n).length cap) (.bool s') (.slice ao' (limbs n').length cap') 24
  have HVA := Lib.hid (isInt_raw h1 h2 h3 H6.out)
  have HVB := Lib.hid (isInt_raw k1 k2 k3 K6.out)
  clear H5 K5 h k
  go_enter Try.func36, Try.ntmps36
  go_wp2_with fail
  clear hW
  refine (valid_calls W _ s (limbs n) (HVA.out.1.ext eW)).mono ?_
  rintro e w1 ⟨rfl, e1⟩
  rw [HVA.out.2]
  replace c0 := e1.cell c0
  replace c1 := e1.cell c1
  replace d0 := e1.cell d0
  replace d1 := e1.cell d1
  go_wp2_with fail
  refine (valid_calls w1 _ s' (limbs n') (HVB.out.1.ext (eW.trans e1))).mono ?_
  rintro e w2 ⟨rfl, e2⟩
  rw [HVB.out.2]
  have eA := e1.trans e2
  replace c0 := e2.cell c0
  replace c1 := e2.cell c1
  replace d0 := e2.cell d0
  replace d1 := e2.cell d1
  replace f0 := eA.frozen (lt_of_cell r0) f0
  replace f1 := eA.frozen (lt_of_cell r1) f1
  replace r0 := eA.cell r0
  replace r1 := eA.cell r1
  replace eW := eW.trans eA
  clear HVA HVB e1 e2 eA
  go_wp2_with fail
  go_quiet (fail)
  clear c0 c1 d0 d1
  replace eW := eW.drewN nq
  have rr0 : (w2.drewN nq).cell? ⟨w.heap.size + 2, 0, none⟩ = some (.bool false) := r0
  have rr1 : (w2.drewN nq).cell? ⟨w.heap.size + 2, 1, none⟩ = some (.slice none 0 0) := r1
  have ff0 : (w2.drewN nq).frozen? ⟨w.heap.size + 2, 0, none⟩ = false := f0
  have ff1 : (w2.drewN nq).frozen? ⟨w.heap.size + 2, 1, none⟩ = false := f1
  clear r0 r1 f0 f1
  generalize w2.drewN nq = w3 at *
  have hbl := Lib.hid (show (limbs n).length ≤ 9223372036854775807 ∧ (limbs n').length ≤ 9223372036854775807 by omega)
  clear l1 l2
  go_wp2_with fail
  refine (compareLimbs_calls _ _ _ n n' _ _ hbl.out.1 hbl.out.2 (h3.ext eW) (k3.ext eW)).mono ?_
  rintro e w4 ⟨rfl, j, hw4⟩
  have e4 : Ext w3 w4 := by rw [hw4]; exact (Ext.refl w3).drewN j
  have r0 := e4.cell rr0
  have r1 := e4.cell rr1
  have f0 := e4.frozen (lt_of_cell rr0) ff0
  have f1 := e4.frozen (lt_of_cell rr1) ff1
  replace eW := eW.trans e4
  clear hw4 hbl rr0 rr1 ff0 ff1 e4
  have hcz := cmpZ_cases (n : Int) (n' : Int)
  have GR : Hid ((0 ≤ cmpZ n n' → GcdRel w4 G (max n n') n' (.slice ao (limbs n).length cap) (.slice ao' (limbs n').length cap') w4) ∧
      (cmpZ n n' < 0 → GcdRel w4 G (max n n') n (.slice ao' (limbs n').length cap') (.slice ao (limbs n).length cap) w4)) := by
    refine ⟨fun hc => ⟨n, ao, cap, ao', cap', rfl, rfl, ⟨HGe.out.symm, by omega, by omega, h1, k1, h2, k2⟩, h3.ext eW, k3.ext eW, Ext.refl _⟩, fun hc => ⟨n', ao', cap', ao, cap, rfl, rfl, ⟨by rw [HGe.out]; exact Nat.gcd_comm _ _, by omega, by omega, k1, h1, k2, h2⟩, k3.ext eW, h3.ext eW, Ext.refl _⟩⟩
  have HM : Hid ((limbs (max n n')).length ≤ 1048576) := by
    unfold Hid
    rcases Nat.le_total n n' with hle | hle
    · rw [Nat.max_eq_right hle]; exact HL.out.2
    · rw [Nat.max_eq_left hle]; exact HL.out.1
  generalize max n n' = M at *
  clear HL H4 H6 K4 K6 HGe
  go_upto_if 25 with fail
  go_cut [5, 6] (fun x y wx => ∃ k, GcdRel w4 G M k x y wx)
  case first =>
    by_cases hc : cmpZ n n' < 0
    · have HR := Lib.hid (GR.out.2 hc)
      clear GR hcz
      go_wp2_with fail
      go_meet
      exact ⟨_, HR.out⟩
    · replace hc : (0 : Int) ≤ cmpZ n n' := by omega
      have HR := Lib.hid (GR.out.1 hc)
      clear GR hcz
      go_wp2_with fail
      go_meet
      exact ⟨_, HR.out⟩
  case rest =>
    clear GR hcz h3 k3 h1 k1 h2 k2
    have RR := Lib.hid (And.intro r0 r1)
    obtain ⟨k0, hcut⟩ := hcut
    have HC := Lib.hid hcut
    clear hcut
    go_wp2_with fail
    go_loopg [5, 6] k0 (fun k x y wr => GcdRel w4 G M k x y wr)
    case atStart => exact HC.out
    case round =>
      obtain ⟨m, ax, cx, ay, cy, rfl, rfl, H, hx, hy, hE⟩ := hrel
      clear HC
      have HX := Lib.hid (And.intro hx hy)
      have hlm : (limbs m).length ≤ 1048576 := Nat.le_trans (limbs_len_mono H.out.2.2.1) HM.out
      clear hx hy
      by_cases hl : 2 < (limbs gk).length
      · have hred := reduce_calls wr ax ay m gk cx cy hlm hl H.out.2.1 H.out.2.2.2.1 H.out.2.2.2.2.1 H.out.2.2.2.2.2.1 H.out.2.2.2.2.2.2 HX.out.1 HX.out.2
        have HRED := Lib.hid hred
        have hlI : (2 : Int) < ((limbs gk).length : Int) := by omega
        clear hred hl hlm
        go_wp2_with fail
        refine HRED.out.mono ?_
        rintro e w5 ⟨v1, v2, m', n1, rfl, ⟨a1, c1, rfl, p1, p2, p3⟩, ⟨a2, c2, rfl, q1, q2, q3⟩, hg, e5⟩
        have HG := Lib.hid hg
        have HP := Lib.hid (And.intro p1 (And.intro p2 (And.intro q1 q2)))
        clear hg p1 p2 q1 q2
        go_wp2_with fail
        go_roundg n1
        case measure => exact HG.out.2.1
        case rel => exact ⟨m', a1, c1, a2, c2, rfl, rfl, ⟨HG.out.1.trans H.out.1, HG.out.2.2.1, Nat.le_trans HG.out.2.2.2 H.out.2.2.1, HP.out.1, HP.out.2.2.1, HP.out.2.1, HP.out.2.2.2⟩, p3, q3, hE.trans e5⟩
      · replace eW := eW.trans hE
        replace r0 := hE.cell r0
        replace r1 := hE.cell r1
        replace f0 := hE.frozen (p := ⟨w.heap.size + 2, 0, none⟩) (lt_of_cell RR.out.1) f0
        replace f1 := hE.frozen (p := ⟨w.heap.size + 2, 1, none⟩) (lt_of_cell RR.out.2) f1
        have hlI : ((limbs gk).length : Int) ≤ 2 := by omega
        rcases Nat.eq_zero_or_pos gk with h0 | h0
        · have HG : Hid (m = G) := by have := H.out.1; rw [h0, Nat.gcd_zero_right] at this; exact this
          have hl0 : (limbs gk).length = 0 := by rw [h0]; rfl
          have hcl := clone_calls wr ax (limbs m) cx (by omega) HX.out.1 H.out.2.2.2.1
          have HCL := Lib.hid hcl
          clear h0 hl hcl hlm
          go_wp2_with fail
          refine HCL.out.mono ?_
          rintro e w5 ⟨a3, c3, rfl, x1, x2, e3, x3⟩
          have x4 := Cloned.cells x3
          clear x3
          go_wp2_with fail
          refine (signedL_calls _ _ _ _ _ x1 x2 x4).mono ?_
          rintro e w6 ⟨v4, rfl, hI, e4⟩
          have hI2 : IsInt w6 v4 ((G : Nat) : Int) := by rw [← HG.out]; exact hI
          clear hI
          obtain ⟨ao4, cap4, s4, n4, rfl, _⟩ := hI2.open_
          have eA := e3.trans e4
          have r02 := eA.cell r0
          have r12 := eA.cell r1
          have f02 := eA.frozen (lt_of_cell r0) f0
          have f12 := eA.frozen (lt_of_cell r1) f1
          clear r0 r1 f0 f1
          go_wp2
          exact bodyPost_ret (v := .agg #[.bool s4, .slice ao4 (limbs n4).length cap4]) (by simp [results, Try.results36, go_sem, r02, r12]) rfl (fin_int hI2 r02 r12 (by omega) (eW.trans eA))
        · have hyb : gk < 1000000000000000000 := by have := lt_of_limbs_len (n := gk) (k := 2) (by omega); omega
          have hrb := Nat.mod_lt m h0
          have hdiv := divOK m gk hlm h0 wr ax ay cx cy H.out.2.2.2.1 H.out.2.2.2.2.1 H.out.2.2.2.2.2.1 H.out.2.2.2.2.2.2 HX.out.1 HX.out.2
          have HDIV := Lib.hid hdiv
          have hlp := limbs_pos h0
          have hl0 : (((limbs gk).length : Int) == 0) = false := by rw [beq_eq_false_iff_ne]; omega
          have HG : Hid (Nat.gcd gk (m % gk) = G ∧ gk ≤ 18446744073709551615 ∧ m % gk ≤ 18446744073709551615 ∧ Nat.gcd gk (m % gk) ≤ 18446744073709551615) := by
            have e : Nat.gcd gk (m % gk) = Nat.gcd m gk := by rw [Nat.gcd_comm, ← Nat.gcd_rec, Nat.gcd_comm]
            have hle : Nat.gcd gk (m % gk) ≤ gk := Nat.gcd_le_left _ h0
            exact ⟨e.trans H.out.1, by omega, by omega, by omega⟩
          clear hyb hrb hlp h0 hdiv hl hlm
          go_wp2_with fail
          refine HDIV.out.mono ?_
          rintro e w3 ⟨u1, u2, rfl, ⟨aq, cq, rfl, m1, m2, m3⟩, ⟨ar, cr, rfl, p1, p2, p3⟩, e3⟩
          have hvy := Lib.hid (valueOf_calls w3 ay (limbs gk) cy H.out.2.2.2.2.1 H.out.2.2.2.2.2.2 (HX.out.2.ext e3) (by rw [val_limbs]; exact HG.out.2.1))
          have hvr := Lib.hid (valueOf_calls w3 ar (limbs (m % gk)) cr p1 p2 p3 (by rw [val_limbs]; exact HG.out.2.2.1))
          rw [val_limbs] at hvy hvr
          clear HDIV
          go_wp2_with fail
          refine hvy.out.mono ?_
          rintro e w' ⟨rfl, rfl⟩
          go_wp2_with fail
          refine hvr.out.mono ?_
          rintro e w' ⟨rfl, rfl⟩
          have hgs := Lib.hid (gcdSmall_calls w3 gk (m % gk) HG.out.2.1 HG.out.2.2.1)
          rw [HG.out.1] at hgs
          obtain ⟨rr, hrr⟩ : ∃ rr, rr = m % gk := ⟨_, rfl⟩
          have HGG := Lib.hid (show G ≤ 18446744073709551615 by rw [← HG.out.1]; exact HG.out.2.2.2)
          rw [← hrr] at hgs
          have HRR := Lib.hid hrr
          rw [← HRR.out]
          clear hrr
          go_wp2_with fail
          refine hgs.out.mono ?_
          rintro e w5 ⟨rfl, e4⟩
          go_wp2_with fail
          refine (limbsOf_calls _ G HGG.out).mono ?_
          rintro e w6 ⟨v5, rfl, ⟨a5, c5, rfl, x1, x2, x3⟩, e5⟩
          go_wp2_with fail
          refine (signedL_calls _ _ _ _ _ x1 x2 x3).mono ?_
          rintro e w7 ⟨v6, rfl, hI2, e6⟩
          obtain ⟨ao4, cap4, s4, n4, rfl, _⟩ := IsInt.open_ hI2
          have eA := ((e3.trans e4).trans e5).trans e6
          have r02 := eA.cell r0
          have r12 := eA.cell r1
          have f02 := eA.frozen (lt_of_cell r0) f0
          have f12 := eA.frozen (lt_of_cell r1) f1
          clear r0 r1 f0 f1
          go_wp2
          exact bodyPost_ret (v := .agg #[.bool s4, .slice ao4 (limbs n4).length cap4]) (by simp [results, Try.results36, go_sem, r02, r12]) rfl (fin_int hI2 r02 r12 (by omega) (eW.trans eA))

end Go.Proofs.Ytfjaboolfjgleaa
