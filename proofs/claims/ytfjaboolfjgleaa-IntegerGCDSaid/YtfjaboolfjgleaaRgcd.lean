/-
  GCD of the reference.
-/
import Derived.Test.YtfjaboolfjgleaaRparts
import Derived.Test.YtfjaboolfjgleaaLim
import Derived.Test.YtfjaboolfjgleaaGcds
import Derived.Deep.LoopGhost
namespace Go.Proofs.Ytfjaboolfjgleaa
open Go.RowKit

theorem partsOK (m n : Nat) (lx : (limbs m).length ≤ 1048576) (ly : (limbs n).length ≤ 1048576) (hn : 0 < n) : PartsOK m n := by
  by_cases h : (limbs m).length ≤ 2 ∧ (limbs n).length ≤ 2
  · exact partsOK_small m n h.1 h.2 (by omega)
  · exact partsOK_long m n lx ly hn (by omega)

/-- What the loop of the reference's GCD keeps. -/
def RGcdRel (w0 : World) (G n : Nat) (x y : Value) (wr : World) : Prop :=
  ∃ m ax cx ay cy, x = .slice ax (limbs m).length cx ∧ y = .slice ay (limbs n).length cy ∧ Hid (Nat.gcd m n = G ∧ (limbs m).length ≤ 1048576 ∧ (limbs n).length ≤ 1048576 ∧ (limbs m).length ≤ cx ∧ (limbs n).length ≤ cy ∧ cx ≤ 9223372036854775807 ∧ cy ≤ 9223372036854775807) ∧
    Cells wr ax (limbs m) ∧ Cells wr ay (limbs n) ∧ Ext w0 wr

set_option maxRecDepth 100000 in
set_option maxHeartbeats 6400000 in
theorem rgcd_calls (w : World) (v1 v2 : Value) (z1 z2 : Int) (h : IsInt w v1 z1) (k : IsInt w v2 z2) (l1 : Sm z1) (l2 : Sm z2) :
    Calls Try.prog 37 #[v1, v2] w (Ret (fun v w' => IsInt w' v ((Nat.gcd z1.natAbs z2.natAbs : Nat) : Int)) w) := by
  obtain ⟨ao, cap, s, n, rfl, h1, h2, h3, H4, H5, H6⟩ := h.open_
  obtain ⟨ao', cap', s', n', rfl, k1, k2, k3, K4, K5, K6⟩ := k.open_
  unfold Sm at l1 l2
  rw [← H4.out] at l1
  rw [← K4.out] at l2
  rw [← H4.out, ← K4.out]
  obtain ⟨G, hG⟩ : ∃ G, G = Nat.gcd n n' := ⟨_, rfl⟩
  rw [← hG]
  obtain ⟨W, hW, eW, c0, c1, d0, d1, r0, r1, f0, f1⟩ := boxes2r w (.bool s) (.slice ao (limbs n).length cap) (.bool s') (.slice ao' (limbs n').length cap') 24
  have hd0 : RGcdRel W G n' (.slice ao (limbs n).length cap) (.slice ao' (limbs n').length cap') W := ⟨n, ao, cap, ao', cap', rfl, rfl, ⟨hG.symm, l1, l2, h1, k1, h2, k2⟩, h3.ext eW, k3.ext eW, Ext.refl _⟩
  have HD0 := Lib.hid hd0
  have RR := Lib.hid (And.intro r0 r1)
  clear H5 K5 h k H4 H6 K4 K6 hG hd0 h1 h2 h3 k1 k2 k3 l1 l2
  go_enter Try.func37, Try.ntmps37
  go_wp2_with fail
  clear hW
  go_quiet (fail)
  have hEq : Ext W (W.drewN nq) := (Ext.refl W).drewN nq
  have HD : Hid (RGcdRel W G n' (.slice ao (limbs n).length cap) (.slice ao' (limbs n').length cap') (W.drewN nq)) := by
    obtain ⟨m, ax, cx, ay, cy, e1, e2, e3, e4, e5, e6⟩ := HD0.out
    exact ⟨m, ax, cx, ay, cy, e1, e2, e3, e4.ext hEq, e5.ext hEq, e6.trans hEq⟩
  clear HD0 hEq c0 c1 d0 d1
  go_wp2_with fail
  go_loopg [5, 6, 7, 8] n' (fun k x y _ _ wr => RGcdRel W G k x y wr)
  case atStart => exact HD.out
  case round =>
    obtain ⟨m, ax, cx, ay, cy, rfl, rfl, H, hx, hy, hE⟩ := hrel
    clear HD
    have HX := Lib.hid (And.intro hx hy)
    clear hx hy
    rcases Nat.eq_zero_or_pos gk with h0 | h0
    · have HG : Hid (m = G) := by have := H.out.1; rw [h0, Nat.gcd_zero_right] at this; exact this
      have hl0 : (limbs gk).length = 0 := by rw [h0]; rfl
      have hsg := rsignedL_calls wr false ax m cx H.out.2.2.2.1 H.out.2.2.2.2.2.1 HX.out.1
      have HSG := Lib.hid hsg
      clear h0 hsg
      go_wp2_with fail
      refine HSG.out.mono ?_
      rintro e w6 ⟨v4, rfl, hI, e4⟩
      have hI2 : IsInt w6 v4 ((G : Nat) : Int) := by rw [← HG.out]; exact hI
      have eA := hE.trans e4
      clear hI
      obtain ⟨ao4, cap4, s4, n4, rfl, _⟩ := IsInt.open_ hI2
      have r02 := eA.cell r0
      have r12 := eA.cell r1
      have f02 := eA.frozen (lt_of_cell r0) f0
      have f12 := eA.frozen (lt_of_cell r1) f1
      clear r0 r1 f0 f1
      go_wp2
      exact bodyPost_ret (v := .agg #[.bool s4, .slice ao4 (limbs n4).length cap4]) (by simp [results, Try.results37, go_sem, r02, r12]) rfl (fin_int hI2 r02 r12 (by omega) (eW.trans eA))
    · by_cases hbig : 2 < (limbs m).length ∨ 2 < (limbs gk).length
      · skip
        have hpar := partsOK m gk H.out.2.1 H.out.2.2.1 h0 wr ax ay cx cy H.out.2.2.2.1 H.out.2.2.2.2.1 H.out.2.2.2.2.2.1 H.out.2.2.2.2.2.2 HX.out.1 HX.out.2
        have HPAR := Lib.hid hpar
        have HN := Lib.hid h0
        have hp0 : 0 < (limbs gk).length := limbs_pos h0
        clear hpar h0
        by_cases hm : 2 < (limbs m).length
        · have hp1 : decide ((2 : Int) < ((limbs m).length : Int)) = true := decide_eq_true (by omega)
          clear hm hbig
          go_wp2_with fail
          refine HPAR.out.mono ?_
          rintro e w5 ⟨v1, v2, rfl, _, ⟨a2, c2, rfl, q1, q2, q3⟩, e5⟩
          have HP := Lib.hid (And.intro q1 (And.intro q2 q3))
          clear q1 q2 q3
          go_wp2_with fail
          go_roundg (m % gk)
          case measure => exact Nat.mod_lt _ HN.out
          case rel => exact ⟨gk, ay, cy, a2, c2, rfl, rfl, ⟨by rw [← H.out.1, Nat.gcd_comm gk, ← Nat.gcd_rec, Nat.gcd_comm], H.out.2.2.1, Nat.le_trans (limbs_len_mono (Nat.le_of_lt (Nat.mod_lt _ HN.out))) H.out.2.2.1, H.out.2.2.2.2.1, HP.out.1, H.out.2.2.2.2.2.2, HP.out.2.1⟩, HX.out.2.ext e5, HP.out.2.2, hE.trans e5⟩
        · have hp1 : decide ((2 : Int) < ((limbs m).length : Int)) = false := decide_eq_false (by omega)
          have hp2 : decide ((2 : Int) < ((limbs gk).length : Int)) = true := decide_eq_true (by omega)
          clear hm hbig
          go_wp2_with fail
          refine HPAR.out.mono ?_
          rintro e w5 ⟨v1, v2, rfl, _, ⟨a2, c2, rfl, q1, q2, q3⟩, e5⟩
          have HP := Lib.hid (And.intro q1 (And.intro q2 q3))
          clear q1 q2 q3
          go_wp2_with fail
          go_roundg (m % gk)
          case measure => exact Nat.mod_lt _ HN.out
          case rel => exact ⟨gk, ay, cy, a2, c2, rfl, rfl, ⟨by rw [← H.out.1, Nat.gcd_comm gk, ← Nat.gcd_rec, Nat.gcd_comm], H.out.2.2.1, Nat.le_trans (limbs_len_mono (Nat.le_of_lt (Nat.mod_lt _ HN.out))) H.out.2.2.1, H.out.2.2.2.2.1, HP.out.1, H.out.2.2.2.2.2.2, HP.out.2.1⟩, HX.out.2.ext e5, HP.out.2.2, hE.trans e5⟩
      · skip
        have hm1 : m < 1000000000000000000 := by have := lt_of_limbs_len (n := m) (k := 2) (by omega); omega
        have hg1 : gk < 1000000000000000000 := by have := lt_of_limbs_len (n := gk) (k := 2) (by omega); omega
        have hvx := short_calls wr ax (limbs m) cx H.out.2.2.2.1 H.out.2.2.2.2.2.1 HX.out.1 (by rw [val_limbs]; omega)
        have hvy := short_calls wr ay (limbs gk) cy H.out.2.2.2.2.1 H.out.2.2.2.2.2.2 HX.out.2 (by rw [val_limbs]; omega)
        rw [val_limbs] at hvx hvy
        have HVX := Lib.hid hvx
        have HVY := Lib.hid hvy
        have hp0 : 0 < (limbs gk).length := limbs_pos h0
        have hp1 : decide ((2 : Int) < ((limbs m).length : Int)) = false := decide_eq_false (by omega)
        have hp2 : decide ((2 : Int) < ((limbs gk).length : Int)) = false := decide_eq_false (by omega)
        have hp3 : (((limbs gk).length : Int) == 0) = false := by have := limbs_pos h0; rw [beq_eq_false_iff_ne]; omega
        have HB := Lib.hid (And.intro (show m ≤ 18446744073709551615 by omega) (show gk ≤ 18446744073709551615 by omega))
        have HGl := Lib.hid (show G ≤ 18446744073709551615 by rw [← H.out.1]; have := Nat.gcd_le_right m h0; omega)
        clear hm1 hg1 hvx hvy h0 hbig
        go_wp2_with fail
        refine HVX.out.mono ?_
        rintro e w' ⟨rfl, rfl⟩
        go_wp2_with fail
        refine HVY.out.mono ?_
        rintro e w' ⟨rfl, rfl⟩
        clear hp0 hp1 hp2 hp3
        go_wp2_with fail
        obtain ⟨wo, hwo⟩ : ∃ wo : World, wo = wr := ⟨_, rfl⟩
        subst hwo
        go_loopw [9, 10] (fun x y wr => ∃ a b : Nat, x = .int .u64 a ∧ y = .int .u64 b ∧ Hid (a ≤ 18446744073709551615 ∧ b ≤ 18446744073709551615) ∧ Hid (Nat.gcd a b = G) ∧ Ext wo wr) (fun _ y _ => (intOf y).toNat)
        case atStart => exact ⟨m, gk, rfl, rfl, HB, H.out.1, Ext.refl _⟩
        case round =>
          obtain ⟨a, b, rfl, rfl, HAB, HG2, hE2⟩ := hrel
          rcases Nat.eq_zero_or_pos b with h0 | h0
          · have HG3 : Hid (a = G) := by have := HG2.out; rw [h0, Nat.gcd_zero_right] at this; exact this
            have hb0 : ¬ (0 : Int) < (b : Int) := by omega
            have HL := Lib.hid (rlimbs_calls wr a HAB.out.1)
            clear h0
            go_wp2_with fail
            refine HL.out.mono ?_
            rintro e w5 ⟨v5, rfl, ⟨a5, c5, rfl, x1, x2, x3⟩, e5⟩
            go_wp2_with fail
            refine (rsignedL_calls _ false a5 a c5 x1 x2 x3).mono ?_
            rintro e w6 ⟨v6, rfl, hI, e6⟩
            have hI2 : IsInt w6 v6 ((G : Nat) : Int) := by rw [← HG3.out]; exact hI
            have eA := ((hE.trans hE2).trans e5).trans e6
            clear hI
            obtain ⟨ao4, cap4, s4, n4, rfl, _⟩ := IsInt.open_ hI2
            have r02 := eA.cell r0
            have r12 := eA.cell r1
            have f02 := eA.frozen (lt_of_cell r0) f0
            have f12 := eA.frozen (lt_of_cell r1) f1
            clear r0 r1 f0 f1
            go_wp2
            exact bodyPost_ret (v := .agg #[.bool s4, .slice ao4 (limbs n4).length cap4]) (by simp [results, Try.results37, go_sem, r02, r12]) rfl (fin_int hI2 r02 r12 (by omega) (eW.trans eA))
          · have hb0 : (0 : Int) < (b : Int) := by omega
            obtain ⟨r, hr⟩ : ∃ r, r = a % b := ⟨_, rfl⟩
            have hrb := Nat.mod_lt a h0
            obtain ⟨t1, t2⟩ := rem_nat a b r hr
            have hb1 : ¬ b = 0 := by omega
            have HR := Lib.hid (show r < b ∧ Nat.gcd b r = G by
              rw [hr]
              refine ⟨hrb, ?_⟩
              rw [← HG2.out, Nat.gcd_comm a b, Nat.gcd_rec b a, Nat.gcd_comm])
            clear hr hrb h0
            go_wp2
            go_quiet (fail)
            go_wp2
            go_roundw
            case rel => exact ⟨b, r, rfl, by first | rfl | exact vint t1, ⟨HAB.out.2, by have := HR.out.1; have := HAB.out.2; omega⟩, HR.out.2, hE2.drewN _⟩
            case measure => have := HR.out.1; simp [intOf]; omega

end Go.Proofs.Ytfjaboolfjgleaa
