/-
  Texts of this seat, joined.
-/
import Derived.Test.YtdblkeeicmncfaaGreatDoorJ5
import Derived.Deep.LoopGhost
/- ---- Rgcd ---- -/
section
/-
  GCD of the reference.
-/
set_option maxRecDepth 100000
namespace Go.Proofs.YtdblkeeicmncfaaGreatDoor
open Go.RowKit

theorem partsOK (m n : Nat) (lx : (limbs m).length ≤ 1048576) (ly : (limbs n).length ≤ 1048576) (hn : 0 < n) : PartsOK m n := by
  by_cases h : (limbs m).length ≤ 2 ∧ (limbs n).length ≤ 2
  · exact partsOK_small m n h.1 h.2 (by omega)
  · exact partsOK_long m n lx ly hn (by omega)

/-- What the loop of the reference's GCD keeps. -/
def RGcdRel (w0 : World) (G n : Nat) (x y : Value) (wr : World) : Prop :=
  ∃ m ax cx ay cy, x = .slice ax (limbs m).length cx ∧ y = .slice ay (limbs n).length cy ∧ Hid (Nat.gcd m n = G ∧ (limbs m).length ≤ 1048576 ∧ (limbs n).length ≤ 1048576 ∧ (limbs m).length ≤ cx ∧ (limbs n).length ≤ cy ∧ cx ≤ 9223372036854775807 ∧ cy ≤ 9223372036854775807) ∧
    Cells wr ax (limbs m) ∧ Cells wr ay (limbs n) ∧ Ext w0 wr

set_option maxRecDepth 100000 in
set_option maxHeartbeats 6400000 in
theorem rgcd_calls (w : World) (v1 v2 : Value) (z1 z2 : Int) (h : IsInt w v1 z1) (k : IsInt w v2 z2) (l1 : Sm z1) (l2 : Sm z2) :
    Calls Tryz.prog 41 #[v1, v2] w (Ret (fun v w' => IsInt w' v ((Nat.gcd z1.natAbs z2.natAbs : Nat) : Int)) w) := by
  obtain ⟨ao, cap, s, n, rfl, h1, h2, h3, H4, H5, H6⟩ := h.open_
  obtain ⟨ao', cap', s', n', rfl, k1, k2, k3, K4, K5, K6⟩ := k.open_
  unfold Sm at l1 l2
  rw [← H4.out] at l1
  rw [← K4.out] at l2
  rw [← H4.out, ← K4.out]
  obtain ⟨G, hG⟩ : ∃ G, G = Nat.gcd n n' := ⟨_, rfl⟩
  rw [← hG]
  obtain ⟨W, hW, eW, c0, c1, d0, d1, r0, r1, f0, f1⟩ := boxes2r w (.bool s) (.slice ao (limbs n).length cap) (.bool s') (.slice ao' (limbs n').length cap') 24
  have hd0 : RGcdRel W G n' (.slice ao (limbs n).length cap) (.slice ao' (limbs n').length cap') W := ⟨n, ao, cap, ao', cap', rfl, rfl, ⟨hG.symm, l1, l2, h1, k1, h2, k2⟩, h3.ext eW, k3.ext eW, Ext.refl _⟩
  have HD0 := Lib.hid hd0
  have RR := Lib.hid (And.intro r0 r1)
  clear H5 K5 h k H4 H6 K4 K6 hG hd0 h1 h2 h3 k1 k2 k3 l1 l2
  go_enter Tryz.func41, Tryz.ntmps41
  go_wp2_with fail
  clear hW
  go_quiet (fail)
  have hEq : Ext W (W.drewN nq) := (Ext.refl W).drewN nq
  have HD : Hid (RGcdRel W G n' (.slice ao (limbs n).length cap) (.slice ao' (limbs n').length cap') (W.drewN nq)) := by
    obtain ⟨m, ax, cx, ay, cy, e1, e2, e3, e4, e5, e6⟩ := HD0.out
    exact ⟨m, ax, cx, ay, cy, e1, e2, e3, e4.ext hEq, e5.ext hEq, e6.trans hEq⟩
  clear HD0 hEq c0 c1 d0 d1
  go_wp2_with fail
  go_loopg [5, 6, 7, 8] n' (fun k x y _ _ wr => RGcdRel W G k x y wr)
  case atStart => exact HD.out
  case round =>
    obtain ⟨m, ax, cx, ay, cy, rfl, rfl, H, hx, hy, hE⟩ := hrel
    clear HD
    have HX := Lib.hid (And.intro hx hy)
    clear hx hy
    rcases Nat.eq_zero_or_pos gk with h0 | h0
    · have HG : Hid (m = G) := by have := H.out.1; rw [h0, Nat.gcd_zero_right] at this; exact this
      have hl0 : (limbs gk).length = 0 := by rw [h0]; rfl
      have hsg := rsignedL_calls wr false ax m cx H.out.2.2.2.1 H.out.2.2.2.2.2.1 HX.out.1
      have HSG := Lib.hid hsg
      clear h0 hsg
      go_wp2_with fail
      refine HSG.out.mono ?_
      rintro e w6 ⟨v4, rfl, hI, e4⟩
      have hI2 : IsInt w6 v4 ((G : Nat) : Int) := by rw [← HG.out]; exact hI
      have eA := hE.trans e4
      clear hI
      obtain ⟨ao4, cap4, s4, n4, rfl, _⟩ := IsInt.open_ hI2
      have r02 := eA.cell r0
      have r12 := eA.cell r1
      have f02 := eA.frozen (lt_of_cell r0) f0
      have f12 := eA.frozen (lt_of_cell r1) f1
      clear r0 r1 f0 f1
      go_wp2
      exact bodyPost_ret (v := .agg #[.bool s4, .slice ao4 (limbs n4).length cap4]) (by simp [results, Tryz.results41, go_sem, r02, r12]) rfl (fin_int hI2 r02 r12 (by omega) (eW.trans eA))
    · by_cases hbig : 2 < (limbs m).length ∨ 2 < (limbs gk).length
      · skip
        have hpar := partsOK m gk H.out.2.1 H.out.2.2.1 h0 wr ax ay cx cy H.out.2.2.2.1 H.out.2.2.2.2.1 H.out.2.2.2.2.2.1 H.out.2.2.2.2.2.2 HX.out.1 HX.out.2
        have HPAR := Lib.hid hpar
        have HN := Lib.hid h0
        have hp0 : 0 < (limbs gk).length := limbs_pos h0
        clear hpar h0
        by_cases hm : 2 < (limbs m).length
        · have hp1 : decide ((2 : Int) < ((limbs m).length : Int)) = true := decide_eq_true (by omega)
          clear hm hbig
          go_wp2_with fail
          refine HPAR.out.mono ?_
          rintro e w5 ⟨v1, v2, rfl, _, ⟨a2, c2, rfl, q1, q2, q3⟩, e5⟩
          have HP := Lib.hid (And.intro q1 (And.intro q2 q3))
          clear q1 q2 q3
          go_wp2_with fail
          go_roundg (m % gk)
          case measure => exact Nat.mod_lt _ HN.out
          case rel => exact ⟨gk, ay, cy, a2, c2, rfl, rfl, ⟨by rw [← H.out.1, Nat.gcd_comm gk, ← Nat.gcd_rec, Nat.gcd_comm], H.out.2.2.1, Nat.le_trans (limbs_len_mono (Nat.le_of_lt (Nat.mod_lt _ HN.out))) H.out.2.2.1, H.out.2.2.2.2.1, HP.out.1, H.out.2.2.2.2.2.2, HP.out.2.1⟩, HX.out.2.ext e5, HP.out.2.2, hE.trans e5⟩
        · have hp1 : decide ((2 : Int) < ((limbs m).length : Int)) = false := decide_eq_false (by omega)
          have hp2 : decide ((2 : Int) < ((limbs gk).length : Int)) = true := decide_eq_true (by omega)
          clear hm hbig
          go_wp2_with fail
          refine HPAR.out.mono ?_
          rintro e w5 ⟨v1, v2, rfl, _, ⟨a2, c2, rfl, q1, q2, q3⟩, e5⟩
          have HP := Lib.hid (And.intro q1 (And.intro q2 q3))
          clear q1 q2 q3
          go_wp2_with fail
          go_roundg (m % gk)
          case measure => exact Nat.mod_lt _ HN.out
          case rel => exact ⟨gk, ay, cy, a2, c2, rfl, rfl, ⟨by rw [← H.out.1, Nat.gcd_comm gk, ← Nat.gcd_rec, Nat.gcd_comm], H.out.2.2.1, Nat.le_trans (limbs_len_mono (Nat.le_of_lt (Nat.mod_lt _ HN.out))) H.out.2.2.1, H.out.2.2.2.2.1, HP.out.1, H.out.2.2.2.2.2.2, HP.out.2.1⟩, HX.out.2.ext e5, HP.out.2.2, hE.trans e5⟩
      · skip
        have hm1 : m < 1000000000000000000 := by have := lt_of_limbs_len (n := m) (k := 2) (by omega); omega
        have hg1 : gk < 1000000000000000000 := by have := lt_of_limbs_len (n := gk) (k := 2) (by omega); omega
        have hvx := short_calls wr ax (limbs m) cx H.out.2.2.2.1 H.out.2.2.2.2.2.1 HX.out.1 (by rw [val_limbs]; omega)
        have hvy := short_calls wr ay (limbs gk) cy H.out.2.2.2.2.1 H.out.2.2.2.2.2.2 HX.out.2 (by rw [val_limbs]; omega)
        rw [val_limbs] at hvx hvy
        have HVX := Lib.hid hvx
        have HVY := Lib.hid hvy
        have hp0 : 0 < (limbs gk).length := limbs_pos h0
        have hp1 : decide ((2 : Int) < ((limbs m).length : Int)) = false := decide_eq_false (by omega)
        have hp2 : decide ((2 : Int) < ((limbs gk).length : Int)) = false := decide_eq_false (by omega)
        have hp3 : (((limbs gk).length : Int) == 0) = false := by have := limbs_pos h0; rw [beq_eq_false_iff_ne]; omega
        have HB := Lib.hid (And.intro (show m ≤ 18446744073709551615 by omega) (show gk ≤ 18446744073709551615 by omega))
        have HGl := Lib.hid (show G ≤ 18446744073709551615 by rw [← H.out.1]; have := Nat.gcd_le_right m h0; omega)
        clear hm1 hg1 hvx hvy h0 hbig
        go_wp2_with fail
        refine HVX.out.mono ?_
        rintro e w' ⟨rfl, rfl⟩
        go_wp2_with fail
        refine HVY.out.mono ?_
        rintro e w' ⟨rfl, rfl⟩
        clear hp0 hp1 hp2 hp3
        go_wp2_with fail
        obtain ⟨wo, hwo⟩ : ∃ wo : World, wo = wr := ⟨_, rfl⟩
        subst hwo
        go_loopw [9, 10] (fun x y wr => ∃ a b : Nat, x = .int .u64 a ∧ y = .int .u64 b ∧ Hid (a ≤ 18446744073709551615 ∧ b ≤ 18446744073709551615) ∧ Hid (Nat.gcd a b = G) ∧ Ext wo wr) (fun _ y _ => (intOf y).toNat)
        case atStart => exact ⟨m, gk, rfl, rfl, HB, H.out.1, Ext.refl _⟩
        case round =>
          obtain ⟨a, b, rfl, rfl, HAB, HG2, hE2⟩ := hrel
          rcases Nat.eq_zero_or_pos b with h0 | h0
          · have HG3 : Hid (a = G) := by have := HG2.out; rw [h0, Nat.gcd_zero_right] at this; exact this
            have hb0 : ¬ (0 : Int) < (b : Int) := by omega
            have HL := Lib.hid (rlimbs_calls wr a HAB.out.1)
            clear h0
            go_wp2_with fail
            refine HL.out.mono ?_
            rintro e w5 ⟨v5, rfl, ⟨a5, c5, rfl, x1, x2, x3⟩, e5⟩
            go_wp2_with fail
            refine (rsignedL_calls _ false a5 a c5 x1 x2 x3).mono ?_
            rintro e w6 ⟨v6, rfl, hI, e6⟩
            have hI2 : IsInt w6 v6 ((G : Nat) : Int) := by rw [← HG3.out]; exact hI
            have eA := ((hE.trans hE2).trans e5).trans e6
            clear hI
            obtain ⟨ao4, cap4, s4, n4, rfl, _⟩ := IsInt.open_ hI2
            have r02 := eA.cell r0
            have r12 := eA.cell r1
            have f02 := eA.frozen (lt_of_cell r0) f0
            have f12 := eA.frozen (lt_of_cell r1) f1
            clear r0 r1 f0 f1
            go_wp2
            exact bodyPost_ret (v := .agg #[.bool s4, .slice ao4 (limbs n4).length cap4]) (by simp [results, Tryz.results41, go_sem, r02, r12]) rfl (fin_int hI2 r02 r12 (by omega) (eW.trans eA))
          · have hb0 : (0 : Int) < (b : Int) := by omega
            obtain ⟨r, hr⟩ : ∃ r, r = a % b := ⟨_, rfl⟩
            have hrb := Nat.mod_lt a h0
            obtain ⟨t1, t2⟩ := rem_nat a b r hr
            have hb1 : ¬ b = 0 := by omega
            have HR := Lib.hid (show r < b ∧ Nat.gcd b r = G by
              rw [hr]
              refine ⟨hrb, ?_⟩
              rw [← HG2.out, Nat.gcd_comm a b, Nat.gcd_rec b a, Nat.gcd_comm])
            clear hr hrb h0
            go_wp2
            go_quiet (fail)
            go_wp2
            go_roundw
            case rel => exact ⟨b, r, rfl, by first | rfl | exact vint t1, ⟨HAB.out.2, by have := HR.out.1; have := HAB.out.2; omega⟩, HR.out.2, hE2.drewN _⟩
            case measure => have := HR.out.1; simp [intOf]; omega

end Go.Proofs.YtdblkeeicmncfaaGreatDoor
end

/- ---- Rref ---- -/
section
/-
  What the walker knows of the reference's integers.
-/
set_option maxRecDepth 100000
namespace Go.Proofs.YtdblkeeicmncfaaGreatDoor
open Go.RowKit

/-- The parts of a quotient of limbs. -/
def kParts : Con
  | [.val false [.mag x l], .val false [.mag y m]], G => if lo l && (lo m && (G.find (.eq (.a1 4 y) (.lit 0)) == some false)) then some (.tup [(false, [.mag (.a2 9 x y) l]), (false, [.mag (.a2 10 x y) m])]) else none
  | _, _ => none
theorem isLimbs_cells {n : Nat} {v : Value} {w : World} (h : IsLimbs n v w) : v.cells = #[v] := by
  obtain ⟨ao, cap, rfl, _⟩ := h
  rfl
theorem kParts_ok {E : Env} : ConOK Tryz.prog E 73 kParts := by
  refine ⟨?_, ?_, ⟨_, Tryz.func73, by decide +kernel, by kernel_rfl⟩⟩
  · intro args As r h hG β w vs hv hlen
    unfold kParts at h
    split at h
    · rename_i x l y m
      split at h
      · rename_i hlo
        injection h with h
        subst h
        simp only [lo, Bool.and_eq_true, decide_eq_true_iff, beq_iff_eq] at hlo
        obtain ⟨b1, b2, b3⟩ := hlo
        have hy := Asm.find_spec hG b3
        obtain ⟨v, u, rfl, h1, h2⟩ := args2 hv hlen
        obtain ⟨⟨ao, cap, rfl, k1, k2, k3⟩, hl⟩ := one_mag.1 h1
        obtain ⟨⟨ao', cap', rfl, j1, j2, j3⟩, hm⟩ := one_mag.1 h2
        have hpos : 0 < (y.den E).natAbs := by
          rcases Nat.eq_zero_or_pos (y.den E).natAbs with h0 | h0
          · simp [BT.den, IT.den, fn1, h0, limbs_zero] at hy
          · exact h0
        refine (partsOK _ _ (by unfold Lim at hl; omega) (by unfold Lim at hm; omega) hpos w ao ao' cap cap' k1 j1 k2 j2 k3 j3).mono ?_
        rintro e w' ⟨v1, v2, rfl, i1, i2, ex⟩
        have d1 : ((IT.a2 9 x y).den E).natAbs = (x.den E).natAbs / (y.den E).natAbs := rfl
        have d2 : ((IT.a2 10 x y).den E).natAbs = (x.den E).natAbs % (y.den E).natAbs := rfl
        refine ⟨_, rfl, ⟨[v1, v2], rfl, v1, _, rfl, one_mag.2 ⟨by rw [d1]; exact i1, ?_⟩, v2, _, rfl, one_mag.2 ⟨by rw [d2]; exact i2, ?_⟩, rfl⟩, ex⟩
        · exact hl.natAbs_le (by rw [d1]; exact Nat.div_le_self _ _)
        · exact hm.natAbs_le (by rw [d2]; exact Nat.le_of_lt (Nat.mod_lt _ hpos))
      · cases h
    · cases h
  · intro args As r h x off
    unfold kParts at h
    split at h
    · split at h
      · injection h with h; subst h; intro e; cases e
      · cases h
    · cases h
/-- A sign and limbs, made an integer. -/
def kSigned : Con
  | [.val false [.b s], .val false [.mag x l]], G => if lo l then match s.ev G with
      | some true => some (.val true [.int (.a1 0 (.a1 5 x)) l])
      | some false => some (.val true [.int (.a1 5 x) l])
      | none => none
    else none
  | _, _ => none
theorem kSigned_ok {E : Env} : ConOK Tryz.prog E 43 kSigned := by
  refine ⟨?_, ?_, ⟨_, Tryz.func43, by decide +kernel, by kernel_rfl⟩⟩
  · intro args As r h hG β w vs hv hlen
    unfold kSigned at h
    split at h
    · rename_i s x l
      split at h
      · obtain ⟨v, u, rfl, h1, h2⟩ := args2 hv hlen
        have e1 := one_bool.1 h1
        subst e1
        obtain ⟨⟨ao, cap, rfl, k1, k2, k3⟩, hl⟩ := one_mag.1 h2
        have hc := rsignedL_calls w (s.den E) ao (x.den E).natAbs cap k1 k2 k3
        split at h
        · rename_i hs
          injection h with h
          subst h
          refine hc.mono ?_
          rintro e w' ⟨v', rfl, hI, ex⟩
          rw [BT.ev_spec hG hs] at hI
          exact ⟨v', rfl, one_int.2 ⟨hI, by unfold Lim at *; simpa [IT.den, fn1] using hl⟩, ex⟩
        · rename_i hs
          injection h with h
          subst h
          refine hc.mono ?_
          rintro e w' ⟨v', rfl, hI, ex⟩
          rw [BT.ev_spec hG hs] at hI
          exact ⟨v', rfl, one_int.2 ⟨hI, by unfold Lim at *; simpa [IT.den, fn1] using hl⟩, ex⟩
        · cases h
      · cases h
    · cases h
  · intro args As r h x off
    unfold kSigned at h
    split at h
    · split at h
      · split at h
        · injection h with h; subst h; intro e; cases e
        · injection h with h; subst h; intro e; cases e
        · cases h
      · cases h
    · cases h
/-- The reference's integers, but for its quotient. -/
def tabR1 : List (Nat × Con) := [(73, kParts), (43, kSigned), (18, kFrom), (15, kII (.a2 0) (fun l m => max l m + 1)), (20, kII (.a2 1) (fun l m => max l m + 1)),
  (36, kII (.a2 2) (· + ·)), (49, kI (.a1 0) id), (40, kIn fun x => .a2 3 x (.lit 0)), (41, kII (.a2 6) max)]
theorem tabR1_ok {E : Env} : TabOK Tryz.prog E tabR1 := by
  refine .cons kParts_ok (.cons kSigned_ok ?_)
  refine .cons (kFrom_ok (fun w n h1 h2 => rfromInt64_calls w n h1 h2) ⟨_, Tryz.func18, by decide +kernel, by kernel_rfl⟩) ?_
  refine .cons (kII_ok (· + ·) (fun _ _ => rfl) (fun w v1 v2 z1 z2 l m h1 h2 l1 l2 b1 b2 => radd_calls w v1 v2 z1 z2 h1 h2 (l1.sm (by omega)) (l2.sm (by omega))) (fun _ _ _ _ h k => h.add2 k) ⟨_, Tryz.func15, by decide +kernel, by kernel_rfl⟩) ?_
  refine .cons (kII_ok (· - ·) (fun _ _ => rfl) (fun w v1 v2 z1 z2 l m h1 h2 l1 l2 b1 b2 => rsub_calls w v1 v2 z1 z2 h1 h2 (l1.sm (by omega)) (l2.sm (by omega))) (fun _ _ _ _ h k => h.sub2 k) ⟨_, Tryz.func20, by decide +kernel, by kernel_rfl⟩) ?_
  refine .cons (kII_ok (· * ·) (fun _ _ => rfl) (fun w v1 v2 z1 z2 l m h1 h2 l1 l2 b1 b2 => rmul_calls w v1 v2 z1 z2 h1 h2 (l1.sm (by omega)) (l2.sm (by omega))) (fun _ _ _ _ h k => h.mul k) ⟨_, Tryz.func36, by decide +kernel, by kernel_rfl⟩) ?_
  refine .cons (kI_ok (- ·) (fun _ => rfl) (fun w v1 z1 l h1 l1 b1 => rneg_calls w v1 z1 h1) (fun _ _ h => h.neg) ⟨_, Tryz.func49, by decide +kernel, by kernel_rfl⟩) ?_
  refine .cons (kIn_ok (cmpZ · 0) (fun _ => rfl) (fun w v1 z1 h1 => rsign_calls w v1 z1 h1) ⟨_, Tryz.func40, by decide +kernel, by kernel_rfl⟩) ?_
  exact .cons (kII_ok (fun x y => ((Nat.gcd x.natAbs y.natAbs : Nat) : Int)) (fun _ _ => rfl) (fun w v1 v2 z1 z2 l m h1 h2 l1 l2 b1 b2 => rgcd_calls w v1 v2 z1 z2 h1 h2 (l1.sm (by omega)) (l2.sm (by omega))) (fun _ _ _ _ h k => gcd_lim h k) ⟨_, Tryz.func41, by decide +kernel, by kernel_rfl⟩) .nil

end Go.Proofs.YtdblkeeicmncfaaGreatDoor
end

/- ---- Rdq ---- -/
section
/-
  The reference's quotient.
-/
set_option maxRecDepth 100000
namespace Go.Proofs.YtdblkeeicmncfaaGreatDoor
open Go.RowKit

def tDM : Tree := .ite (.eq (.a1 4 (.var 1)) (.lit 0)) (.leaf [(true, [.int (.lit 0) 0]), (true, [.int (.lit 0) 0]), (false, [.n .i64 (.lit 6)])]) (.ite (.lt (.var 0) (.lit 0)) (.ite (.lt (.var 1) (.lit 0)) (.ite (.lt (.lit 0) (.a1 4 (.a2 10 (.var 0) (.var 1)))) (.leaf [(true, [.int (.a1 5 (.a2 9 (.var 0) (.var 1))) 400000]), (true, [.int (.a1 0 (.a1 5 (.a2 10 (.var 0) (.var 1)))) 400000]), (false, [.n .i64 (.lit 0)])]) (.leaf [(true, [.int (.a1 5 (.a2 9 (.var 0) (.var 1))) 400000]), (true, [.int (.a1 0 (.a1 5 (.a2 10 (.var 0) (.var 1)))) 400000]), (false, [.n .i64 (.lit 0)])])) (.ite (.lt (.lit 0) (.a1 4 (.a2 10 (.var 0) (.var 1)))) (.leaf [(true, [.int (.a2 1 (.a1 0 (.a1 5 (.a2 9 (.var 0) (.var 1)))) (.lit 1)) 400001]), (true, [.int (.a2 0 (.a1 0 (.a1 5 (.a2 10 (.var 0) (.var 1)))) (.var 1)) 400001]), (false, [.n .i64 (.lit 0)])]) (.leaf [(true, [.int (.a1 0 (.a1 5 (.a2 9 (.var 0) (.var 1)))) 400000]), (true, [.int (.a1 0 (.a1 5 (.a2 10 (.var 0) (.var 1)))) 400000]), (false, [.n .i64 (.lit 0)])]))) (.ite (.lt (.var 1) (.lit 0)) (.ite (.lt (.lit 0) (.a1 4 (.a2 10 (.var 0) (.var 1)))) (.leaf [(true, [.int (.a2 1 (.a1 0 (.a1 5 (.a2 9 (.var 0) (.var 1)))) (.lit 1)) 400001]), (true, [.int (.a2 0 (.a1 5 (.a2 10 (.var 0) (.var 1))) (.var 1)) 400001]), (false, [.n .i64 (.lit 0)])]) (.leaf [(true, [.int (.a1 0 (.a1 5 (.a2 9 (.var 0) (.var 1)))) 400000]), (true, [.int (.a1 5 (.a2 10 (.var 0) (.var 1))) 400000]), (false, [.n .i64 (.lit 0)])])) (.ite (.lt (.lit 0) (.a1 4 (.a2 10 (.var 0) (.var 1)))) (.leaf [(true, [.int (.a1 5 (.a2 9 (.var 0) (.var 1))) 400000]), (true, [.int (.a1 5 (.a2 10 (.var 0) (.var 1))) 400000]), (false, [.n .i64 (.lit 0)])]) (.leaf [(true, [.int (.a1 5 (.a2 9 (.var 0) (.var 1))) 400000]), (true, [.int (.a1 5 (.a2 10 (.var 0) (.var 1))) 400000]), (false, [.n .i64 (.lit 0)])]))))
theorem dmZ {a b q r : Int} (hb : b ≠ 0) (h1 : a = q * b + r) (h2 : 0 ≤ r ∧ r < b ∨ b < r ∧ r ≤ 0) : q = dq a b ∧ r = dr a b := by
  obtain ⟨k1, k2⟩ := dq_dr (a := a) hb
  exact quo_unique h1 k1.symm h2 k2
theorem parts_eq (a b : Int) (hb : b ≠ 0) : (b.natAbs : Int) * ((a.natAbs / b.natAbs : Nat) : Int) + ((a.natAbs % b.natAbs : Nat) : Int) = (a.natAbs : Int) ∧ ((a.natAbs % b.natAbs : Nat) : Int) < (b.natAbs : Int) := by
  have e := Nat.div_add_mod a.natAbs b.natAbs
  have hlt := Nat.mod_lt a.natAbs (show 0 < b.natAbs by omega)
  refine ⟨?_, by omega⟩
  rw [← Int.natCast_mul, ← Int.natCast_add, e]
theorem rdm_same {a b : Int} (hb : b ≠ 0) (h : 0 ≤ a ∧ 0 < b) : ((a.natAbs / b.natAbs : Nat) : Int) = dq a b ∧ ((a.natAbs % b.natAbs : Nat) : Int) = dr a b := by
  obtain ⟨e, hlt⟩ := parts_eq a b hb
  generalize ((a.natAbs / b.natAbs : Nat) : Int) = Q at *
  have h0 : 0 ≤ ((a.natAbs % b.natAbs : Nat) : Int) := by omega
  generalize ((a.natAbs % b.natAbs : Nat) : Int) = R at *
  have hN : (b.natAbs : Int) = b := by omega
  rw [hN] at e hlt
  exact dmZ hb (by rw [Int.mul_comm]; omega) (by omega)
theorem rdm_neg {a b : Int} (hb : b ≠ 0) (h : a < 0 ∧ b < 0) : ((a.natAbs / b.natAbs : Nat) : Int) = dq a b ∧ -((a.natAbs % b.natAbs : Nat) : Int) = dr a b := by
  obtain ⟨e, hlt⟩ := parts_eq a b hb
  generalize ((a.natAbs / b.natAbs : Nat) : Int) = Q at *
  have h0 : 0 ≤ ((a.natAbs % b.natAbs : Nat) : Int) := by omega
  generalize ((a.natAbs % b.natAbs : Nat) : Int) = R at *
  have hN : (b.natAbs : Int) = -b := by omega
  rw [hN] at e hlt
  rw [Int.neg_mul] at e
  exact dmZ hb (by rw [Int.mul_comm]; omega) (by omega)
theorem rdm_np {a b : Int} (hb : b ≠ 0) (h : a < 0 ∧ 0 < b) (hr : 0 < ((a.natAbs % b.natAbs : Nat) : Int)) : -((a.natAbs / b.natAbs : Nat) : Int) - 1 = dq a b ∧ -((a.natAbs % b.natAbs : Nat) : Int) + b = dr a b := by
  obtain ⟨e, hlt⟩ := parts_eq a b hb
  generalize ((a.natAbs / b.natAbs : Nat) : Int) = Q at *
  generalize ((a.natAbs % b.natAbs : Nat) : Int) = R at *
  have hN : (b.natAbs : Int) = b := by omega
  rw [hN] at e hlt
  exact dmZ hb (by rw [Int.mul_comm, Int.mul_sub, Int.mul_neg]; omega) (by omega)
theorem rdm_np0 {a b : Int} (hb : b ≠ 0) (h : a < 0 ∧ 0 < b) (hr : ((a.natAbs % b.natAbs : Nat) : Int) = 0) : -((a.natAbs / b.natAbs : Nat) : Int) = dq a b ∧ -((a.natAbs % b.natAbs : Nat) : Int) = dr a b := by
  obtain ⟨e, hlt⟩ := parts_eq a b hb
  generalize ((a.natAbs / b.natAbs : Nat) : Int) = Q at *
  generalize ((a.natAbs % b.natAbs : Nat) : Int) = R at *
  have hN : (b.natAbs : Int) = b := by omega
  rw [hN] at e hlt
  exact dmZ hb (by rw [Int.mul_comm, Int.mul_neg]; omega) (by omega)
theorem rdm_pn {a b : Int} (hb : b ≠ 0) (h : 0 ≤ a ∧ b < 0) (hr : 0 < ((a.natAbs % b.natAbs : Nat) : Int)) : -((a.natAbs / b.natAbs : Nat) : Int) - 1 = dq a b ∧ ((a.natAbs % b.natAbs : Nat) : Int) + b = dr a b := by
  obtain ⟨e, hlt⟩ := parts_eq a b hb
  generalize ((a.natAbs / b.natAbs : Nat) : Int) = Q at *
  generalize ((a.natAbs % b.natAbs : Nat) : Int) = R at *
  have hN : (b.natAbs : Int) = -b := by omega
  rw [hN] at e hlt
  rw [Int.neg_mul] at e
  exact dmZ hb (by rw [Int.mul_comm, Int.mul_sub, Int.mul_neg]; omega) (by omega)
theorem rdm_pn0 {a b : Int} (hb : b ≠ 0) (h : 0 ≤ a ∧ b < 0) (hr : ((a.natAbs % b.natAbs : Nat) : Int) = 0) : -((a.natAbs / b.natAbs : Nat) : Int) = dq a b ∧ ((a.natAbs % b.natAbs : Nat) : Int) = dr a b := by
  obtain ⟨e, hlt⟩ := parts_eq a b hb
  generalize ((a.natAbs / b.natAbs : Nat) : Int) = Q at *
  generalize ((a.natAbs % b.natAbs : Nat) : Int) = R at *
  have hN : (b.natAbs : Int) = -b := by omega
  rw [hN] at e hlt
  rw [Int.neg_mul] at e
  exact dmZ hb (by rw [Int.mul_comm, Int.mul_neg]; omega) (by omega)
theorem len_pos_iff (n : Nat) : (0 : Int) < ((limbs n).length : Int) ↔ 0 < (n : Int) := by
  rcases Nat.eq_zero_or_pos n with h | h
  · subst h; simp [limbs_zero]
  · have := limbs_pos h; omega
theorem rdivMod_fn (w : World) (v1 v2 : Value) (a b : Int) (h : IsInt w v1 a) (k : IsInt w v2 b) (l1 : Lim 400000 a) (l2 : Lim 400000 b) :
    Calls Tryz.prog 47 #[v1, v2] w (RetDMF a b w) := by
  refine (walkZ2 (T := tDM) tabR1_ok Tryz.func47 (by kernel_rfl) (by decide +kernel) (by decide +kernel) h k l1 l2).mono ?_
  rintro e w' ⟨β, v, rfl, hh, ex⟩
  have fin : ∀ (x y : IT) (l m : Nat), (AV.tup [(true, [.int x l]), (true, [.int y m]), (false, [.n .i64 (.lit 0)])]).holds (zE [a, b]) β w' v → b ≠ 0 → (x.den (zE [a, b]) = dq a b ∧ y.den (zE [a, b]) = dr a b) → RetDMF a b w (.returned v) w' := by
    intro x y l m hx hb hq
    obtain ⟨vs, rfl, u1, r1, rfl, k1, u2, r2, rfl, k2, u3, r3, rfl, k3, hn⟩ := hx
    simp only [tupAll] at hn
    subst hn
    have e3 := one_num.1 k3
    subst e3
    refine ⟨u1, u2, ?_, ?_, ?_, ex⟩
    · unfold de; rw [if_neg hb]; rfl
    · rw [← hq.1]; exact (one_int.1 k1).1
    · rw [← hq.2]; exact (one_int.1 k2).1
  have t1 : (BT.eq (.a1 4 (.var 1)) (.lit 0)).den (zE [a, b]) = decide (b = 0) := by
    show (((limbs b.natAbs).length : Int) == 0) = _
    have := len_pos_iff b.natAbs
    by_cases hb : b = 0
    · rw [decide_eq_true hb, beq_iff_eq]; omega
    · rw [decide_eq_false hb, beq_eq_false_iff_ne]; omega
  have t2 : (BT.lt (.var 0) (.lit 0)).den (zE [a, b]) = decide (a < 0) := rfl
  have t3 : (BT.lt (.var 1) (.lit 0)).den (zE [a, b]) = decide (b < 0) := rfl
  have t4 : (BT.lt (.lit 0) (.a1 4 (.a2 10 (.var 0) (.var 1)))).den (zE [a, b]) = decide (0 < ((a.natAbs % b.natAbs : Nat) : Int)) := by
    show decide ((0 : Int) < ((limbs (a.natAbs % b.natAbs)).length : Int)) = _
    rw [decide_eq_decide]
    exact len_pos_iff _
  have h0 : 0 ≤ ((a.natAbs % b.natAbs : Nat) : Int) := Int.natCast_nonneg _
  simp only [tDM, Tree.pick, t1, t2, t3, t4, decide_eq_true_iff] at hh
  split at hh
  · rename_i hb0
    have hb : b = 0 := hb0
    obtain ⟨vs, rfl, u1, r1, rfl, k1, u2, r2, rfl, k2, u3, r3, rfl, k3, hn⟩ := hh
    simp only [tupAll] at hn
    subst hn
    have e3 := one_num.1 k3
    subst e3
    subst hb
    exact ⟨u1, u2, rfl, (one_int.1 k1).1, (one_int.1 k2).1, ex⟩
  · rename_i hb0
    have hb : b ≠ 0 := hb0
    split at hh
    · split at hh
      · split at hh
        · have hq := rdm_neg (a := a) (b := b) hb (by omega); exact fin _ _ _ _ hh hb hq
        · have hq := rdm_neg (a := a) (b := b) hb (by omega); exact fin _ _ _ _ hh hb hq
      · split at hh
        · have hq := rdm_np (a := a) (b := b) hb (by omega) (by omega); exact fin _ _ _ _ hh hb hq
        · have hq := rdm_np0 (a := a) (b := b) hb (by omega) (by omega); exact fin _ _ _ _ hh hb hq
    · split at hh
      · split at hh
        · have hq := rdm_pn (a := a) (b := b) hb (by omega) (by omega); exact fin _ _ _ _ hh hb hq
        · have hq := rdm_pn0 (a := a) (b := b) hb (by omega) (by omega); exact fin _ _ _ _ hh hb hq
      · split at hh
        · have hq := rdm_same (a := a) (b := b) hb (by omega); exact fin _ _ _ _ hh hb hq
        · have hq := rdm_same (a := a) (b := b) hb (by omega); exact fin _ _ _ _ hh hb hq

end Go.Proofs.YtdblkeeicmncfaaGreatDoor
end

/- ---- Rate ---- -/
section
/-
  Products, sums and negatives of rational numbers.
-/
set_option maxRecDepth 100000
namespace Go.Proofs.YtdblkeeicmncfaaGreatDoor
open Go.RowKit

/-- What the walker knows of the small functions too. -/
def tabDiv : List (Nat × Con) := (62, k0 (.lit 1) 3) :: (80, kII (.a2 6) max) :: (81, kII (.a2 4) fun l _ => l) :: (67, kI id id) :: tabInt
theorem tabDiv_ok {E : Env} : TabOK Tryz.prog E tabDiv := by
  refine .cons (k0_ok 1 rfl (fun w => one_calls w) (lim3 (by decide) (by decide)) ⟨_, Tryz.func62, by decide +kernel, by kernel_rfl⟩) ?_
  refine .cons (kII_ok (fun x y => ((Nat.gcd x.natAbs y.natAbs : Nat) : Int)) (fun _ _ => rfl) (fun w v1 v2 z1 z2 l m h1 h2 l1 l2 b1 b2 => divisor_calls w v1 v2 z1 z2 h1 h2 (l1.mono b1) (l2.mono b2)) (fun _ _ _ _ h k => gcd_lim h k) ⟨_, Tryz.func80, by decide +kernel, by kernel_rfl⟩) ?_
  refine .cons (kII_ok dq (fun _ _ => rfl) (fun w v1 v2 z1 z2 l m h1 h2 l1 l2 b1 b2 => quotient_calls w v1 v2 z1 z2 h1 h2 (l1.mono b1) (l2.mono b2)) (fun _ _ _ _ h _ => h.natAbs_le (dq_abs _ _)) ⟨_, Tryz.func81, by decide +kernel, by kernel_rfl⟩) ?_
  exact .cons (kI_ok id (fun _ => rfl) (fun w v1 z1 l h1 l1 b1 => clone_int_calls w v1 z1 h1 (l1.mono b1)) (fun _ _ h => h) ⟨_, Tryz.func67, by decide +kernel, by kernel_rfl⟩) tabInt_ok

theorem gcd_pos_right (x : Int) (n : Nat) (h : 0 < n) : 0 < Nat.gcd x.natAbs n := Nat.gcd_pos_of_pos_right _ h
theorem dq_cast (x : Int) {n : Nat} (h : 0 < n) : dq x (n : Int) = x / (n : Int) := dq_pos (by omega)
theorem dq_cast2 (m : Nat) {n : Nat} (h : 0 < n) : dq (m : Int) (n : Int) = ((m / n : Nat) : Int) := by rw [dq_cast _ h]; exact (Int.natCast_ediv m n).symm
theorem mul_dq (a b : Rat) : dq a.num ((Nat.gcd a.num.natAbs (b.den : Int).natAbs : Nat) : Int) * dq b.num ((Nat.gcd b.num.natAbs (a.den : Int).natAbs : Nat) : Int) = (a * b).num ∧
    dq (a.den : Int) ((Nat.gcd b.num.natAbs (a.den : Int).natAbs : Nat) : Int) * dq (b.den : Int) ((Nat.gcd a.num.natAbs (b.den : Int).natAbs : Nat) : Int) = ((a * b).den : Int) := by
  obtain ⟨h1, h2⟩ := mul_parts a b
  simp only [Int.natAbs_natCast]
  have p1 := gcd_pos_right a.num b.den b.den_pos
  have p2 := gcd_pos_right b.num a.den a.den_pos
  rw [h1, h2, dq_cast _ p1, dq_cast _ p2, dq_cast2 _ p1, dq_cast2 _ p2, Int.natCast_mul]
  exact ⟨rfl, rfl⟩

theorem neg_rat_calls (w : World) (v1 : Value) (a : Rat) (h1 : IsRat w v1 a) (l1 : LimQ 100000 a) :
    Calls Tryz.prog 33 #[v1] w (Ret (fun v w' => IsRat w' v (-a)) w) := by
  refine (walkQ1 (T := .leaf [(true, [.int (.a1 0 (.var 0)) 100000, .int (.var 1) 100000])])
    tabDiv_ok Tryz.func33 (by kernel_rfl) (by decide +kernel) (by decide +kernel) h1 l1).mono ?_
  rintro e w' ⟨β, v, rfl, hh, ex⟩
  obtain ⟨x, y, z, t, rfl, k1, _, k2, _⟩ := one_rat.1 hh
  exact ⟨_, rfl, ⟨x, y, z, t, rfl, k1, k2⟩, ex⟩
theorem sum_dq (a b : Rat) (N : Int) (hN : N = a.num * dq (b.den : Int) ((Nat.gcd (a.den : Int).natAbs (b.den : Int).natAbs : Nat) : Int) + b.num * dq (a.den : Int) ((Nat.gcd (a.den : Int).natAbs (b.den : Int).natAbs : Nat) : Int)) :
    dq N ((Nat.gcd N.natAbs ((Nat.gcd (a.den : Int).natAbs (b.den : Int).natAbs : Nat) : Int).natAbs : Nat) : Int) = (a + b).num ∧
    dq (a.den : Int) ((Nat.gcd (a.den : Int).natAbs (b.den : Int).natAbs : Nat) : Int) * dq (b.den : Int) ((Nat.gcd N.natAbs ((Nat.gcd (a.den : Int).natAbs (b.den : Int).natAbs : Nat) : Int).natAbs : Nat) : Int) = ((a + b).den : Int) := by
  obtain ⟨h1, h2⟩ := add_parts a b
  simp only [Int.natAbs_natCast] at hN ⊢
  have p0 : 0 < a.den.gcd b.den := Nat.gcd_pos_of_pos_right _ b.den_pos
  rw [dq_cast2 _ p0, dq_cast2 _ p0] at hN
  rw [← hN] at h1 h2
  have p1 := gcd_pos_right N (a.den.gcd b.den) p0
  have d1 : N.natAbs.gcd (a.den.gcd b.den) ∣ b.den := Nat.dvd_trans (Nat.gcd_dvd_right _ _) (Nat.gcd_dvd_right _ _)
  rw [dq_cast _ p1, dq_cast2 _ p1, dq_cast2 _ p0, h1, h2, Nat.mul_div_assoc _ d1, Int.natCast_mul]
  exact ⟨rfl, rfl⟩
theorem sum_ones (a b : Rat) (h1 : (a.den : Int) = 1) (h2 : (b.den : Int) = 1) : a.num + b.num = (a + b).num ∧ (1 : Int) = ((a + b).den : Int) := by
  obtain ⟨k1, k2⟩ := add_parts a b
  have e1 : a.den = 1 := by omega
  have e2 : b.den = 1 := by omega
  rw [e1, e2] at k1 k2
  rw [k1, k2]
  simp
end Go.Proofs.YtdblkeeicmncfaaGreatDoor
end

/- ---- Ratf ---- -/
section
/-
  How long the parts of sums and products are, and what the walker knows of rational numbers.
-/
set_option maxRecDepth 100000
namespace Go.Proofs.YtdblkeeicmncfaaGreatDoor
open Go.RowKit

theorem lim_cast {l n m : Nat} (h : Lim l (n : Int)) (k : m ≤ n) : Lim l (m : Int) := h.natAbs_le (by simpa using k)
theorem LimQ.mul {l m k j : Nat} {a b : Rat} (h1 : Lim l a.num) (h2 : Lim m (a.den : Int)) (h3 : Lim k b.num) (h4 : Lim j (b.den : Int)) : Lim (l + m + k + j + 1) (a * b).num ∧ Lim (l + m + k + j + 1) ((a * b).den : Int) := by
  obtain ⟨m1, m2⟩ := mul_dq a b
  rw [← m1, ← m2]
  exact ⟨((h1.natAbs_le (dq_abs _ _)).mul (h3.natAbs_le (dq_abs _ _))).mono (by omega), ((h2.natAbs_le (dq_abs _ _)).mul (h4.natAbs_le (dq_abs _ _))).mono (by omega)⟩
theorem LimQ.add {l m k j : Nat} {a b : Rat} (h1 : Lim l a.num) (h2 : Lim m (a.den : Int)) (h3 : Lim k b.num) (h4 : Lim j (b.den : Int)) : Lim (l + m + k + j + 1) (a + b).num ∧ Lim (l + m + k + j + 1) ((a + b).den : Int) := by
  obtain ⟨m1, m2⟩ := sum_dq a b _ rfl
  rw [← m1, ← m2]
  refine ⟨Lim.natAbs_le ?_ (dq_abs _ _), ((h2.natAbs_le (dq_abs _ _)).mul (h4.natAbs_le (dq_abs _ _))).mono (by omega)⟩
  exact ((h1.mul (h4.natAbs_le (dq_abs _ _))).add2 (h3.mul (h2.natAbs_le (dq_abs _ _)))).mono (by omega)
theorem LimQ.sub {l m k j : Nat} {a b : Rat} (h1 : Lim l a.num) (h2 : Lim m (a.den : Int)) (h3 : Lim k b.num) (h4 : Lim j (b.den : Int)) : Lim (l + m + k + j + 1) (a - b).num ∧ Lim (l + m + k + j + 1) ((a - b).den : Int) := by
  rw [Rat.sub_eq_add_neg]
  exact LimQ.add (b := -b) h1 h2 (by rw [Rat.neg_num]; exact h3.neg) h4

/-- Where terms are the parts of a rational number. -/
def QEnv (E : Env) : Prop := ∀ i, i % 2 = 0 → ∃ q : Rat, E.i i = q.num ∧ E.i (i + 1) = (q.den : Int)
def canon0 : IT → IT → Bool
  | .var i, .var j => i % 2 == 0 && j == i + 1
  | .lit z, .lit d => decide (0 < d) && Nat.gcd z.natAbs d.natAbs == 1
  | .a1 f x, t => f == 0 && canon0 x t
  | .a2 f x y, .a2 g z t => f == 7 && (g == 8 && (x.beq z && y.beq t))
  | .a4 f x y z t, .a4 g x' y' z' t' => f % 2 == 0 && (g == f + 1 && (f != 8 && (x.beq x' && (y.beq y' && (z.beq z' && t.beq t')))))
  | _, _ => false
theorem canon0_spec {E : Env} (hE : QEnv E) : ∀ {s t : IT}, canon0 s t = true → ∃ q : Rat, s.den E = q.num ∧ t.den E = (q.den : Int) := by
  intro s
  induction s with
  | var i =>
    intro t h
    cases t <;> simp only [canon0, Bool.false_eq_true, Bool.and_eq_true, beq_iff_eq] at h
    obtain ⟨h1, rfl⟩ := h
    exact hE i h1
  | lit z =>
    intro t h
    cases t with
    | lit d =>
      simp only [canon0, Bool.and_eq_true, beq_iff_eq, decide_eq_true_iff] at h
      obtain ⟨h1, h2⟩ := h
      exact ⟨⟨z, d.natAbs, by omega, h2⟩, rfl, (by show d = (d.natAbs : Int); omega)⟩
    | _ => simp [canon0] at h
  | rlen i => intro t h; cases t <;> simp [canon0] at h
  | slen i => intro t h; cases t <;> simp [canon0] at h
  | a1 f x ih =>
    intro t h
    simp only [canon0, Bool.and_eq_true, beq_iff_eq] at h
    obtain ⟨rfl, h⟩ := h
    obtain ⟨q, h1, h2⟩ := ih h
    exact ⟨-q, by rw [Rat.neg_num, ← h1]; rfl, h2⟩
  | a2 f x y _ _ =>
    intro t h
    cases t <;> simp only [canon0, Bool.false_eq_true, Bool.and_eq_true, beq_iff_eq] at h
    obtain ⟨rfl, rfl, h1, h2⟩ := h
    rw [← IT.eq_of_beq h1, ← IT.eq_of_beq h2]
    exact ⟨_, rfl, rfl⟩
  | a4 f x y z t _ _ _ _ =>
    intro u h
    cases u <;> simp only [canon0, Bool.false_eq_true, Bool.and_eq_true, beq_iff_eq] at h
    obtain ⟨h0, rfl, h8, h1, h2, h3, h4⟩ := h
    have h8' : f ≠ 8 := by simpa using h8
    rw [← IT.eq_of_beq h1, ← IT.eq_of_beq h2, ← IT.eq_of_beq h3, ← IT.eq_of_beq h4]
    refine ⟨_, if_pos h0, ?_⟩
    show fn4 (f + 1) _ _ _ _ = _
    unfold fn4
    rw [if_neg (by omega), if_neg (by omega), show (f + 1) / 2 = f / 2 by omega]
def canon (s t : IT) : Bool := t.beq (.lit 1) || canon0 s t
theorem canon_spec {E : Env} (hE : QEnv E) {s t : IT} (h : canon s t = true) : ∃ q : Rat, s.den E = q.num ∧ t.den E = (q.den : Int) := by
  unfold canon at h
  rw [Bool.or_eq_true] at h
  rcases h with h | h
  · rw [IT.eq_of_beq h]
    exact ⟨⟨s.den E, 1, by omega, Nat.gcd_one_right _⟩, rfl, rfl⟩
  · exact canon0_spec hE h
theorem divInt_parts (q : Rat) : Rat.divInt q.num (q.den : Int) = q := Rat.num_divInt_den q
theorem one_ratQ {E : Env} {w : World} {s t : IT} {l m : Nat} {v : Value} (hE : QEnv E) (hc : canon s t = true) (h : one E w (true, [.int s l, .int t m]) v) : ∃ q : Rat, q = Rat.divInt (s.den E) (t.den E) ∧ s.den E = q.num ∧ t.den E = (q.den : Int) ∧ IsRat w v q ∧ Lim l q.num ∧ Lim m (q.den : Int) := by
  obtain ⟨q, e1, e2⟩ := canon_spec hE hc
  obtain ⟨a, b, c, d, rfl, h1, h2, h3, h4⟩ := one_rat.1 h
  rw [e1] at h1 h2
  rw [e2] at h3 h4
  refine ⟨q, ?_, e1, e2, ⟨a, b, c, d, rfl, h1, h3⟩, h2, h4⟩
  rw [e1, e2, divInt_parts]
def ql (l : Nat) : Bool := decide (l ≤ 100000)
/-- An operation on two rational numbers. -/
def kQQ (f : Nat) : Con
  | [.val true [.int x l, .int y m], .val true [.int z k, .int t j]], _ => if canon x y && (canon z t && (ql l && (ql m && (ql k && ql j)))) then
      some (.val true [.int (.a4 (2 * f) x y z t) (l + m + k + j + 1), .int (.a4 (2 * f + 1) x y z t) (l + m + k + j + 1)]) else none
  | _, _ => none
theorem kQQ_ok {E : Env} (hE : QEnv E) {f i : Nat} (hf : f < 4)
    (hc : ∀ (w : World) (v1 v2 : Value) (a b : Rat), IsRat w v1 a → IsRat w v2 b → LimQ 100000 a → LimQ 100000 b → Calls Tryz.prog i #[v1, v2] w (Ret (fun v w' => IsRat w' v (ratF f a b)) w))
    (hl : ∀ {l m k j : Nat} {a b : Rat}, Lim l a.num → Lim m (a.den : Int) → Lim k b.num → Lim j (b.den : Int) → Lim (l + m + k + j + 1) (ratF f a b).num ∧ Lim (l + m + k + j + 1) ((ratF f a b).den : Int))
    (hb : ∃ fn, Tryz.prog.funcs[i]? = some fn ∧ fn.name ≠ "runtime.NumGoroutine" ∧ fn.body.isNone = false) : ConOK Tryz.prog E i (kQQ f) := by
  refine ⟨?_, ?_, hb⟩
  · intro args As r h hG β w vs hv hlen
    unfold kQQ at h
    split at h
    · rename_i x l y m z k t j
      split at h
      · rename_i hlo
        injection h with h
        subst h
        simp only [ql, Bool.and_eq_true, decide_eq_true_iff] at hlo
        obtain ⟨c1, c2, b1, b2, b3, b4⟩ := hlo
        obtain ⟨v, u, rfl, h1, h2⟩ := args2 hv hlen
        obtain ⟨p, ep, ex1, ex2, hp, lp1, lp2⟩ := one_ratQ hE c1 h1
        obtain ⟨q, eq, ey1, ey2, hq, lq1, lq2⟩ := one_ratQ hE c2 h2
        obtain ⟨n1, n2⟩ := hl lp1 lp2 lq1 lq2
        refine (hc w v u p q hp hq ⟨lp1.mono (by omega), lp2.mono (by omega)⟩ ⟨lq1.mono (by omega), lq2.mono (by omega)⟩).mono ?_
        rintro e w' ⟨v', rfl, ⟨a, b, c, d, rfl, r1, r2⟩, ex⟩
        have d1 : (IT.a4 (2 * f) x y z t).den E = (ratF f p q).num := by
          show fn4 (2 * f) _ _ _ _ = _
          unfold fn4
          rw [if_pos (by omega), show 2 * f / 2 = f by omega, ← ep, ← eq]
        have d2 : (IT.a4 (2 * f + 1) x y z t).den E = ((ratF f p q).den : Int) := by
          show fn4 (2 * f + 1) _ _ _ _ = _
          unfold fn4
          rw [if_neg (by omega), if_neg (by omega), show (2 * f + 1) / 2 = f by omega, ← ep, ← eq]
        refine ⟨_, rfl, one_rat.2 ⟨a, b, c, d, rfl, ?_, ?_, ?_, ?_⟩, ex⟩
        · rw [d1]; exact r1
        · rw [d1]; exact n1
        · rw [d2]; exact r2
        · rw [d2]; exact n2
      · cases h
    · cases h
  · intro args As r h x off
    unfold kQQ at h
    split at h
    · split at h
      · injection h with h; subst h; intro e; cases e
      · cases h
    · cases h
end Go.Proofs.YtdblkeeicmncfaaGreatDoor
end

/- ---- Rdr ---- -/
section
/-
  Quotients in lowest terms, the reference's and the program's.
-/
set_option maxRecDepth 100000
namespace Go.Proofs.YtdblkeeicmncfaaGreatDoor
open Go.RowKit

def tabR2 : List (Nat × Con) := (47, kDM) :: tabR1
theorem tabR2_ok {E : Env} : TabOK Tryz.prog E tabR2 := .cons (kDMg_ok (fun w v u a b h k l1 l2 => rdivMod_fn w v u a b h k l1 l2) ⟨_, Tryz.func47, by decide +kernel, by kernel_rfl⟩) tabR1_ok

theorem red_pos (a : Int) {b : Int} (hb : 0 < b) : dq a ((Nat.gcd a.natAbs b.natAbs : Nat) : Int) = (Rat.divInt a b).num ∧ dq b ((Nat.gcd a.natAbs b.natAbs : Nat) : Int) = ((Rat.divInt a b).den : Int) := by
  have hg : 0 < Nat.gcd a.natAbs b.natAbs := Nat.gcd_pos_of_pos_right _ (by omega)
  have hgc : b.gcd a = Nat.gcd a.natAbs b.natAbs := Nat.gcd_comm _ _
  rw [Rat.num_divInt, Rat.den_divInt, if_neg (by omega), hgc, Int.sign_eq_one_of_pos hb, Int.one_mul, dq_cast _ hg]
  refine ⟨rfl, ?_⟩
  have hbn : b = (b.natAbs : Int) := by omega
  generalize Nat.gcd a.natAbs b.natAbs = g at *
  rw [hbn, dq_cast2 _ hg, ← hbn]
theorem divInt_negs (a b : Int) : Rat.divInt (-a) (-b) = Rat.divInt a b := by
  have := Rat.divInt_mul_right (n := a) (d := b) (a := -1) (by omega)
  rw [← this]
  congr 1 <;> omega
theorem red_neg (a : Int) {b : Int} (hb : b < 0) : dq (-a) ((Nat.gcd (-a).natAbs (-b).natAbs : Nat) : Int) = (Rat.divInt a b).num ∧ dq (-b) ((Nat.gcd (-a).natAbs (-b).natAbs : Nat) : Int) = ((Rat.divInt a b).den : Int) := by
  rw [← divInt_negs a b]
  exact red_pos (-a) (by omega)
theorem cmp_lt0 (b : Int) : (cmpZ b 0 < 0) ↔ b < 0 := by
  rcases cmpZ_cases b 0 with ⟨h, e⟩ | ⟨h, e⟩ | ⟨h, e⟩ <;> rw [e] <;> omega
theorem cmp_eq0 (b : Int) : (cmpZ b 0 = 0) ↔ b = 0 := by
  rcases cmpZ_cases b 0 with ⟨h, e⟩ | ⟨h, e⟩ | ⟨h, e⟩ <;> rw [e] <;> omega
theorem cmp_eqm (b : Int) : (cmpZ b 0 = -1) ↔ b < 0 := by
  rcases cmpZ_cases b 0 with ⟨h, e⟩ | ⟨h, e⟩ | ⟨h, e⟩ <;> rw [e] <;> omega
theorem divInt_lim {l m : Nat} {a b : Int} (h : Lim l a) (k : Lim m b) (hb : b ≠ 0) : Lim l (Rat.divInt a b).num ∧ Lim m ((Rat.divInt a b).den : Int) := by
  rcases Int.lt_or_gt_of_ne hb with h1 | h1
  · obtain ⟨e1, e2⟩ := red_neg a h1
    rw [← e1, ← e2]
    exact ⟨h.neg.natAbs_le (dq_abs _ _), k.neg.natAbs_le (dq_abs _ _)⟩
  · obtain ⟨e1, e2⟩ := red_pos a h1
    rw [← e1, ← e2]
    exact ⟨h.natAbs_le (dq_abs _ _), k.natAbs_le (dq_abs _ _)⟩

theorem of_calls (w : World) (v1 v2 : Value) (a b : Int) (hb : b ≠ 0) (h : IsInt w v1 a) (k : IsInt w v2 b) (l1 : Lim 400000 a) (l2 : Lim 400000 b) :
    Calls Tryz.prog 19 #[v1, v2] w (Ret (fun v w' => IsRat w' v (Rat.divInt a b)) w) := by
  refine (walkZ2 (T := .ite (.lt (.a2 3 (.var 1) (.lit 0)) (.lit 0))
    (.leaf [(true, [.int (.a2 4 (.a1 0 (.var 0)) (.a2 6 (.a1 0 (.var 0)) (.a1 0 (.var 1)))) 400000, .int (.a2 4 (.a1 0 (.var 1)) (.a2 6 (.a1 0 (.var 0)) (.a1 0 (.var 1)))) 400000])])
    (.leaf [(true, [.int (.a2 4 (.var 0) (.a2 6 (.var 0) (.var 1))) 400000, .int (.a2 4 (.var 1) (.a2 6 (.var 0) (.var 1))) 400000])]))
    tabR2_ok Tryz.func19 (by kernel_rfl) (by decide +kernel) (by decide +kernel) h k l1 l2).mono ?_
  rintro e w' ⟨β, v, rfl, hh, ex⟩
  simp only [Tree.pick] at hh
  split at hh
  · rename_i hz
    have hz' : b < 0 := (cmp_lt0 b).1 (of_decide_eq_true hz)
    obtain ⟨x, y, z, t, rfl, k1, _, k2, _⟩ := one_rat.1 hh
    obtain ⟨m1, m2⟩ := red_neg a hz'
    refine ⟨_, rfl, ⟨x, y, z, t, rfl, ?_, ?_⟩, ex⟩
    · rw [← m1]; exact k1
    · rw [← m2]; exact k2
  · rename_i hz
    have hz' : ¬ b < 0 := fun hb => hz (decide_eq_true ((cmp_lt0 b).2 hb))
    obtain ⟨x, y, z, t, rfl, k1, _, k2, _⟩ := one_rat.1 hh
    obtain ⟨m1, m2⟩ := red_pos a (show 0 < b by omega)
    refine ⟨_, rfl, ⟨x, y, z, t, rfl, ?_, ?_⟩, ex⟩
    · rw [← m1]; exact k1
    · rw [← m2]; exact k2
theorem unit_calls (w : World) : Calls Tryz.prog 42 #[] w (Ret (fun v w' => IsInt w' v 1) w) := by
  refine (walk0 (T := .leaf [(true, [.int (.lit 1) 3])]) tabR2_ok Tryz.func42 (by kernel_rfl) (by decide +kernel)).mono ?_
  rintro e w' ⟨β, v, rfl, hh, ex⟩
  exact ⟨v, rfl, (one_int.1 hh).1, ex⟩

/-- What Make returns, for every divisor. -/
def denZ (a b : Int) : Int := if b = 0 then 0 else ((Rat.divInt a b).den : Int)
def RetMake (a b : Int) (w : World) (e : Ending) (w' : World) : Prop :=
  ∃ x y z t, e = .returned (.tuple #[.agg #[x, y, z, t], .int .i64 (de b)]) ∧ IsInt w' (.agg #[x, y]) (Rat.divInt a b).num ∧ IsInt w' (.agg #[z, t]) (denZ a b) ∧ Ext w w'
theorem divInt_zero' (a : Int) : (Rat.divInt a 0).num = 0 := by rw [Rat.num_divInt]; simp
theorem make_calls (w : World) (v1 v2 : Value) (a b : Int) (h : IsInt w v1 a) (k : IsInt w v2 b) (l1 : Lim 400000 a) (l2 : Lim 400000 b) :
    Calls Tryz.prog 54 #[v1, v2] w (RetMake a b w) := by
  refine (walkZ2 (T := .ite (.eq (.a2 3 (.var 1) (.lit 0)) (.lit 0)) (.leaf [(true, [.int (.lit 0) 0, .int (.lit 0) 0]), (false, [.n .i64 (.lit 6)])])
    (.ite (.eq (.a2 3 (.var 1) (.lit 0)) (.lit (-1)))
    (.leaf [(true, [.int (.a2 4 (.a1 0 (.var 0)) (.a2 6 (.a1 0 (.var 0)) (.a1 0 (.var 1)))) 400000, .int (.a2 4 (.a1 0 (.var 1)) (.a2 6 (.a1 0 (.var 0)) (.a1 0 (.var 1)))) 400000]), (false, [.n .i64 (.lit 0)])])
    (.leaf [(true, [.int (.a2 4 (.var 0) (.a2 6 (.var 0) (.var 1))) 400000, .int (.a2 4 (.var 1) (.a2 6 (.var 0) (.var 1))) 400000]), (false, [.n .i64 (.lit 0)])])))
    tabDiv_ok Tryz.func54 (by kernel_rfl) (by decide +kernel) (by decide +kernel) h k l1 l2).mono ?_
  rintro e w' ⟨β, v, rfl, hh, ex⟩
  have open_ : ∀ (s t u : IT) (l m : Nat), (AV.tup [(true, [.int s l, .int t m]), (false, [.n .i64 u])]).holds (zE [a, b]) β w' v → s.den (zE [a, b]) = (Rat.divInt a b).num → t.den (zE [a, b]) = denZ a b → u.den (zE [a, b]) = de b → RetMake a b w (.returned v) w' := by
    intro s t u l m hx e1 e2 e3
    obtain ⟨vs, rfl, u1, r1, rfl, k1, u2, r2, rfl, k2, hn⟩ := hx
    simp only [tupAll] at hn
    subst hn
    have k2' := one_num.1 k2
    subst k2'
    obtain ⟨x, y, z, t', rfl, j1, _, j2, _⟩ := one_rat.1 k1
    rw [e1] at j1
    rw [e2] at j2
    exact ⟨x, y, z, t', by rw [e3], j1, j2, ex⟩
  simp only [Tree.pick] at hh
  split at hh
  · rename_i hz
    have hz' : b = 0 := (cmp_eq0 b).1 (eq_of_beq hz)
    subst hz'
    exact open_ _ _ _ _ _ hh (divInt_zero' a).symm rfl rfl
  · rename_i hz
    have hb : b ≠ 0 := fun hb => hz (beq_iff_eq.2 ((cmp_eq0 b).2 hb))
    have e3 : (0 : Int) = de b := by unfold de; rw [if_neg hb]
    have e2 : denZ a b = ((Rat.divInt a b).den : Int) := by unfold denZ; rw [if_neg hb]
    split at hh
    · rename_i hz
      have hz' : b < 0 := (cmp_eqm b).1 (eq_of_beq hz)
      obtain ⟨m1, m2⟩ := red_neg a hz'
      exact open_ _ _ _ _ _ hh m1 (by rw [e2]; exact m2) e3
    · rename_i hz
      have hz' : ¬ b < 0 := fun hb => hz (beq_iff_eq.2 ((cmp_eqm b).2 hb))
      obtain ⟨m1, m2⟩ := red_pos a (show 0 < b by omega)
      exact open_ _ _ _ _ _ hh m1 (by rw [e2]; exact m2) e3

end Go.Proofs.YtdblkeeicmncfaaGreatDoor
end

/- ---- Rds ---- -/
section
/-
  Quotients of rational numbers, the reference's and the program's; sums and products of the reference.
-/
set_option maxRecDepth 100000
namespace Go.Proofs.YtdblkeeicmncfaaGreatDoor
open Go.RowKit

/-- Two integers in a rational number's place. -/
def IsPair (w : World) (v : Value) (n d : Int) : Prop := ∃ a b c e, v = .agg #[a, b, c, e] ∧ IsInt w (.agg #[a, b]) n ∧ IsInt w (.agg #[c, e]) d
theorem IsPair.ext {w w' : World} {v : Value} {n d : Int} (h : IsPair w v n d) (e : Ext w w') : IsPair w' v n d := by
  obtain ⟨a, b, c, f, h1, h2, h3⟩ := h
  exact ⟨a, b, c, f, h1, h2.ext e, h3.ext e⟩
theorem IsRat.pair {w : World} {v : Value} {q : Rat} (h : IsRat w v q) : IsPair w v q.num (q.den : Int) := h
theorem argP_holds {E : Env} {β : Nat → Nat} {w : World} {v : Value} {n d : Int} {i : Nat} (h : IsPair w v n d) (l1 : Lim 100000 n) (l2 : Lim 100000 d) (e1 : E.i (2 * i) = n) (e2 : E.i (2 * i + 1) = d) : (argQ i).holds E β w v := by
  obtain ⟨a, b, c, f, rfl, h1, h2⟩ := h
  refine one_rat.2 ⟨a, b, c, f, rfl, ?_, ?_, ?_, ?_⟩
  · show IsInt w _ (E.i (2 * i)); rw [e1]; exact h1
  · show Lim 100000 (E.i (2 * i)); rw [e1]; exact l1
  · show IsInt w _ (E.i (2 * i + 1)); rw [e2]; exact h2
  · show Lim 100000 (E.i (2 * i + 1)); rw [e2]; exact l2
theorem walkP2 {tab : List (Nat × Con)} {f : Nat} {fn : Func} {T : Tree} {w : World} {n1 d1 n2 d2 : Int} {v1 v2 : Value} (ht : TabOK Tryz.prog (zE [n1, d1, n2, d2]) tab) (hf : Tryz.prog.funcs[f]? = some fn) (hT : funE (cfgOf tab) fn [] [argQ 0, argQ 1] = some T) (h4 : fn.results.toList.length ≤ 4) (hn : 2 ≤ fn.ntmps)
    (h1 : IsPair w v1 n1 d1) (h2 : IsPair w v2 n2 d2) (l1 : Lim 100000 n1) (l1' : Lim 100000 d1) (l2 : Lim 100000 n2) (l2' : Lim 100000 d2) :
    Calls Tryz.prog f #[v1, v2] w fun e w' => ∃ β v, e = .returned v ∧ (toAV (T.pick (zE [n1, d1, n2, d2]))).holds (zE [n1, d1, n2, d2]) β w' v ∧ Ext w w' := by
  refine fun_sound mixed (cfg_ok ht) no_asm hf h4 hT hn rfl w [v1, v2] rfl ?_
  intro i x hx
  match i, hx with
  | 0, hx => injection hx with hx; subst hx; exact ⟨fun _ => 0, v1, rfl, argP_holds h1 l1 l1' rfl rfl⟩
  | 1, hx => injection hx with hx; subst hx; exact ⟨fun _ => 0, v2, rfl, argP_holds h2 l2 l2' rfl rfl⟩
theorem one_pair {E : Env} {w : World} {s t : IT} {l m : Nat} {v : Value} : one E w (true, [.int s l, .int t m]) v ↔ IsPair w v (s.den E) (t.den E) ∧ Lim l (s.den E) ∧ Lim m (t.den E) := by
  rw [one_rat]
  constructor
  · rintro ⟨a, b, c, d, rfl, h1, h2, h3, h4⟩
    exact ⟨⟨a, b, c, d, rfl, h1, h3⟩, h2, h4⟩
  · rintro ⟨⟨a, b, c, d, rfl, h1, h3⟩, h2, h4⟩
    exact ⟨a, b, c, d, rfl, h1, h2, h3, h4⟩

def kMulRaw : Con
  | [.val true [.int x l, .int y m], .val true [.int z k, .int t j]], _ => if ql l && (ql m && (ql k && ql j)) || decide (l ≤ 100000) && (decide (m ≤ 100000) && (decide (k ≤ 100000) && decide (j ≤ 100000))) then
      some (.val true [.int (.a2 2 (.a2 4 x (.a2 6 x t)) (.a2 4 z (.a2 6 z y))) (l + k), .int (.a2 2 (.a2 4 y (.a2 6 z y)) (.a2 4 t (.a2 6 x t))) (m + j)]) else none
  | _, _ => none
theorem sign_rat_calls (w : World) (v1 : Value) (n d : Int) (h1 : IsPair w v1 n d) (l1 : Lim 100000 n) (l1' : Lim 100000 d) : Calls Tryz.prog 31 #[v1] w fun e w' => e = .returned (.int .i64 (cmpZ n 0)) ∧ Ext w w' := by
  refine (fun_sound (E := zE [n, d]) (args := [argQ 0]) (T := .leaf [(false, [.n .i64 (.a2 3 (.var 0) (.lit 0))])]) mixed (cfg_ok tabDiv_ok) no_asm Tryz.func31 (by decide +kernel) (by kernel_rfl) (by decide +kernel) rfl w [v1] rfl ?_).mono ?_
  · intro i x hx
    match i, hx with
    | 0, hx => injection hx with hx; subst hx; exact ⟨fun _ => 0, v1, rfl, argP_holds h1 l1 l1' rfl rfl⟩
  · rintro e w' ⟨β, v, rfl, hh, ex⟩
    have := one_num.1 hh
    subst this
    exact ⟨rfl, ex⟩
def kSg : Con
  | [.val true [.int x l, .int _ m]], _ => if decide (l ≤ 100000) && decide (m ≤ 100000) then some (.val false [.n .i64 (.a2 3 x (.lit 0))]) else none
  | _, _ => none
theorem kSg_ok {E : Env} : ConOK Tryz.prog E 31 kSg := by
  refine ⟨?_, ?_, ⟨_, Tryz.func31, by decide +kernel, by kernel_rfl⟩⟩
  · intro args As r h hG β w vs hv hlen
    unfold kSg at h
    split at h
    · split at h
      · rename_i hlo
        injection h with h
        subst h
        simp only [Bool.and_eq_true, decide_eq_true_iff] at hlo
        obtain ⟨v, rfl, h1⟩ := args1 hv hlen
        obtain ⟨p1, a1, a2⟩ := one_pair.1 h1
        refine (sign_rat_calls w v _ _ p1 (a1.mono hlo.1) (a2.mono hlo.2)).mono ?_
        rintro e w' ⟨rfl, ex⟩
        exact ⟨_, rfl, one_num.2 rfl, ex⟩
      · cases h
    · cases h
  · intro args As r h x off
    unfold kSg at h
    split at h
    · split at h
      · injection h with h; subst h; intro e; cases e
      · cases h
    · cases h
def tabMul : List (Nat × Con) :=  (31, kSg) :: tabDiv
theorem tabMul_ok {E : Env} : TabOK Tryz.prog E tabMul := by
  
  refine .cons kSg_ok ?_ 
  exact tabDiv_ok

/-- What Div returns, for every divisor. -/
def divD (a b : Rat) : Int := if b = 0 then 0 else ((a / b).den : Int)
def RetDiv (a b : Rat) (w : World) (e : Ending) (w' : World) : Prop :=
  ∃ v, e = .returned (.tuple #[v, .int .i64 (de b.num)]) ∧ IsPair w' v (a / b).num (divD a b) ∧ Ext w w'
theorem open_quot {E : Env} {β : Nat → Nat} {w' : World} {v : Value} {s t u : IT} {l m : Nat} (hx : (AV.tup [(true, [.int s l, .int t m]), (false, [.n .i64 u])]).holds E β w' v) :
    ∃ p, v = .tuple #[p, .int .i64 (u.den E)] ∧ IsPair w' p (s.den E) (t.den E) := by
  obtain ⟨vs, rfl, u1, r1, rfl, k1, u2, r2, rfl, k2, hn⟩ := hx
  simp only [tupAll] at hn
  subst hn
  have k2' := one_num.1 k2
  subst k2'
  exact ⟨u1, rfl, (one_pair.1 k1).1⟩
end Go.Proofs.YtdblkeeicmncfaaGreatDoor
end

/- ---- Rdt ---- -/
section
/-
  The reference's rational numbers.
-/
set_option maxRecDepth 100000
namespace Go.Proofs.YtdblkeeicmncfaaGreatDoor
open Go.RowKit

/-- Terms that are not 0. -/
def nz (q : Bool) : IT → Bool
  | .var i => q && i % 2 == 1
  | .lit z => z != 0
  | .a2 f x y => f == 2 && (nz q x && nz q y) || f == 8
  | .a4 f _ _ _ _ => f % 2 == 1 && f != 9
  | _ => false
theorem nz_spec {E : Env} {q : Bool} (hE : q = true → QEnv E) : ∀ {t : IT}, nz q t = true → t.den E ≠ 0 := by
  intro t
  induction t with
  | var i =>
    intro h
    simp only [nz, Bool.and_eq_true, beq_iff_eq] at h
    obtain ⟨q', _, h2⟩ := hE h.1 (i - 1) (by omega)
    rw [show i - 1 + 1 = i by omega] at h2
    show E.i i ≠ 0
    rw [h2]
    have := q'.den_pos
    omega
  | lit z => intro h; simpa [nz, IT.den] using h
  | a2 f x y ihx ihy =>
    intro h
    simp only [nz, Bool.or_eq_true, Bool.and_eq_true, beq_iff_eq] at h
    rcases h with ⟨rfl, h1, h2⟩ | rfl
    · exact Int.mul_ne_zero (ihx h1) (ihy h2)
    · show ((Rat.divInt _ _).den : Int) ≠ 0
      have := (Rat.divInt (x.den E) (y.den E)).den_pos
      omega
  | a4 f x y z t _ _ _ _ =>
    intro h
    simp only [nz, Bool.and_eq_true, beq_iff_eq, bne_iff_ne] at h
    show fn4 f _ _ _ _ ≠ 0
    unfold fn4
    rw [if_neg (by omega), if_neg (fun e => h.2 e.1)]
    have := (ratF (f / 2) (Rat.divInt (x.den E) (y.den E)) (Rat.divInt (z.den E) (t.den E))).den_pos
    omega
  | _ => intro h; cases h
def kOf (q : Bool) : Con
  | [.val true [.int x l], .val true [.int y m]], G => if lo l && (lo m && (nz q y || (G.find (.eq (.a2 3 y (.lit 0)) (.lit 0)) == some false || G.find (.eq y (.lit 0)) == some false))) then some (.val true [.int (.a2 7 x y) l, .int (.a2 8 x y) m]) else none
  | _, _ => none
theorem kOf_ok {E : Env} {q : Bool} (hE : q = true → QEnv E) : ConOK Tryz.prog E 19 (kOf q) := by
  refine ⟨?_, ?_, ⟨_, Tryz.func19, by decide +kernel, by kernel_rfl⟩⟩
  · intro args As r h hG β w vs hv hlen
    unfold kOf at h
    split at h
    · rename_i x l y m
      split at h
      · rename_i hlo
        injection h with h
        subst h
        simp only [lo, Bool.and_eq_true, Bool.or_eq_true, decide_eq_true_iff, beq_iff_eq] at hlo
        obtain ⟨b1, b2, b3⟩ := hlo
        have hy : y.den E ≠ 0 := by
          rcases b3 with b3 | b3 | b3
          · exact nz_spec hE b3
          · have := Asm.find_spec hG b3
            intro e
            have h2 : (cmpZ (y.den E) 0 == 0) = false := this
            rw [e] at h2
            cases h2
          · have := Asm.find_spec hG b3
            intro e
            have h2 : (y.den E == 0) = false := this
            rw [e] at h2
            cases h2
        obtain ⟨v, u, rfl, h1, h2⟩ := args2 hv hlen
        obtain ⟨i1, l1⟩ := one_int.1 h1
        obtain ⟨i2, l2⟩ := one_int.1 h2
        refine (of_calls w v u _ _ hy i1 i2 (l1.mono b1) (l2.mono b2)).mono ?_
        rintro e w' ⟨v', rfl, hp, ex⟩
        obtain ⟨n1, n2⟩ := divInt_lim l1 l2 hy
        exact ⟨v', rfl, one_pair.2 ⟨hp, n1, n2⟩, ex⟩
      · cases h
    · cases h
  · intro args As r h x off
    unfold kOf at h
    split at h
    · split at h
      · injection h with h; subst h; intro e; cases e
      · cases h
    · cases h
def kMake : Con
  | [.val true [.int x l], .val true [.int y m]], _ => if lo l && lo m then some (.tup [(true, [.int (.a2 7 x y) l, .int (.a2 11 x y) m]), (false, [.n .i64 (.a1 1 y)])]) else none
  | _, _ => none
theorem lim_zero {l : Nat} : Lim l 0 := by unfold Lim; rw [Int.natAbs_zero, limbs_zero]; exact Nat.zero_le _
theorem kMake_ok {E : Env} {f : Nat} (hc : ∀ (w : World) (v u : Value) (a b : Int), IsInt w v a → IsInt w u b → Lim 400000 a → Lim 400000 b → Calls Tryz.prog f #[v, u] w (RetMake a b w))
    (hb : ∃ fn, Tryz.prog.funcs[f]? = some fn ∧ fn.name ≠ "runtime.NumGoroutine" ∧ fn.body.isNone = false) : ConOK Tryz.prog E f kMake := by
  refine ⟨?_, ?_, hb⟩
  · intro args As r h hG β w vs hv hlen
    unfold kMake at h
    split at h
    · rename_i x l y m
      split at h
      · rename_i hlo
        injection h with h
        subst h
        simp only [lo, Bool.and_eq_true, decide_eq_true_iff] at hlo
        obtain ⟨v, u, rfl, h1, h2⟩ := args2 hv hlen
        obtain ⟨i1, l1⟩ := one_int.1 h1
        obtain ⟨i2, l2⟩ := one_int.1 h2
        refine (hc w v u _ _ i1 i2 (l1.mono (by omega)) (l2.mono (by omega))).mono ?_
        rintro e w' ⟨a, b, c, d, rfl, k1, k2, ex⟩
        have hlim : Lim l (Rat.divInt (x.den E) (y.den E)).num ∧ Lim m (denZ (x.den E) (y.den E)) := by
          unfold denZ
          by_cases hy : y.den E = 0
          · rw [if_pos hy, hy, divInt_zero']
            exact ⟨lim_zero, lim_zero⟩
          · rw [if_neg hy]
            exact divInt_lim l1 l2 hy
        exact ⟨_, rfl, ⟨[.agg #[a, b, c, d], .int .i64 (de (y.den E))], rfl, _, _, rfl, one_pair.2 ⟨⟨a, b, c, d, rfl, k1, k2⟩, hlim.1, hlim.2⟩, _, _, rfl, one_num.2 rfl, rfl⟩, ex⟩
      · cases h
    · cases h
  · intro args As r h x off
    unfold kMake at h
    split at h
    · split at h
      · injection h with h; subst h; intro e; cases e
      · cases h
    · cases h
def tabR3 (q : Bool) : List (Nat × Con) := (19, kOf q) :: (42, k0 (.lit 1) 3) :: tabR2
theorem tabR3_ok {E : Env} {q : Bool} (hE : q = true → QEnv E) : TabOK Tryz.prog E (tabR3 q) :=
  .cons (kOf_ok hE) (.cons (k0_ok 1 rfl (fun w => unit_calls w) (lim3 (by decide) (by decide)) ⟨_, Tryz.func42, by decide +kernel, by kernel_rfl⟩) tabR2_ok)
theorem qE_ok (l : List Rat) : QEnv (qE l) := by
  intro i hi
  refine ⟨l.getD (i / 2) 0, ?_, ?_⟩
  · show (if i % 2 = 0 then _ else _) = _
    rw [if_pos hi]
  · show (if (i + 1) % 2 = 0 then _ else _) = _
    rw [if_neg (by omega), show (i + 1) / 2 = i / 2 by omega]
theorem rmake_calls (w : World) (v1 v2 : Value) (a b : Int) (h : IsInt w v1 a) (k : IsInt w v2 b) (l1 : Lim 400000 a) (l2 : Lim 400000 b) :
    Calls Tryz.prog 108 #[v1, v2] w (RetMake a b w) := by
  refine (walkZ2 (T := .ite (.eq (.a2 3 (.var 1) (.lit 0)) (.lit 0)) (.leaf [(true, [.int (.lit 0) 0, .int (.lit 0) 0]), (false, [.n .i64 (.lit 6)])])
    (.leaf [(true, [.int (.a2 7 (.var 0) (.var 1)) 400000, .int (.a2 8 (.var 0) (.var 1)) 400000]), (false, [.n .i64 (.lit 0)])]))
    (tabR3_ok (q := false) (fun h => by cases h)) Tryz.func108 (by kernel_rfl) (by decide +kernel) (by decide +kernel) h k l1 l2).mono ?_
  rintro e w' ⟨β, v, rfl, hh, ex⟩
  simp only [Tree.pick] at hh
  split at hh
  · rename_i hz
    have hz' : b = 0 := (cmp_eq0 b).1 (eq_of_beq hz)
    subst hz'
    obtain ⟨p, rfl, x, y, z, t, rfl, k1, k2⟩ := open_quot hh
    exact ⟨x, y, z, t, rfl, by rw [divInt_zero']; exact k1, k2, ex⟩
  · rename_i hz
    have hb : b ≠ 0 := fun hb => hz (beq_iff_eq.2 ((cmp_eq0 b).2 hb))
    obtain ⟨p, rfl, x, y, z, t, rfl, k1, k2⟩ := open_quot hh
    refine ⟨x, y, z, t, ?_, k1, ?_, ex⟩
    · unfold de; rw [if_neg hb]; rfl
    · unfold denZ; rw [if_neg hb]; exact k2
theorem den_ne (q : Rat) : (q.den : Int) ≠ 0 := by have := q.den_pos; omega
theorem radd_rat_calls (w : World) (v1 v2 : Value) (a b : Rat) (h1 : IsRat w v1 a) (h2 : IsRat w v2 b) (l1 : LimQ 100000 a) (l2 : LimQ 100000 b) :
    Calls Tryz.prog 69 #[v1, v2] w (Ret (fun v w' => IsRat w' v (a + b)) w) := by
  refine (walkQ2 (T := .leaf [(true, [.int (.a2 7 (.a2 0 (.a2 2 (.var 0) (.var 3)) (.a2 2 (.var 2) (.var 1))) (.a2 2 (.var 1) (.var 3))) 200001, .int (.a2 8 (.a2 0 (.a2 2 (.var 0) (.var 3)) (.a2 2 (.var 2) (.var 1))) (.a2 2 (.var 1) (.var 3))) 200000])])
    (tabR3_ok (q := true) (fun _ => qE_ok _)) Tryz.func69 (by kernel_rfl) (by decide +kernel) (by decide +kernel) h1 h2 l1 l2).mono ?_
  rintro e w' ⟨β, v, rfl, hh, ex⟩
  have e1 : a + b = Rat.divInt (a.num * (b.den : Int) + b.num * (a.den : Int)) ((a.den : Int) * (b.den : Int)) := by
    rw [← Rat.divInt_add_divInt _ _ (den_ne a) (den_ne b), divInt_parts, divInt_parts]
  exact ⟨v, rfl, by rw [e1]; exact (one_pair.1 hh).1, ex⟩
theorem rmul_rat_calls (w : World) (v1 v2 : Value) (a b : Rat) (h1 : IsRat w v1 a) (h2 : IsRat w v2 b) (l1 : LimQ 100000 a) (l2 : LimQ 100000 b) :
    Calls Tryz.prog 17 #[v1, v2] w (Ret (fun v w' => IsRat w' v (a * b)) w) := by
  refine (walkQ2 (T := .leaf [(true, [.int (.a2 7 (.a2 2 (.var 0) (.var 2)) (.a2 2 (.var 1) (.var 3))) 200000, .int (.a2 8 (.a2 2 (.var 0) (.var 2)) (.a2 2 (.var 1) (.var 3))) 200000])])
    (tabR3_ok (q := true) (fun _ => qE_ok _)) Tryz.func17 (by kernel_rfl) (by decide +kernel) (by decide +kernel) h1 h2 l1 l2).mono ?_
  rintro e w' ⟨β, v, rfl, hh, ex⟩
  have e1 : a * b = Rat.divInt (a.num * b.num) ((a.den : Int) * (b.den : Int)) := by
    rw [← Rat.divInt_mul_divInt, divInt_parts, divInt_parts]
  exact ⟨v, rfl, by rw [e1]; exact (one_pair.1 hh).1, ex⟩
theorem rneg_rat_calls (w : World) (v1 : Value) (a : Rat) (h1 : IsRat w v1 a) (l1 : LimQ 100000 a) :
    Calls Tryz.prog 37 #[v1] w (Ret (fun v w' => IsRat w' v (-a)) w) := by
  refine (walkQ1 (T := .leaf [(true, [.int (.a1 0 (.var 0)) 100000, .int (.var 1) 100000])])
    (tabR3_ok (q := true) (fun _ => qE_ok _)) Tryz.func37 (by kernel_rfl) (by decide +kernel) (by decide +kernel) h1 l1).mono ?_
  rintro e w' ⟨β, v, rfl, hh, ex⟩
  exact ⟨v, rfl, (one_pair.1 hh).1, ex⟩
def tabR4 (q : Bool) : List (Nat × Con) := (108, kMake) :: tabR3 q
theorem tabR4_ok {E : Env} {q : Bool} (hE : q = true → QEnv E) : TabOK Tryz.prog E (tabR4 q) :=
  .cons (kMake_ok (fun w v u a b h k l1 l2 => rmake_calls w v u a b h k l1 l2) ⟨_, Tryz.func108, by decide +kernel, by kernel_rfl⟩) (tabR3_ok hE)
theorem rdiv_rat_calls (w : World) (v1 v2 : Value) (a b : Rat) (h1 : IsRat w v1 a) (h2 : IsRat w v2 b) (l1 : LimQ 100000 a) (l2 : LimQ 100000 b) :
    Calls Tryz.prog 95 #[v1, v2] w (RetDiv a b w) := by
  refine (walkQ2 (T := .leaf [(true, [.int (.a2 7 (.a2 2 (.var 0) (.var 3)) (.a2 2 (.var 1) (.var 2))) 200000, .int (.a2 11 (.a2 2 (.var 0) (.var 3)) (.a2 2 (.var 1) (.var 2))) 200000]), (false, [.n .i64 (.a1 1 (.a2 2 (.var 1) (.var 2)))])])
    (tabR4_ok (q := true) (fun _ => qE_ok _)) Tryz.func95 (by kernel_rfl) (by decide +kernel) (by decide +kernel) h1 h2 l1 l2).mono ?_
  rintro e w' ⟨β, v, rfl, hh, ex⟩
  obtain ⟨p, rfl, hp⟩ := open_quot hh
  have e1 : a / b = Rat.divInt (a.num * (b.den : Int)) ((a.den : Int) * b.num) := by
    rw [← Rat.divInt_mul_divInt, divInt_parts, ← Rat.inv_divInt, divInt_parts, Rat.div_def]
  have e0 : ((a.den : Int) * b.num = 0) ↔ b = 0 := by
    rw [Int.mul_eq_zero, ← Rat.num_eq_zero]
    exact ⟨fun h => h.resolve_left (den_ne a), .inr⟩
  have e2 : divD a b = denZ (a.num * (b.den : Int)) ((a.den : Int) * b.num) := by
    unfold divD denZ
    rw [e1]
    by_cases hb : b = 0
    · rw [if_pos hb, if_pos (e0.2 hb)]
    · rw [if_neg hb, if_neg (fun h => hb (e0.1 h))]
  have e3 : de b.num = de ((a.den : Int) * b.num) := by
    unfold de
    by_cases hb : b = 0
    · rw [if_pos (Rat.num_eq_zero.2 hb), if_pos (e0.2 hb)]
    · rw [if_neg (fun h => hb (Rat.num_eq_zero.1 h)), if_neg (fun h => hb (e0.1 h))]
  exact ⟨p, by rw [e3]; rfl, by rw [e2, e1]; exact hp, ex⟩

end Go.Proofs.YtdblkeeicmncfaaGreatDoor
end

/- ---- Rdu ---- -/
section
/-
  What the walker knows of rational numbers, the program's and the reference's.
-/
set_option maxRecDepth 100000
namespace Go.Proofs.YtdblkeeicmncfaaGreatDoor
open Go.RowKit

theorem fn4_num {f : Nat} (hf : f % 2 = 0) (a b : Rat) : fn4 f a.num (a.den : Int) b.num (b.den : Int) = (ratF (f / 2) a b).num := by
  unfold fn4
  rw [if_pos hf, divInt_parts, divInt_parts]
theorem fn4_den {f : Nat} (hf : f % 2 = 1) (h9 : f ≠ 9) (a b : Rat) : fn4 f a.num (a.den : Int) b.num (b.den : Int) = ((ratF (f / 2) a b).den : Int) := by
  unfold fn4
  rw [if_neg (by omega), if_neg (fun e => h9 e.1), divInt_parts, divInt_parts]
theorem args3 {E : Env} {β : Nat → Nat} {w : World} {x y z : AV} {vs : List Value} (hv : ∀ (i : Nat) (a : AV), [x, y, z][i]? = some a → ∃ v, vs[i]? = some v ∧ a.holds E β w v) (hl : vs.length = [x, y, z].length) :
    ∃ v u t, vs = [v, u, t] ∧ x.holds E β w v ∧ y.holds E β w u ∧ z.holds E β w t := by
  match vs, hl with
  | [v, u, t], _ =>
    obtain ⟨v', e1, h1⟩ := hv 0 x rfl
    obtain ⟨u', e2, h2⟩ := hv 1 y rfl
    obtain ⟨t', e3, h3⟩ := hv 2 z rfl
    injection e1 with e1
    injection e2 with e2
    injection e3 with e3
    subst e1 e2 e3
    exact ⟨_, _, _, rfl, h1, h2, h3⟩
/-- The sum, which is told how to combine. -/
def kSum (f g : Nat) : Con
  | [.val true [.int x l, .int y m], .val true [.int z k, .int t j], .val false [.fn h]], _ => if h == g && (canon x y && (canon z t && (decide (l ≤ 100000) && (decide (m ≤ 100000) && (decide (k ≤ 100000) && decide (j ≤ 100000)))))) then
      some (.val true [.int (.a4 (2 * f) x y z t) (l + m + k + j + 1), .int (.a4 (2 * f + 1) x y z t) (l + m + k + j + 1)]) else none
  | _, _ => none
/-- A rational number, with its sign turned. -/
def kNegQ : Con
  | [.val true [.int x l, .int y m]], _ => if canon x y && (decide (l ≤ 100000) && decide (m ≤ 100000)) then some (.val true [.int (.a1 0 x) l, .int y m]) else none
  | _, _ => none
theorem kNegQ_ok {E : Env} (hE : QEnv E) {f : Nat} (hc : ∀ (w : World) (v1 : Value) (a : Rat), IsRat w v1 a → LimQ 100000 a → Calls Tryz.prog f #[v1] w (Ret (fun v w' => IsRat w' v (-a)) w))
    (hb : ∃ fn, Tryz.prog.funcs[f]? = some fn ∧ fn.name ≠ "runtime.NumGoroutine" ∧ fn.body.isNone = false) : ConOK Tryz.prog E f kNegQ := by
  refine ⟨?_, ?_, hb⟩
  · intro args As r h hG β w vs hv hlen
    unfold kNegQ at h
    split at h
    · rename_i x l y m
      split at h
      · rename_i hlo
        injection h with h
        subst h
        simp only [Bool.and_eq_true, decide_eq_true_iff] at hlo
        obtain ⟨c1, b1, b2⟩ := hlo
        obtain ⟨v, rfl, h1⟩ := args1 hv hlen
        obtain ⟨p, ep, ex1, ex2, hp, lp1, lp2⟩ := one_ratQ hE c1 h1
        refine (hc w v p hp ⟨lp1.mono b1, lp2.mono b2⟩).mono ?_
        rintro e w' ⟨v', rfl, hr, ex⟩
        have d1 : (IT.a1 0 x).den E = (-p).num := by rw [Rat.neg_num, ← ex1]; rfl
        exact ⟨_, rfl, one_pair.2 ⟨by rw [d1, ex2]; exact hr, by rw [d1]; exact lp1.neg, by rw [ex2]; exact lp2⟩, ex⟩
      · cases h
    · cases h
  · intro args As r h x off
    unfold kNegQ at h
    split at h
    · split at h
      · injection h with h; subst h; intro e; cases e
      · cases h
    · cases h
def tabR5 : List (Nat × Con) := [(37, kNegQ), (69, kQQ 0)]
theorem tabR5_ok {E : Env} (hE : QEnv E) : TabOK Tryz.prog E tabR5 :=
  .cons (kNegQ_ok hE (fun w v a h l => rneg_rat_calls w v a h l) ⟨_, Tryz.func37, by decide +kernel, by kernel_rfl⟩)
    (.cons (kQQ_ok hE (by omega) (fun w v1 v2 a b h1 h2 l1 l2 => radd_rat_calls w v1 v2 a b h1 h2 l1 l2) (fun h1 h2 h3 h4 => LimQ.add h1 h2 h3 h4) ⟨_, Tryz.func69, by decide +kernel, by kernel_rfl⟩) .nil)

end Go.Proofs.YtdblkeeicmncfaaGreatDoor
end

/- ---- Rdv ---- -/
section
/-
  The other functions of rational numbers.
-/
set_option maxRecDepth 100000
namespace Go.Proofs.YtdblkeeicmncfaaGreatDoor
open Go.RowKit

theorem rsub_rat_calls (w : World) (v1 v2 : Value) (a b : Rat) (h1 : IsRat w v1 a) (h2 : IsRat w v2 b) (l1 : LimQ 100000 a) (l2 : LimQ 100000 b) :
    Calls Tryz.prog 71 #[v1, v2] w (Ret (fun v w' => IsRat w' v (a - b)) w) := by
  refine (walkQ2 (T := .leaf [(true, [.int (.a4 0 (.var 0) (.var 1) (.a1 0 (.var 2)) (.var 3)) 400001, .int (.a4 1 (.var 0) (.var 1) (.a1 0 (.var 2)) (.var 3)) 400001])])
    (tabR5_ok (qE_ok _)) Tryz.func71 (by kernel_rfl) (by decide +kernel) (by decide +kernel) h1 h2 l1 l2).mono ?_
  rintro e w' ⟨β, v, rfl, hh, ex⟩
  have hp := (one_pair.1 hh).1
  have d1 : (IT.a4 0 (.var 0) (.var 1) (.a1 0 (.var 2)) (.var 3)).den (qE [a, b]) = (a - b).num := by rw [Rat.sub_eq_add_neg]; exact fn4_num rfl a (-b)
  have d2 : (IT.a4 1 (.var 0) (.var 1) (.a1 0 (.var 2)) (.var 3)).den (qE [a, b]) = ((a - b).den : Int) := by rw [Rat.sub_eq_add_neg]; exact fn4_den rfl (by omega) a (-b)
  rw [d1, d2] at hp
  exact ⟨v, rfl, hp, ex⟩

/-- Numbers that came as int64. -/
def bnd (i : Nat) : Asm := [(.le (.lit (-9223372036854775808)) (.var i), true), (.le (.var i) (.lit 9223372036854775807), true)]
def argN (i : Nat) : AV := .val false [.n .i64 (.var i)]
def I64 (n : Int) : Prop := -9223372036854775808 ≤ n ∧ n ≤ 9223372036854775807
theorem bnd_holds {E : Env} {i : Nat} (h : I64 (E.i i)) : (bnd i).holds E := by
  intro p hp
  simp only [bnd, List.mem_cons, List.not_mem_nil, or_false] at hp
  rcases hp with rfl | rfl
  · exact decide_eq_true h.1
  · exact decide_eq_true h.2
theorem walkN1 {tab : List (Nat × Con)} {f : Nat} {fn : Func} {T : Tree} {w : World} {n : Int} (ht : TabOK Tryz.prog (zE [n]) tab) (hf : Tryz.prog.funcs[f]? = some fn) (hT : funE (cfgOf tab) fn (bnd 0) [argN 0] = some T) (h4 : fn.results.toList.length ≤ 4) (hn : 1 ≤ fn.ntmps) (h : I64 n) :
    Calls Tryz.prog f #[.int .i64 n] w fun e w' => ∃ β v, e = .returned v ∧ (toAV (T.pick (zE [n]))).holds (zE [n]) β w' v ∧ Ext w w' := by
  refine fun_sound mixed (cfg_ok ht) (bnd_holds (E := zE [n]) (i := 0) h) hf h4 hT hn rfl w [.int .i64 n] rfl ?_
  intro i x hx
  match i, hx with
  | 0, hx => injection hx with hx; subst hx; exact ⟨fun _ => 0, _, rfl, one_num.2 rfl⟩
theorem walkN2 {tab : List (Nat × Con)} {f : Nat} {fn : Func} {T : Tree} {w : World} {n d : Int} (ht : TabOK Tryz.prog (zE [n, d]) tab) (hf : Tryz.prog.funcs[f]? = some fn) (hT : funE (cfgOf tab) fn (bnd 0 ++ bnd 1) [argN 0, argN 1] = some T) (h4 : fn.results.toList.length ≤ 4) (hn : 2 ≤ fn.ntmps) (h : I64 n) (k : I64 d) :
    Calls Tryz.prog f #[.int .i64 n, .int .i64 d] w fun e w' => ∃ β v, e = .returned v ∧ (toAV (T.pick (zE [n, d]))).holds (zE [n, d]) β w' v ∧ Ext w w' := by
  have hG : (bnd 0 ++ bnd 1).holds (zE [n, d]) := by
    intro p hp
    rcases List.mem_append.1 hp with hp | hp
    · exact bnd_holds (E := zE [n, d]) (i := 0) h p hp
    · exact bnd_holds (E := zE [n, d]) (i := 1) k p hp
  refine fun_sound mixed (cfg_ok ht) hG hf h4 hT hn rfl w [.int .i64 n, .int .i64 d] rfl ?_
  intro i x hx
  match i, hx with
  | 0, hx => injection hx with hx; subst hx; exact ⟨fun _ => 0, _, rfl, one_num.2 rfl⟩
  | 1, hx => injection hx with hx; subst hx; exact ⟨fun _ => 0, _, rfl, one_num.2 rfl⟩
theorem from_rat_calls (w : World) (n : Int) (h : I64 n) : Calls Tryz.prog 34 #[.int .i64 n] w (Ret (fun v w' => IsPair w' v n 1) w) := by
  refine (walkN1 (T := .leaf [(true, [.int (.var 0) 3, .int (.lit 1) 3])]) tabDiv_ok Tryz.func34 (by kernel_rfl) (by decide +kernel) (by decide +kernel) h).mono ?_
  rintro e w' ⟨β, v, rfl, hh, ex⟩
  exact ⟨v, rfl, (one_pair.1 hh).1, ex⟩
theorem rfrom_rat_calls (w : World) (n : Int) (h : I64 n) : Calls Tryz.prog 13 #[.int .i64 n] w (Ret (fun v w' => IsPair w' v n 1) w) := by
  refine (walkN1 (T := .leaf [(true, [.int (.var 0) 3, .int (.lit 1) 3])]) (tabR3_ok (q := false) (fun h => by cases h)) Tryz.func13 (by kernel_rfl) (by decide +kernel) (by decide +kernel) h).mono ?_
  rintro e w' ⟨β, v, rfl, hh, ex⟩
  exact ⟨v, rfl, (one_pair.1 hh).1, ex⟩
/-- Terms that are int64. -/
def inR (G : Asm) : IT → Bool
  | .lit z => decide (-9223372036854775808 ≤ z) && decide (z ≤ 9223372036854775807)
  | t => G.find (.le (.lit (-9223372036854775808)) t) == some true && G.find (.le t (.lit 9223372036854775807)) == some true
theorem inR_spec {E : Env} {G : Asm} (hG : G.holds E) {t : IT} (h : inR G t = true) : I64 (t.den E) := by
  unfold inR at h
  split at h
  · simpa [I64, IT.den] using h
  · rw [Bool.and_eq_true, beq_iff_eq, beq_iff_eq] at h
    have b1 := Asm.find_spec hG h.1
    have b2 := Asm.find_spec hG h.2
    simp only [BT.den, IT.den] at b1 b2
    exact ⟨of_decide_eq_true b1, of_decide_eq_true b2⟩
def kFromQ : Con
  | [.val false [.n .i64 t]], G => if inR G t then some (.val true [.int t 3, .int (.lit 1) 3]) else none
  | _, _ => none
theorem kFromQ_ok {E : Env} {f : Nat} (hc : ∀ (w : World) (n : Int), I64 n → Calls Tryz.prog f #[.int .i64 n] w (Ret (fun v w' => IsPair w' v n 1) w))
    (hb : ∃ fn, Tryz.prog.funcs[f]? = some fn ∧ fn.name ≠ "runtime.NumGoroutine" ∧ fn.body.isNone = false) : ConOK Tryz.prog E f kFromQ := by
  refine ⟨?_, ?_, hb⟩
  · intro args As r h hG β w vs hv hlen
    unfold kFromQ at h
    split at h
    · rename_i t
      split at h
      · rename_i hr
        injection h with h
        subst h
        have hi := inR_spec hG hr
        obtain ⟨v, rfl, h1⟩ := args1 hv hlen
        have h1' := one_num.1 h1
        subst h1'
        refine (hc w _ hi).mono ?_
        rintro e w' ⟨v', rfl, hp, ex⟩
        exact ⟨v', rfl, one_pair.2 ⟨hp, lim3 hi.1 hi.2, lim3 (z := 1) (by decide) (by decide)⟩, ex⟩
      · cases h
    · cases h
  · intro args As r h x off
    unfold kFromQ at h
    split at h
    · split at h
      · injection h with h; subst h; intro e; cases e
      · cases h
    · cases h
def tabFrac : List (Nat × Con) := (54, kMake) :: (34, kFromQ) :: tabDiv
theorem tabFrac_ok {E : Env} : TabOK Tryz.prog E tabFrac :=
  .cons (kMake_ok (fun w v u a b h k l1 l2 => make_calls w v u a b h k l1 l2) ⟨_, Tryz.func54, by decide +kernel, by kernel_rfl⟩)
    (.cons (kFromQ_ok (fun w n h => from_rat_calls w n h) ⟨_, Tryz.func34, by decide +kernel, by kernel_rfl⟩) tabDiv_ok)
theorem divInt_0 (n : Int) : Rat.divInt n 0 = 0 := by
  have := divInt_zero' n
  exact Rat.num_eq_zero.1 this
theorem frac_rat_calls (w : World) (n d : Int) (h : I64 n) (k : I64 d) : Calls Tryz.prog 25 #[.int .i64 n, .int .i64 d] w (Ret (fun v w' => IsRat w' v (Rat.divInt n d)) w) := by
  refine (walkN2 (T := .ite (.eq (.a1 1 (.var 1)) (.lit 0)) (.leaf [(true, [.int (.a2 7 (.var 0) (.var 1)) 3, .int (.a2 11 (.var 0) (.var 1)) 3])]) (.leaf [(true, [.int (.lit 0) 3, .int (.lit 1) 3])]))
    tabFrac_ok Tryz.func25 (by kernel_rfl) (by decide +kernel) (by decide +kernel) h k).mono ?_
  rintro e w' ⟨β, v, rfl, hh, ex⟩
  simp only [Tree.pick] at hh
  split at hh
  · rename_i hz
    have hd : d ≠ 0 := by
      intro e
      subst e
      have hz' : ((6 : Int) == 0) = true := hz
      cases hz'
    have hp := (one_pair.1 hh).1
    have e2 : (IT.a2 11 (.var 0) (.var 1)).den (zE [n, d]) = ((Rat.divInt n d).den : Int) := if_neg hd
    rw [e2] at hp
    exact ⟨v, rfl, hp, ex⟩
  · rename_i hz
    have hd : d = 0 := by
      refine Decidable.byContradiction fun hd => hz ?_
      show (de d == 0) = true
      unfold de
      rw [if_neg hd]
      rfl
    have hp := (one_pair.1 hh).1
    subst hd
    exact ⟨v, rfl, by rw [divInt_0]; exact hp, ex⟩
theorem floor_rat_calls (w : World) (v1 : Value) (a : Rat) (h1 : IsRat w v1 a) (l1 : LimQ 100000 a) :
    Calls Tryz.prog 27 #[v1] w (Ret (fun v w' => IsInt w' v (dq a.num (a.den : Int))) w) := by
  refine (walkQ1 (T := .leaf [(true, [.int (.a2 4 (.var 0) (.var 1)) 100000])]) tabMul_ok Tryz.func27 (by kernel_rfl) (by decide +kernel) (by decide +kernel) h1 l1).mono ?_
  rintro e w' ⟨β, v, rfl, hh, ex⟩
  exact ⟨v, rfl, (one_int.1 hh).1, ex⟩

end Go.Proofs.YtdblkeeicmncfaaGreatDoor
end

/- ---- Rdw ---- -/
section
/-
  The order of rational numbers, sameness, and quotients for the walker.
-/
set_option maxRecDepth 100000
namespace Go.Proofs.YtdblkeeicmncfaaGreatDoor
open Go.RowKit

theorem cmp_cross {n1 n2 d1 d2 : Int} (h1 : 0 < d1) (h2 : 0 < d2) (hs : cmpZ n1 0 ≠ cmpZ n2 0) : cmpZ n1 n2 = cmpZ (n1 * d2) (n2 * d1) := by
  have p1 : n1 < 0 → n1 * d2 < 0 := fun h => Int.mul_neg_of_neg_of_pos h h2
  have p2 : 0 < n1 → 0 < n1 * d2 := fun h => Int.mul_pos h h2
  have p3 : n1 = 0 → n1 * d2 = 0 := fun h => by rw [h, Int.zero_mul]
  have q1 : n2 < 0 → n2 * d1 < 0 := fun h => Int.mul_neg_of_neg_of_pos h h1
  have q2 : 0 < n2 → 0 < n2 * d1 := fun h => Int.mul_pos h h1
  have q3 : n2 = 0 → n2 * d1 = 0 := fun h => by rw [h, Int.zero_mul]
  generalize n1 * d2 = X at *
  generalize n2 * d1 = Y at *
  rcases cmpZ_cases n1 0 with ⟨a1, e1⟩ | ⟨a1, e1⟩ | ⟨a1, e1⟩ <;> rcases cmpZ_cases n2 0 with ⟨a2, e2⟩ | ⟨a2, e2⟩ | ⟨a2, e2⟩ <;> rcases cmpZ_cases n1 n2 with ⟨a3, e3⟩ | ⟨a3, e3⟩ | ⟨a3, e3⟩ <;> rcases cmpZ_cases X Y with ⟨a4, e4⟩ | ⟨a4, e4⟩ | ⟨a4, e4⟩ <;> omega
theorem cmp_rat_calls (w : World) (v1 v2 : Value) (a b : Rat) (h1 : IsRat w v1 a) (h2 : IsRat w v2 b) (l1 : LimQ 100000 a) (l2 : LimQ 100000 b) :
    Calls Tryz.prog 30 #[v1, v2] w fun e w' => e = .returned (.int .i64 (cmpZ (a.num * (b.den : Int)) (b.num * (a.den : Int)))) ∧ Ext w w' := by
  refine (walkQ2 (T := .ite (.eq (.a2 3 (.var 0) (.lit 0)) (.a2 3 (.var 2) (.lit 0)))
      (.ite (.eq (.var 1) (.lit 1)) (.ite (.eq (.var 3) (.lit 1)) (.leaf [(false, [.n .i64 (.a2 3 (.var 0) (.var 2))])]) (.leaf [(false, [.n .i64 (.a2 3 (.a2 2 (.var 0) (.var 3)) (.a2 2 (.var 2) (.var 1)))])]))
        (.leaf [(false, [.n .i64 (.a2 3 (.a2 2 (.var 0) (.var 3)) (.a2 2 (.var 2) (.var 1)))])]))
      (.leaf [(false, [.n .i64 (.a2 3 (.var 0) (.var 2))])]))
    tabMul_ok Tryz.func30 (by kernel_rfl) (by decide +kernel) (by decide +kernel) h1 h2 l1 l2).mono ?_
  rintro e w' ⟨β, v, rfl, hh, ex⟩
  simp only [Tree.pick] at hh
  split at hh
  · split at hh
    · rename_i hd1
      split at hh
      · rename_i hd2
        have e1 : (a.den : Int) = 1 := eq_of_beq hd1
        have e2 : (b.den : Int) = 1 := eq_of_beq hd2
        have := one_num.1 hh
        subst this
        rw [e1, e2, Int.mul_one, Int.mul_one]
        exact ⟨rfl, ex⟩
      · have := one_num.1 hh
        subst this
        exact ⟨rfl, ex⟩
    · have := one_num.1 hh
      subst this
      exact ⟨rfl, ex⟩
  · rename_i hs
    have := one_num.1 hh
    subst this
    have hc := cmp_cross (n1 := a.num) (n2 := b.num) (d1 := (a.den : Int)) (d2 := (b.den : Int)) (by have := a.den_pos; omega) (by have := b.den_pos; omega) (fun e => hs (beq_iff_eq.2 e))
    rw [← hc]
    exact ⟨rfl, ex⟩
def kCmpQ : Con
  | [.val true [.int x l, .int y m], .val true [.int z k, .int t j]], _ => if canon x y && (canon z t && (ql l && (ql m && (ql k && ql j)))) then some (.val false [.n .i64 (.a2 3 (.a2 2 x t) (.a2 2 z y))]) else none
  | _, _ => none
theorem kCmpQ_ok {E : Env} (hE : QEnv E) {f : Nat} (hc : ∀ (w : World) (v1 v2 : Value) (a b : Rat), IsRat w v1 a → IsRat w v2 b → LimQ 100000 a → LimQ 100000 b → Calls Tryz.prog f #[v1, v2] w fun e w' => e = .returned (.int .i64 (cmpZ (a.num * (b.den : Int)) (b.num * (a.den : Int)))) ∧ Ext w w')
    (hb : ∃ fn, Tryz.prog.funcs[f]? = some fn ∧ fn.name ≠ "runtime.NumGoroutine" ∧ fn.body.isNone = false) : ConOK Tryz.prog E f kCmpQ := by
  refine ⟨?_, ?_, hb⟩
  · intro args As r h hG β w vs hv hlen
    unfold kCmpQ at h
    split at h
    · rename_i x l y m z k t j
      split at h
      · rename_i hlo
        injection h with h
        subst h
        simp only [ql, Bool.and_eq_true, decide_eq_true_iff] at hlo
        obtain ⟨c1, c2, b1, b2, b3, b4⟩ := hlo
        obtain ⟨v, u, rfl, h1, h2⟩ := args2 hv hlen
        obtain ⟨p, ep, ex1, ex2, hp, lp1, lp2⟩ := one_ratQ hE c1 h1
        obtain ⟨q, eq, ey1, ey2, hq, lq1, lq2⟩ := one_ratQ hE c2 h2
        refine (hc w v u p q hp hq ⟨lp1.mono b1, lp2.mono b2⟩ ⟨lq1.mono b3, lq2.mono b4⟩).mono ?_
        rintro e w' ⟨rfl, ex⟩
        refine ⟨_, rfl, one_num.2 ?_, ex⟩
        show Value.int .i64 _ = .int .i64 (cmpZ (x.den E * t.den E) (z.den E * y.den E))
        rw [ex1, ex2, ey1, ey2]
      · cases h
    · cases h
  · intro args As r h x off
    unfold kCmpQ at h
    split at h
    · split at h
      · injection h with h; subst h; intro e; cases e
      · cases h
    · cases h

def kIIb (g : IT → IT → BT) : Con
  | [.val true [.int x _], .val true [.int y _]], _ => some (.val false [.b (g x y)])
  | _, _ => none
theorem kIIb_ok {P : Program} {E : Env} {f : Nat} {g : IT → IT → BT} (G : Int → Int → Bool) (hg : ∀ x y, (g x y).den E = G (x.den E) (y.den E))
    (hc : ∀ (w : World) (v1 v2 : Value) (z1 z2 : Int), IsInt w v1 z1 → IsInt w v2 z2 → Calls P f #[v1, v2] w (fun e w' => e = .returned (.bool (G z1 z2)) ∧ Ext w w'))
    (hb : ∃ fn, P.funcs[f]? = some fn ∧ fn.name ≠ "runtime.NumGoroutine" ∧ fn.body.isNone = false) : ConOK P E f (kIIb g) := by
  refine ⟨?_, ?_, hb⟩
  · intro args As r h hG β w vs hv hlen
    unfold kIIb at h
    split at h
    · injection h with h
      subst h
      obtain ⟨v, u, rfl, h1, h2⟩ := args2 hv hlen
      refine (hc w v u _ _ (one_int.1 h1).1 (one_int.1 h2).1).mono ?_
      rintro e w' ⟨rfl, ex⟩
      exact ⟨_, rfl, one_bool.2 (by rw [hg]), ex⟩
    · cases h
  · intro args As r h x off
    unfold kIIb at h
    split at h
    · injection h with h; subst h; intro e; cases e
    · cases h
theorem same_rat_calls (w : World) (v1 v2 : Value) (n1 d1 n2 d2 : Int) (h1 : IsPair w v1 n1 d1) (h2 : IsPair w v2 n2 d2) (l1 : Lim 100000 n1) (l1' : Lim 100000 d1) (l2 : Lim 100000 n2) (l2' : Lim 100000 d2) :
    Calls Tryz.prog 12 #[v1, v2] w fun e w' => e = .returned (.bool (n1 == n2 && d1 == d2)) ∧ Ext w w' := by
  refine (walkP2 (tab := [(26, kIIb fun x y => .eq x y)]) (T := .ite (.eq (.var 0) (.var 2)) (.leaf [(false, [.b (.eq (.var 1) (.var 3))])]) (.leaf [(false, [.b (.lit false)])]))
    (.cons (kIIb_ok (fun x y => x == y) (fun _ _ => rfl) (fun w v1 v2 z1 z2 h1 h2 => (rsame_calls w v1 v2 z1 z2 h1 h2).mono (fun e w' h => ⟨by rw [h.1]; by_cases hz : z1 = z2 <;> simp [hz], h.2⟩)) ⟨_, Tryz.func26, by decide +kernel, by kernel_rfl⟩) .nil) Tryz.func12 (by kernel_rfl) (by decide +kernel) (by decide +kernel) h1 h2 l1 l1' l2 l2').mono ?_
  rintro e w' ⟨β, v, rfl, hh, ex⟩
  simp only [Tree.pick] at hh
  split at hh
  · rename_i hz
    have := one_bool.1 hh
    subst this
    have hz' : (n1 == n2) = true := hz
    rw [hz', Bool.true_and]
    exact ⟨rfl, ex⟩
  · rename_i hz
    have := one_bool.1 hh
    subst this
    have hz' : (n1 == n2) = false := by rw [← Bool.not_eq_true]; exact hz
    rw [hz', Bool.false_and]
    exact ⟨rfl, ex⟩
def kSame : Con
  | [.val true [.int x l, .int y m], .val true [.int z k, .int t j]], _ => if ql l && (ql m && (ql k && ql j)) then some (.val false [.b (if x.beq z && y.beq t then .lit true else .and (.eq x z) (.eq y t))]) else none
  | _, _ => none
theorem kSame_ok {E : Env} : ConOK Tryz.prog E 12 kSame := by
  refine ⟨?_, ?_, ⟨_, Tryz.func12, by decide +kernel, by kernel_rfl⟩⟩
  · intro args As r h hG β w vs hv hlen
    unfold kSame at h
    split at h
    · rename_i x l y m z k t j
      split at h
      · rename_i hlo
        injection h with h
        subst h
        simp only [ql, Bool.and_eq_true, decide_eq_true_iff] at hlo
        obtain ⟨b1, b2, b3, b4⟩ := hlo
        obtain ⟨v, u, rfl, h1, h2⟩ := args2 hv hlen
        obtain ⟨p1, a1, a2⟩ := one_pair.1 h1
        obtain ⟨p2, a3, a4⟩ := one_pair.1 h2
        refine (same_rat_calls w v u _ _ _ _ p1 p2 (a1.mono b1) (a2.mono b2) (a3.mono b3) (a4.mono b4)).mono ?_
        rintro e w' ⟨rfl, ex⟩
        refine ⟨_, rfl, one_bool.2 ?_, ex⟩
        split
        · rename_i hb
          rw [Bool.and_eq_true] at hb
          rw [IT.eq_of_beq hb.1, IT.eq_of_beq hb.2]
          simp [BT.den]
        · rfl
      · cases h
    · cases h
  · intro args As r h x off
    unfold kSame at h
    split at h
    · split at h
      · injection h with h; subst h; intro e; cases e
      · cases h
    · cases h

def kDiv : Con
  | [.val true [.int x l, .int y m], .val true [.int z k, .int t j]], _ => if canon x y && (canon z t && (ql l && (ql m && (ql k && ql j)))) then
      some (.tup [(true, [.int (.a4 8 x y z t) (l + m + k + j + 1), .int (.a4 9 x y z t) (l + m + k + j + 1)]), (false, [.n .i64 (.a1 1 z)])]) else none
  | _, _ => none
theorem LimQ.div {l m k j : Nat} {a b : Rat} (h1 : Lim l a.num) (h2 : Lim m (a.den : Int)) (h3 : Lim k b.num) (h4 : Lim j (b.den : Int)) : Lim (l + m + k + j + 1) (a / b).num ∧ Lim (l + m + k + j + 1) (divD a b) := by
  unfold divD
  by_cases hb : b = 0
  · rw [if_pos hb, hb, Rat.div_def, Rat.inv_zero, Rat.mul_zero]
    exact ⟨lim_zero, lim_zero⟩
  · have hn : b.num ≠ 0 := fun e => hb (Rat.num_eq_zero.1 e)
    rw [if_neg hb, Rat.div_def]
    have e1 : Lim j b⁻¹.num := by
      refine h4.natAbs_le ?_
      rw [Rat.num_inv, Int.natAbs_mul, Int.natAbs_sign_of_ne_zero hn, Nat.one_mul]
      exact Nat.le_refl _
    have e2 : Lim k (b⁻¹.den : Int) := by
      refine h3.natAbs_le ?_
      rw [Rat.den_inv, if_neg hn]
      exact Nat.le_refl _
    obtain ⟨r1, r2⟩ := LimQ.mul h1 h2 e1 e2
    exact ⟨r1.mono (by omega), r2.mono (by omega)⟩
theorem kDiv_ok {E : Env} (hE : QEnv E) {f : Nat} (hc : ∀ (w : World) (v1 v2 : Value) (a b : Rat), IsRat w v1 a → IsRat w v2 b → LimQ 100000 a → LimQ 100000 b → Calls Tryz.prog f #[v1, v2] w (RetDiv a b w))
    (hb : ∃ fn, Tryz.prog.funcs[f]? = some fn ∧ fn.name ≠ "runtime.NumGoroutine" ∧ fn.body.isNone = false) : ConOK Tryz.prog E f kDiv := by
  refine ⟨?_, ?_, hb⟩
  · intro args As r h hG β w vs hv hlen
    unfold kDiv at h
    split at h
    · rename_i x l y m z k t j
      split at h
      · rename_i hlo
        injection h with h
        subst h
        simp only [ql, Bool.and_eq_true, decide_eq_true_iff] at hlo
        obtain ⟨c1, c2, b1, b2, b3, b4⟩ := hlo
        obtain ⟨v, u, rfl, h1, h2⟩ := args2 hv hlen
        obtain ⟨p, ep, ex1, ex2, hp, lp1, lp2⟩ := one_ratQ hE c1 h1
        obtain ⟨q, eq, ey1, ey2, hq, lq1, lq2⟩ := one_ratQ hE c2 h2
        obtain ⟨n1, n2⟩ := LimQ.div lp1 lp2 lq1 lq2
        refine (hc w v u p q hp hq ⟨lp1.mono b1, lp2.mono b2⟩ ⟨lq1.mono b3, lq2.mono b4⟩).mono ?_
        rintro e w' ⟨v', rfl, hr, ex⟩
        have d1 : (IT.a4 8 x y z t).den E = (p / q).num := by
          show fn4 8 (x.den E) (y.den E) (z.den E) (t.den E) = _
          rw [ex1, ex2, ey1, ey2]
          exact fn4_num rfl p q
        have d2 : (IT.a4 9 x y z t).den E = divD p q := by
          show fn4 9 (x.den E) (y.den E) (z.den E) (t.den E) = _
          rw [ex1, ex2, ey1, ey2]
          unfold fn4 divD
          rw [if_neg (by decide), divInt_parts, divInt_parts]
          by_cases hq : q = 0
          · rw [if_pos ⟨rfl, hq⟩, if_pos hq]
          · rw [if_neg (fun h => hq h.2), if_neg hq]; rfl
        refine ⟨_, rfl, ⟨[v', .int .i64 (de q.num)], rfl, _, _, rfl, one_pair.2 ⟨by rw [d1, d2]; exact hr, by rw [d1]; exact n1, by rw [d2]; exact n2⟩, _, _, rfl, one_num.2 ?_, rfl⟩, ex⟩
        show Value.int .i64 (de q.num) = .int .i64 (de (z.den E))
        rw [ey1]
      · cases h
    · cases h
  · intro args As r h x off
    unfold kDiv at h
    split at h
    · split at h
      · injection h with h; subst h; intro e; cases e
      · cases h
    · cases h

end Go.Proofs.YtdblkeeicmncfaaGreatDoor
end

/- ---- Rdx ---- -/
section
/-
  Zero of the reference, and all that the walker knows of rational numbers.
-/
set_option maxRecDepth 100000
namespace Go.Proofs.YtdblkeeicmncfaaGreatDoor
open Go.RowKit

theorem len_eq0 (z : Int) : ((((limbs z.natAbs).length : Int) == 0) = true) ↔ z = 0 := by
  have := len_pos_iff z.natAbs
  rw [beq_iff_eq]
  omega
theorem zero_rat_calls (w : World) (v1 : Value) (n d : Int) (h1 : IsPair w v1 n d) (l1 : Lim 100000 n) (l2 : Lim 100000 d) :
    Calls Tryz.prog 8 #[v1] w fun e w' => e = .returned (.bool (n == 0 && d == 0)) ∧ Ext w w' := by
  refine (fun_sound (C := cfgOf []) (E := zE [n, d]) (args := [argQ 0]) (T := .ite (.eq (.a1 4 (.var 0)) (.lit 0)) (.ite (.eq (.a1 4 (.var 1)) (.lit 0)) (.ite (.lt (.var 0) (.lit 0)) (.leaf [(false, [.b (.lit false)])]) (.leaf [(false, [.b (.not (.lt (.var 1) (.lit 0)))])])) (.leaf [(false, [.b (.lit false)])])) (.leaf [(false, [.b (.lit false)])]))
    mixed (cfg_ok .nil) no_asm Tryz.func8 (by decide +kernel) (by kernel_rfl) (by decide +kernel) rfl w [v1] rfl ?_).mono ?_
  · intro i x hx
    match i, hx with
    | 0, hx => injection hx with hx; subst hx; exact ⟨fun _ => 0, v1, rfl, argP_holds h1 l1 l2 rfl rfl⟩
  · rintro e w' ⟨β, v, rfl, hh, ex⟩
    simp only [Tree.pick] at hh
    split at hh
    · rename_i hz
      have hn : n = 0 := (len_eq0 n).1 hz
      split at hh
      · rename_i hz
        have hd : d = 0 := (len_eq0 d).1 hz
        subst hn hd
        split at hh
        · rename_i hlt
          cases hlt
        · have := one_bool.1 hh
          subst this
          exact ⟨rfl, ex⟩
      · rename_i hz
        have hd : (d == 0) = false := by
          rw [beq_eq_false_iff_ne]
          exact fun e => hz ((len_eq0 d).2 e)
        have := one_bool.1 hh
        subst this
        rw [hd, Bool.and_false]
        exact ⟨rfl, ex⟩
    · rename_i hz
      have hn : (n == 0) = false := by
        rw [beq_eq_false_iff_ne]
        exact fun e => hz ((len_eq0 n).2 e)
      have := one_bool.1 hh
      subst this
      rw [hn, Bool.false_and]
      exact ⟨rfl, ex⟩
def kZero : Con
  | [.val true [.int x l, .int y m]], _ => if decide (l ≤ 100000) && decide (m ≤ 100000) then some (.val false [.b (.and (.eq x (.lit 0)) (.eq y (.lit 0)))]) else none
  | _, _ => none
theorem kZero_ok {E : Env} : ConOK Tryz.prog E 8 kZero := by
  refine ⟨?_, ?_, ⟨_, Tryz.func8, by decide +kernel, by kernel_rfl⟩⟩
  · intro args As r h hG β w vs hv hlen
    unfold kZero at h
    split at h
    · split at h
      · rename_i hlo
        injection h with h
        subst h
        simp only [Bool.and_eq_true, decide_eq_true_iff] at hlo
        obtain ⟨v, rfl, h1⟩ := args1 hv hlen
        obtain ⟨p1, a1, a2⟩ := one_pair.1 h1
        refine (zero_rat_calls w v _ _ p1 (a1.mono hlo.1) (a2.mono hlo.2)).mono ?_
        rintro e w' ⟨rfl, ex⟩
        exact ⟨_, rfl, one_bool.2 rfl, ex⟩
      · cases h
    · cases h
  · intro args As r h x off
    unfold kZero at h
    split at h
    · split at h
      · injection h with h; subst h; intro e; cases e
      · cases h
    · cases h
/-- Integers from numbers, and quotients of numbers. -/
def kFrac : Con
  | [.val false [.n .i64 x], .val false [.n .i64 y]], G => if inR G x && inR G y then some (.val true [.int (.a2 7 x y) 3, .int (.a2 8 x y) 3]) else none
  | _, _ => none
theorem frac_lim {n d : Int} (h : I64 n) (k : I64 d) : Lim 3 (Rat.divInt n d).num ∧ Lim 3 ((Rat.divInt n d).den : Int) := by
  by_cases hd : d = 0
  · subst hd
    rw [divInt_0]
    exact ⟨lim_zero, lim3 (z := 1) (by decide) (by decide)⟩
  · exact divInt_lim (lim3 h.1 h.2) (lim3 k.1 k.2) hd
theorem kFrac_ok {E : Env} {f : Nat} (hc : ∀ (w : World) (n d : Int), I64 n → I64 d → Calls Tryz.prog f #[.int .i64 n, .int .i64 d] w (Ret (fun v w' => IsRat w' v (Rat.divInt n d)) w))
    (hb : ∃ fn, Tryz.prog.funcs[f]? = some fn ∧ fn.name ≠ "runtime.NumGoroutine" ∧ fn.body.isNone = false) : ConOK Tryz.prog E f kFrac := by
  refine ⟨?_, ?_, hb⟩
  · intro args As r h hG β w vs hv hlen
    unfold kFrac at h
    split at h
    · split at h
      · rename_i hr
        injection h with h
        subst h
        rw [Bool.and_eq_true] at hr
        have i1 := inR_spec hG hr.1
        have i2 := inR_spec hG hr.2
        obtain ⟨v, u, rfl, h1, h2⟩ := args2 hv hlen
        have h1' := one_num.1 h1
        have h2' := one_num.1 h2
        subst h1' h2'
        refine (hc w _ _ i1 i2).mono ?_
        rintro e w' ⟨v', rfl, hp, ex⟩
        obtain ⟨m1, m2⟩ := frac_lim i1 i2
        exact ⟨v', rfl, one_pair.2 ⟨hp, m1, m2⟩, ex⟩
      · cases h
    · cases h
  · intro args As r h x off
    unfold kFrac at h
    split at h
    · split at h
      · injection h with h; subst h; intro e; cases e
      · cases h
    · cases h
def tabQ : List (Nat × Con) :=
  
  (95, kDiv)  ::
  
  (69, kQQ 0)  ::
  
  (71, kQQ 1)  ::
  
  (17, kQQ 2)  ::
  (33, kNegQ)  ::
  (37, kNegQ)  ::
  (12, kSame)  ::
  (8, kZero)  ::
  (54, kMake)  ::
  (108, kMake)  ::
  (34, kFromQ)  ::
  (13, kFromQ)  ::
  (25, kFrac)  ::
  
  []
theorem tabQ_ok {E : Env} (hE : QEnv E) : TabOK Tryz.prog E tabQ := by
  
  refine .cons (kDiv_ok hE (fun w v1 v2 a b h1 h2 l1 l2 => rdiv_rat_calls w v1 v2 a b h1 h2 l1 l2) ⟨_, Tryz.func95, by decide +kernel, by kernel_rfl⟩) ?_ 
  
  refine .cons (kQQ_ok hE (by omega) (fun w v1 v2 a b h1 h2 l1 l2 => radd_rat_calls w v1 v2 a b h1 h2 l1 l2) (fun h1 h2 h3 h4 => LimQ.add h1 h2 h3 h4) ⟨_, Tryz.func69, by decide +kernel, by kernel_rfl⟩) ?_ 
  
  refine .cons (kQQ_ok hE (by omega) (fun w v1 v2 a b h1 h2 l1 l2 => rsub_rat_calls w v1 v2 a b h1 h2 l1 l2) (fun h1 h2 h3 h4 => LimQ.sub h1 h2 h3 h4) ⟨_, Tryz.func71, by decide +kernel, by kernel_rfl⟩) ?_ 
  
  refine .cons (kQQ_ok hE (by omega) (fun w v1 v2 a b h1 h2 l1 l2 => rmul_rat_calls w v1 v2 a b h1 h2 l1 l2) (fun h1 h2 h3 h4 => LimQ.mul h1 h2 h3 h4) ⟨_, Tryz.func17, by decide +kernel, by kernel_rfl⟩) ?_ 
  refine .cons (kNegQ_ok hE (fun w v a h l => neg_rat_calls w v a h l) ⟨_, Tryz.func33, by decide +kernel, by kernel_rfl⟩) ?_ 
  refine .cons (kNegQ_ok hE (fun w v a h l => rneg_rat_calls w v a h l) ⟨_, Tryz.func37, by decide +kernel, by kernel_rfl⟩) ?_ 
  refine .cons kSame_ok ?_ 
  refine .cons kZero_ok ?_ 
  refine .cons (kMake_ok (fun w v u a b h k l1 l2 => make_calls w v u a b h k l1 l2) ⟨_, Tryz.func54, by decide +kernel, by kernel_rfl⟩) ?_ 
  refine .cons (kMake_ok (fun w v u a b h k l1 l2 => rmake_calls w v u a b h k l1 l2) ⟨_, Tryz.func108, by decide +kernel, by kernel_rfl⟩) ?_ 
  refine .cons (kFromQ_ok (fun w n h => from_rat_calls w n h) ⟨_, Tryz.func34, by decide +kernel, by kernel_rfl⟩) ?_ 
  refine .cons (kFromQ_ok (fun w n h => rfrom_rat_calls w n h) ⟨_, Tryz.func13, by decide +kernel, by kernel_rfl⟩) ?_ 
  refine .cons (kFrac_ok (fun w n d h k => frac_rat_calls w n d h k) ⟨_, Tryz.func25, by decide +kernel, by kernel_rfl⟩) ?_ 
  
  exact .nil

end Go.Proofs.YtdblkeeicmncfaaGreatDoor
end

/- ---- Rdy ---- -/
section
/-
  Valid, of any struct.
-/
set_option maxRecDepth 100000
namespace Go.Proofs.YtdblkeeicmncfaaGreatDoor
open Go.RowKit

/-- Two structs in a rational number's place, whatever they hold. -/
def RawQ (w : World) (v : Value) (s1 : Bool) (xs1 : List Nat) (s2 : Bool) (xs2 : List Nat) : Prop :=
  ∃ a b c d, v = .agg #[a, b, c, d] ∧ Raw w (.agg #[a, b]) s1 xs1 ∧ Raw w (.agg #[c, d]) s2 xs2
def rE (l : List (Bool × List Nat)) : Env := ⟨fun _ => 0, fun _ => false, fun i => l.getD i (false, []), fun _ => []⟩
def argRaw (i j : Nat) : AV := .val true [.raw i, .raw j]
theorem argRaw_holds {E : Env} {β : Nat → Nat} {w : World} {v : Value} {s1 s2 : Bool} {xs1 xs2 : List Nat} {i j : Nat} (h : RawQ w v s1 xs1 s2 xs2) (e1 : E.r i = (s1, xs1)) (e2 : E.r j = (s2, xs2)) : (argRaw i j).holds E β w v := by
  obtain ⟨a, b, c, d, rfl, h1, h2⟩ := h
  refine ⟨[a, b, c, d], rfl, [a, b], [c, d], rfl, ⟨a, b, rfl, ?_⟩, [c, d], [], rfl, ⟨c, d, rfl, ?_⟩, rfl⟩
  · rw [e1]; exact h1
  · rw [e2]; exact h2
/-- Valid, of integers and of any structs. -/
def kRV : Con
  | [.val true [.raw i]], _ => some (.val false [.b (.ok i)])
  | [.val true [.int _ _]], _ => some (.val false [.b (.lit true)])
  | _, _ => none
theorem kRV_ok {E : Env} {f : Nat} (hc : ∀ (w : World) (v : Value) (s : Bool) (xs : List Nat), Raw w v s xs → Calls Tryz.prog f #[v] w fun e w' => e = .returned (.bool (okB s xs)) ∧ Ext w w')
    (hb : ∃ fn, Tryz.prog.funcs[f]? = some fn ∧ fn.name ≠ "runtime.NumGoroutine" ∧ fn.body.isNone = false) : ConOK Tryz.prog E f kRV := by
  refine ⟨?_, ?_, hb⟩
  · intro args As r h hG β w vs hv hlen
    unfold kRV at h
    split at h
    · rename_i i
      injection h with h
      subst h
      obtain ⟨v, rfl, us, rfl, l1, r1, rfl, ⟨x, y, rfl, hr⟩, hn⟩ := args1 hv hlen
      simp only [chunks] at hn
      subst hn
      refine (hc w _ _ _ hr).mono ?_
      rintro e w' ⟨rfl, ex⟩
      exact ⟨_, rfl, one_bool.2 rfl, ex⟩
    · injection h with h
      subst h
      obtain ⟨v, rfl, h1⟩ := args1 hv hlen
      obtain ⟨ao, cap, s, n, rfl, k1, k2, k3, H4, H5, H6⟩ := (one_int.1 h1).1.open_
      obtain ⟨j1, j2⟩ := isInt_raw k1 k2 k3 H6.out
      refine (hc w _ _ _ j1).mono ?_
      rintro e w' ⟨rfl, ex⟩
      exact ⟨_, rfl, one_bool.2 (by rw [j2]; rfl), ex⟩
    · cases h
  · intro args As r h x off
    unfold kRV at h
    split at h
    · injection h with h; subst h; intro e; cases e
    · injection h with h; subst h; intro e; cases e
    · cases h
def okQ (s1 : Bool) (xs1 : List Nat) (s2 : Bool) (xs2 : List Nat) : Bool :=
  okB s1 xs1 && okB s2 xs2 && decide (0 < sgn s2 (val xs2)) && decide (Nat.gcd (sgn s1 (val xs1)).natAbs (sgn s2 (val xs2)).natAbs = 1)
def tabRV : List (Nat × Con) := (39, kRV) :: (26, kIIb fun x y => .eq x y) :: (42, k0 (.lit 1) 3) :: tabR2
theorem tabRV_ok {E : Env} : TabOK Tryz.prog E tabRV :=
  .cons (kRV_ok (fun w v s xs h => rvalid_calls w v s xs h) ⟨_, Tryz.func39, by decide +kernel, by kernel_rfl⟩)
    (.cons (kIIb_ok (fun x y => x == y) (fun _ _ => rfl) (fun w v1 v2 z1 z2 h1 h2 => (rsame_calls w v1 v2 z1 z2 h1 h2).mono (fun e w' h => ⟨by rw [h.1]; by_cases hz : z1 = z2 <;> simp [hz], h.2⟩)) ⟨_, Tryz.func26, by decide +kernel, by kernel_rfl⟩)
      (.cons (k0_ok 1 rfl (fun w => unit_calls w) (lim3 (by decide) (by decide)) ⟨_, Tryz.func42, by decide +kernel, by kernel_rfl⟩) tabR2_ok))
def tabPV : List (Nat × Con) := (57, kRV) :: tabInt
theorem tabPV_ok {E : Env} : TabOK Tryz.prog E tabPV := .cons (kRV_ok (fun w v s xs h => valid_calls w v s xs h) ⟨_, Tryz.func57, by decide +kernel, by kernel_rfl⟩) tabInt_ok

/-- A walk with any structs, where one of them is not valid. -/
theorem walkRaw {tab : List (Nat × Con)} {f : Nat} {fn : Func} {G : Asm} {w : World} {v : Value} {s1 s2 : Bool} {xs1 xs2 : List Nat} (ht : TabOK Tryz.prog (rE [(s1, xs1), (s2, xs2)]) tab) (hG : G.holds (rE [(s1, xs1), (s2, xs2)])) (hf : Tryz.prog.funcs[f]? = some fn)
    (hT : funE (cfgOf tab) fn G [argRaw 0 1] = some (.leaf [(false, [.b (.lit false)])])) (h4 : fn.results.toList.length ≤ 4) (hn : 1 ≤ fn.ntmps) (h : RawQ w v s1 xs1 s2 xs2) :
    Calls Tryz.prog f #[v] w fun e w' => e = .returned (.bool false) ∧ Ext w w' := by
  refine (fun_sound mixed (cfg_ok ht) hG hf h4 hT hn rfl w [v] rfl ?_).mono ?_
  · intro i x hx
    match i, hx with
    | 0, hx => injection hx with hx; subst hx; exact ⟨fun _ => 0, v, rfl, argRaw_holds h rfl rfl⟩
  · rintro e w' ⟨β, u, rfl, hh, ex⟩
    have := one_bool.1 hh
    subst this
    exact ⟨rfl, ex⟩
theorem asm1 {E : Env} {t : BT} {b : Bool} (h : t.den E = b) : Asm.holds E [(t, b)] := by
  intro p hp
  simp only [List.mem_cons, List.not_mem_nil, or_false] at hp
  subst hp
  exact h
theorem asm2 {E : Env} {t u : BT} {b c : Bool} (h : t.den E = b) (k : u.den E = c) : Asm.holds E [(t, b), (u, c)] := by
  intro p hp
  simp only [List.mem_cons, List.not_mem_nil, or_false] at hp
  rcases hp with rfl | rfl
  · exact h
  · exact k
theorem okQ_pair {w : World} {v : Value} {s1 s2 : Bool} {xs1 xs2 : List Nat} (h : RawQ w v s1 xs1 s2 xs2) (b1 : okB s1 xs1 = true) (b2 : okB s2 xs2 = true) : IsPair w v (sgn s1 (val xs1)) (sgn s2 (val xs2)) := by
  obtain ⟨a, b, c, d, rfl, h1, h2⟩ := h
  exact ⟨a, b, c, d, rfl, (okB_int h1 b1).1, (okB_int h2 b2).1⟩
theorem ok_lim {w : World} {v : Value} {s : Bool} {xs : List Nat} {k : Nat} (h : Raw w v s xs) (b : okB s xs = true) (l : xs.length ≤ k) : Lim k (sgn s (val xs)) := by
  have := (okB_int h b).2
  unfold Lim
  rw [natAbs_sgn, this]
  exact l
theorem cmp_pos (d : Int) : (cmpZ d 0 = 1) ↔ 0 < d := by
  rcases cmpZ_cases d 0 with ⟨h, e⟩ | ⟨h, e⟩ | ⟨h, e⟩ <;> rw [e] <;> omega
theorem cmp_pos' (d : Int) : (0 < cmpZ d 0) ↔ 0 < d := by
  rcases cmpZ_cases d 0 with ⟨h, e⟩ | ⟨h, e⟩ | ⟨h, e⟩ <;> rw [e] <;> omega
theorem valid_rat_calls (w : World) (v : Value) (s1 s2 : Bool) (xs1 xs2 : List Nat) (h : RawQ w v s1 xs1 s2 xs2) (l1 : xs1.length ≤ 100000) (l2 : xs2.length ≤ 100000) :
    Calls Tryz.prog 29 #[v] w fun e w' => e = .returned (.bool (okQ s1 xs1 s2 xs2)) ∧ Ext w w' := by
  cases b1 : okB s1 xs1 with
  | false =>
    have e0 : okQ s1 xs1 s2 xs2 = false := by unfold okQ; rw [b1]; rfl
    rw [e0]
    exact walkRaw tabPV_ok (asm1 (t := .ok 0) b1) Tryz.func29 (by kernel_rfl) (by decide +kernel) (by decide +kernel) h
  | true =>
    cases b2 : okB s2 xs2 with
    | false =>
      have e0 : okQ s1 xs1 s2 xs2 = false := by unfold okQ; rw [b1, b2]; rfl
      rw [e0]
      exact walkRaw tabPV_ok (asm2 (t := .ok 0) (u := .ok 1) b1 b2) Tryz.func29 (by kernel_rfl) (by decide +kernel) (by decide +kernel) h
    | true =>
      have hp := okQ_pair h b1 b2
      have m1 : Lim 100000 (sgn s1 (val xs1)) := by obtain ⟨a, b, c, d, rfl, h1, h2⟩ := h; exact ok_lim h1 b1 l1
      have m2 : Lim 100000 (sgn s2 (val xs2)) := by obtain ⟨a, b, c, d, rfl, h1, h2⟩ := h; exact ok_lim h2 b2 l2
      have e0 : okQ s1 xs1 s2 xs2 = (decide (0 < sgn s2 (val xs2)) && decide (Nat.gcd (sgn s1 (val xs1)).natAbs (sgn s2 (val xs2)).natAbs = 1)) := by unfold okQ; rw [b1, b2]; rfl
      rw [e0]
      generalize sgn s1 (val xs1) = n at *
      generalize sgn s2 (val xs2) = d at *
      refine (fun_sound (C := cfgOf tabPV) (E := zE [n, d]) (args := [argQ 0]) (T := .ite (.lt (.lit 0) (.a2 3 (.var 1) (.lit 0))) (.leaf [(false, [.b (.eq (.a2 6 (.var 0) (.var 1)) (.lit 1))])]) (.leaf [(false, [.b (.lit false)])]))
        mixed (cfg_ok tabPV_ok) no_asm Tryz.func29 (by decide +kernel) (by kernel_rfl) (by decide +kernel) rfl w [v] rfl ?_).mono ?_
      · intro i x hx
        match i, hx with
        | 0, hx => injection hx with hx; subst hx; exact ⟨fun _ => 0, v, rfl, argP_holds hp m1 m2 rfl rfl⟩
      · rintro e w' ⟨β, u, rfl, hh, ex⟩
        simp only [Tree.pick] at hh
        split at hh
        · rename_i hz
          have hd : 0 < d := (cmp_pos' d).1 (of_decide_eq_true hz)
          have := one_bool.1 hh
          subst this
          rw [decide_eq_true hd, Bool.true_and]
          refine ⟨ret_bool ?_, ex⟩
          show (((Nat.gcd n.natAbs d.natAbs : Nat) : Int) == 1) = _
          by_cases hg : Nat.gcd n.natAbs d.natAbs = 1
          · rw [decide_eq_true hg, beq_iff_eq]; omega
          · rw [decide_eq_false hg, beq_eq_false_iff_ne]; omega
        · rename_i hz
          have hd : ¬ 0 < d := fun e => hz (decide_eq_true ((cmp_pos' d).2 e))
          have := one_bool.1 hh
          subst this
          rw [decide_eq_false hd, Bool.false_and]
          exact ⟨rfl, ex⟩
theorem rvalid_rat_calls (w : World) (v : Value) (s1 s2 : Bool) (xs1 xs2 : List Nat) (h : RawQ w v s1 xs1 s2 xs2) (l1 : xs1.length ≤ 100000) (l2 : xs2.length ≤ 100000) :
    Calls Tryz.prog 10 #[v] w fun e w' => e = .returned (.bool (okQ s1 xs1 s2 xs2)) ∧ Ext w w' := by
  cases b1 : okB s1 xs1 with
  | false =>
    have e0 : okQ s1 xs1 s2 xs2 = false := by unfold okQ; rw [b1]; rfl
    rw [e0]
    exact walkRaw tabRV_ok (asm1 (t := .ok 0) b1) Tryz.func10 (by kernel_rfl) (by decide +kernel) (by decide +kernel) h
  | true =>
    cases b2 : okB s2 xs2 with
    | false =>
      have e0 : okQ s1 xs1 s2 xs2 = false := by unfold okQ; rw [b1, b2]; rfl
      rw [e0]
      exact walkRaw tabRV_ok (asm2 (t := .ok 0) (u := .ok 1) b1 b2) Tryz.func10 (by kernel_rfl) (by decide +kernel) (by decide +kernel) h
    | true =>
      have hp := okQ_pair h b1 b2
      have m1 : Lim 100000 (sgn s1 (val xs1)) := by obtain ⟨a, b, c, d, rfl, h1, h2⟩ := h; exact ok_lim h1 b1 l1
      have m2 : Lim 100000 (sgn s2 (val xs2)) := by obtain ⟨a, b, c, d, rfl, h1, h2⟩ := h; exact ok_lim h2 b2 l2
      have e0 : okQ s1 xs1 s2 xs2 = (decide (0 < sgn s2 (val xs2)) && decide (Nat.gcd (sgn s1 (val xs1)).natAbs (sgn s2 (val xs2)).natAbs = 1)) := by unfold okQ; rw [b1, b2]; rfl
      rw [e0]
      generalize sgn s1 (val xs1) = n at *
      generalize sgn s2 (val xs2) = d at *
      refine (fun_sound (C := cfgOf tabRV) (E := zE [n, d]) (args := [argQ 0]) (T := .ite (.eq (.a2 3 (.var 1) (.lit 0)) (.lit 1)) (.leaf [(false, [.b (.eq (.a2 6 (.var 0) (.var 1)) (.lit 1))])]) (.leaf [(false, [.b (.lit false)])]))
        mixed (cfg_ok tabRV_ok) no_asm Tryz.func10 (by decide +kernel) (by kernel_rfl) (by decide +kernel) rfl w [v] rfl ?_).mono ?_
      · intro i x hx
        match i, hx with
        | 0, hx => injection hx with hx; subst hx; exact ⟨fun _ => 0, v, rfl, argP_holds hp m1 m2 rfl rfl⟩
      · rintro e w' ⟨β, u, rfl, hh, ex⟩
        simp only [Tree.pick] at hh
        split at hh
        · rename_i hz
          have hd : 0 < d := (cmp_pos d).1 (eq_of_beq hz)
          have := one_bool.1 hh
          subst this
          rw [decide_eq_true hd, Bool.true_and]
          refine ⟨ret_bool ?_, ex⟩
          show (((Nat.gcd n.natAbs d.natAbs : Nat) : Int) == 1) = _
          by_cases hg : Nat.gcd n.natAbs d.natAbs = 1
          · rw [decide_eq_true hg, beq_iff_eq]; omega
          · rw [decide_eq_false hg, beq_eq_false_iff_ne]; omega
        · rename_i hz
          have hd : ¬ 0 < d := fun e => hz (beq_iff_eq.2 ((cmp_pos d).2 e))
          have := one_bool.1 hh
          subst this
          rw [decide_eq_false hd, Bool.false_and]
          exact ⟨rfl, ex⟩

end Go.Proofs.YtdblkeeicmncfaaGreatDoor
end

/- ---- Rdz ---- -/
section
/-
  Small, of any structs and of rows of them.
-/
set_option maxRecDepth 100000
namespace Go.Proofs.YtdblkeeicmncfaaGreatDoor
open Go.RowKit

/-- Where truth variables say that structs are valid. -/
def VEnv (E : Env) : Prop := ∀ i, i % 2 = 0 → E.b (i / 2) = okQ (E.r i).1 (E.r i).2 (E.r (i + 1)).1 (E.r (i + 1)).2
def kRVQ : Con
  | [.val true [.raw i, .raw j]], G => if i % 2 == 0 && (j == i + 1 && (G.find (.le (.rlen i) (.lit 6)) == some true && G.find (.le (.rlen j) (.lit 6)) == some true)) then some (.val false [.b (.var (i / 2))]) else none
  | _, _ => none
theorem one_raw2 {E : Env} {w : World} {i j : Nat} {v : Value} (h : one E w (true, [.raw i, .raw j]) v) : RawQ w v (E.r i).1 (E.r i).2 (E.r j).1 (E.r j).2 := by
  obtain ⟨us, rfl, l1, r1, rfl, ⟨x, y, rfl, h1⟩, l2, r2, rfl, ⟨z, t, rfl, h2⟩, hn⟩ := h
  simp only [chunks] at hn
  subst hn
  exact ⟨x, y, z, t, rfl, h1, h2⟩
theorem kRVQ_ok {E : Env} (hE : VEnv E) : ConOK Tryz.prog E 10 kRVQ := by
  refine ⟨?_, ?_, ⟨_, Tryz.func10, by decide +kernel, by kernel_rfl⟩⟩
  · intro args As r h hG β w vs hv hlen
    unfold kRVQ at h
    split at h
    · rename_i i j
      split at h
      · rename_i hlo
        injection h with h
        subst h
        simp only [Bool.and_eq_true, beq_iff_eq] at hlo
        obtain ⟨hi, rfl, b1, b2⟩ := hlo
        have c1 := of_decide_eq_true (Asm.find_spec hG b1)
        have c2 := of_decide_eq_true (Asm.find_spec hG b2)
        simp only [IT.den] at c1 c2
        obtain ⟨v, rfl, h1⟩ := args1 hv hlen
        refine (rvalid_rat_calls w v _ _ _ _ (one_raw2 h1) (by omega) (by omega)).mono ?_
        rintro e w' ⟨rfl, ex⟩
        exact ⟨_, rfl, one_bool.2 (by rw [← hE i hi]; rfl), ex⟩
      · cases h
    · cases h
  · intro args As r h x off
    unfold kRVQ at h
    split at h
    · split at h
      · injection h with h; subst h; intro e; cases e
      · cases h
    · cases h
/-- What Small says of a rational number's place. -/
def smQ (s1 : Bool) (xs1 : List Nat) (s2 : Bool) (xs2 : List Nat) : Bool := decide (xs1.length ≤ 6) && decide (xs2.length ≤ 6) && okQ s1 xs1 s2 xs2
/-- Structs, and what is said of them. -/
def bE (f : Bool → List Nat → Bool → List Nat → Bool) (l : List (Bool × List Nat)) : Env :=
  ⟨fun _ => 0, fun q => f (l.getD (2 * q) (false, [])).1 (l.getD (2 * q) (false, [])).2 (l.getD (2 * q + 1) (false, [])).1 (l.getD (2 * q + 1) (false, [])).2, fun i => l.getD i (false, []), fun _ => []⟩
theorem bE_ok (l : List (Bool × List Nat)) : VEnv (bE okQ l) := by
  intro i hi
  show okQ (l.getD (2 * (i / 2)) (false, [])).1 _ _ _ = _
  rw [show 2 * (i / 2) = i by omega]
  rfl
theorem rsmallQ_calls (w : World) (v : Value) (s1 s2 : Bool) (xs1 xs2 : List Nat) (h : RawQ w v s1 xs1 s2 xs2) :
    Calls Tryz.prog 28 #[v, .int .i64 6] w fun e w' => e = .returned (.bool (smQ s1 xs1 s2 xs2)) ∧ Ext w w' := by
  refine (fun_sound (C := cfgOf [(10, kRVQ)]) (E := bE okQ [(s1, xs1), (s2, xs2)]) (args := [argRaw 0 1, .val false [.n .i64 (.lit 6)]])
    (T := .ite (.le (.rlen 0) (.lit 6)) (.ite (.le (.rlen 1) (.lit 6)) (.leaf [(false, [.b (.var 0)])]) (.leaf [(false, [.b (.lit false)])])) (.leaf [(false, [.b (.lit false)])]))
    mixed (cfg_ok (.cons (kRVQ_ok (bE_ok _)) .nil)) no_asm Tryz.func28 (by decide +kernel) (by kernel_rfl) (by decide +kernel) rfl w [v, .int .i64 6] rfl ?_).mono ?_
  · intro i x hx
    match i, hx with
    | 0, hx => injection hx with hx; subst hx; exact ⟨fun _ => 0, v, rfl, argRaw_holds h rfl rfl⟩
    | 1, hx => injection hx with hx; subst hx; exact ⟨fun _ => 0, _, rfl, one_num.2 rfl⟩
  · rintro e w' ⟨β, u, rfl, hh, ex⟩
    have t1 : (BT.le (.rlen 0) (.lit 6)).den (bE okQ [(s1, xs1), (s2, xs2)]) = decide (xs1.length ≤ 6) := by
      show decide ((xs1.length : Int) ≤ 6) = _
      rw [decide_eq_decide]; omega
    have t2 : (BT.le (.rlen 1) (.lit 6)).den (bE okQ [(s1, xs1), (s2, xs2)]) = decide (xs2.length ≤ 6) := by
      show decide ((xs2.length : Int) ≤ 6) = _
      rw [decide_eq_decide]; omega
    simp only [Tree.pick, t1, t2, decide_eq_true_iff] at hh
    unfold smQ
    split at hh
    · rename_i c1
      split at hh
      · rename_i c2
        have := one_bool.1 hh
        subst this
        rw [decide_eq_true c1, decide_eq_true c2]
        exact ⟨rfl, ex⟩
      · rename_i c2
        have := one_bool.1 hh
        subst this
        rw [decide_eq_false c2, Bool.and_false]
        exact ⟨rfl, ex⟩
    · rename_i c1
      have := one_bool.1 hh
      subst this
      rw [decide_eq_false c1]
      exact ⟨rfl, ex⟩

end Go.Proofs.YtdblkeeicmncfaaGreatDoor
end

/- ---- Rea ---- -/
section
/-
  The laws' helper that asks whether all of a row is small.
-/
set_option maxRecDepth 100000
namespace Go.Proofs.YtdblkeeicmncfaaGreatDoor
open Go.RowKit

def SEnv (E : Env) : Prop := ∀ i, i % 2 = 0 → E.b (i / 2) = smQ (E.r i).1 (E.r i).2 (E.r (i + 1)).1 (E.r (i + 1)).2
theorem bE_sm (l : List (Bool × List Nat)) : SEnv (bE smQ l) := by
  intro i hi
  show smQ (l.getD (2 * (i / 2)) (false, [])).1 _ _ _ = _
  rw [show 2 * (i / 2) = i by omega]
  rfl
def kSmQ : Con
  | [.val true [.raw i, .raw j], .val false [.n .i64 (.lit z)]], _ => if i % 2 == 0 && (j == i + 1 && z == 6) then some (.val false [.b (.var (i / 2))]) else none
  | _, _ => none
theorem kSmQ_ok {E : Env} (hE : SEnv E) : ConOK Tryz.prog E 28 kSmQ := by
  refine ⟨?_, ?_, ⟨_, Tryz.func28, by decide +kernel, by kernel_rfl⟩⟩
  · intro args As r h hG β w vs hv hlen
    unfold kSmQ at h
    split at h
    · rename_i i j z
      split at h
      · rename_i hlo
        injection h with h
        subst h
        simp only [Bool.and_eq_true, beq_iff_eq] at hlo
        obtain ⟨hi, rfl, rfl⟩ := hlo
        obtain ⟨v, u, rfl, h1, h2⟩ := args2 hv hlen
        have h2' := one_num.1 h2
        subst h2'
        refine (rsmallQ_calls w v _ _ _ _ (one_raw2 h1)).mono ?_
        rintro e w' ⟨rfl, ex⟩
        exact ⟨_, rfl, one_bool.2 (by rw [← hE i hi]; rfl), ex⟩
      · cases h
    · cases h
  · intro args As r h x off
    unfold kSmQ at h
    split at h
    · split at h
      · injection h with h; subst h; intro e; cases e
      · cases h
    · cases h
def tabSm : List (Nat × Con) := [(28, kSmQ)]
/-- The chunks of a row of n rational numbers' places. -/
def rowC : Nat → List Chunk
  | 0 => []
  | n + 1 => rowC n ++ [.raw (2 * n), .raw (2 * n + 1)]
/-- What small says of a row. -/
def smAll (f : Nat → Bool) : Nat → Bool
  | 0 => true
  | n + 1 => smAll f n && f n
def tSm : Nat → Nat → Tree
  | _, 0 => .leaf [(false, [.b (.lit true)])]
  | k, n + 1 => .ite (.var k) (tSm (k + 1) n) (.leaf [(false, [.b (.lit false)])])
theorem tSm_pick {E : Env} : ∀ (n k : Nat), ∃ b, (tSm k n).pick E = [(false, [.b (.lit b)])] ∧ (b = true ↔ ∀ i, i < n → E.b (k + i) = true)
  | 0, k => ⟨true, rfl, by simp⟩
  | n + 1, k => by
    obtain ⟨b, h1, h2⟩ := tSm_pick (E := E) n (k + 1)
    cases hk : E.b k with
    | true =>
      refine ⟨b, ?_, ?_⟩
      · show (if E.b k = true then _ else _) = _
        rw [if_pos hk]; exact h1
      · rw [h2]
        constructor
        · intro h i hi
          match i with
          | 0 => exact hk
          | i + 1 => have := h i (by omega); rwa [show k + 1 + i = k + (i + 1) by omega] at this
        · intro h i hi
          have := h (i + 1) (by omega)
          rwa [show k + (i + 1) = k + 1 + i by omega] at this
    | false =>
      refine ⟨false, ?_, ?_⟩
      · show (if E.b k = true then _ else _) = _
        rw [if_neg (by rw [hk]; simp)]; rfl
      · constructor
        · intro h; cases h
        · intro h; have := h 0 (by omega); rw [Nat.add_zero, hk] at this; cases this
theorem small_row {E : Env} (hE : SEnv E) {n : Nat} (hT : funR (cfgOf tabSm) Tryz.f5 [] (rowC n) (big + n) = some (tSm 0 n)) (h0 : sizes (rowC n) ≠ 0) (w : World) (b : Nat) (h : VarAt E w b (rowC n)) :
    Calls Tryz.prog 5 #[pv b (big + n)] w fun e w' => ∃ c, e = .returned (.bool c) ∧ (c = true ↔ ∀ i, i < n → E.b i = true) ∧ Ext w w' := by
  refine (row_sound mixed (cfg_ok (.cons (kSmQ_ok hE) .nil)) no_asm Tryz.func5 (by decide +kernel) hT (by decide +kernel) w b h h0).mono ?_
  rintro e w' ⟨β, v, rfl, hh, ex⟩
  obtain ⟨c, h1, h2⟩ := tSm_pick (E := E) n 0
  rw [h1] at hh
  have := one_bool.1 hh
  subst this
  refine ⟨c, rfl, ?_, ex⟩
  rw [h2]
  constructor
  · intro h i hi; have := h i hi; rwa [Nat.zero_add] at this
  · intro h i hi; rw [Nat.zero_add]; exact h i hi
theorem small_row1 {E : Env} (hE : SEnv E) (w : World) (b : Nat) (h : VarAt E w b (rowC 1)) :
    Calls Tryz.prog 5 #[pv b (big + 1)] w fun e w' => ∃ c, e = .returned (.bool c) ∧ (c = true ↔ ∀ i, i < 1 → E.b i = true) ∧ Ext w w' := small_row hE (n := 1) (by kernel_rfl) (by decide) w b h
theorem small_row2 {E : Env} (hE : SEnv E) (w : World) (b : Nat) (h : VarAt E w b (rowC 2)) :
    Calls Tryz.prog 5 #[pv b (big + 2)] w fun e w' => ∃ c, e = .returned (.bool c) ∧ (c = true ↔ ∀ i, i < 2 → E.b i = true) ∧ Ext w w' := small_row hE (n := 2) (by kernel_rfl) (by decide) w b h
theorem small_row3 {E : Env} (hE : SEnv E) (w : World) (b : Nat) (h : VarAt E w b (rowC 3)) :
    Calls Tryz.prog 5 #[pv b (big + 3)] w fun e w' => ∃ c, e = .returned (.bool c) ∧ (c = true ↔ ∀ i, i < 3 → E.b i = true) ∧ Ext w w' := small_row hE (n := 3) (by kernel_rfl) (by decide) w b h

end Go.Proofs.YtdblkeeicmncfaaGreatDoor
end

/- ---- Reb ---- -/
section
/-
  A configuration for the laws of rational numbers: awake, small, and the table.
-/
set_option maxRecDepth 100000
namespace Go.Proofs.YtdblkeeicmncfaaGreatDoor
open Go.RowKit

def Awake (W : World → Prop) : Prop := ∀ w : World, W w → Calls Tryz.prog 4 #[] w fun e w' => e = .returned (.bool true) ∧ Ext w w'
def SmOK (E : Env) (sm : List Chunk → Nat → Option Bool) : Prop := ∀ cs off c, sm cs off = some c → ∀ (w : World) (b : Nat), VarAt E w b cs → Calls Tryz.prog 5 #[pv b off] w fun e w' => e = .returned (.bool c) ∧ Ext w w'
def callsL (tab : List (Nat × Con)) (sm : List Chunk → Nat → Option Bool) (f : Nat) (args : List AV) (M : List (Option (List Chunk))) (G : Asm) : Option AV :=
  if f = 5 then
    match args, M with
    | [.ptr _ off], [some cs] => (sm cs off).map fun c => .val false [.b (.lit c)]
    | _, _ => none
  else if f = 4 then
    match args with
    | [] => some (.val false [.b (.lit true)])
    | _ => none
  else tabE tab f args G
def cfgL (W : World → Prop) (tab : List (Nat × Con)) (sm : List Chunk → Nat → Option Bool) : Cfg := { cfgOf tab with calls := callsL tab sm, wok := W }
theorem cfgL_ok {E : Env} {tab : List (Nat × Con)} {sm : List Chunk → Nat → Option Bool} {W : World → Prop} (h : TabOK Tryz.prog E tab) (haw : Awake W) (hs : SmOK E sm) : CfgOK Tryz.prog E (cfgL W tab sm) := by
  have k := cfg_ok h
  refine ⟨k.zero, k.ag, k.fld, k.flds, k.bool, k.row, k.arr, ?_, ?_, ?_, k.slc, k.strT, k.cnv, k.apd⟩
  · intro f args M G r hr hG β w vs hwk hv hlen hm
    simp only [cfgL, callsL] at hr
    split at hr
    · rename_i hf
      subst hf
      split at hr
      · rename_i x off cs
        obtain ⟨c, hc, rfl⟩ := Option.map_eq_some_iff.1 hr
        obtain ⟨v, rfl, h1⟩ := args1 hv hlen
        have h1' : v = pv (β x) off := h1
        subst h1'
        refine (hs cs off c hc w (β x) (hm 0 x off cs rfl rfl)).mono ?_
        rintro e w' ⟨rfl, ex⟩
        exact ⟨_, rfl, one_bool.2 rfl, ex⟩
      · cases hr
    · split at hr
      · rename_i hf
        subst hf
        split at hr
        · injection hr with hr
          subst hr
          obtain rfl : vs = [] := by simpa using hlen
          refine (haw w hwk).mono ?_
          rintro e w' ⟨rfl, ex⟩
          exact ⟨_, rfl, one_bool.2 rfl, ex⟩
        · cases hr
      · obtain ⟨kk, hk, hkr⟩ := tabE_mem hr
        exact (h.all _ hk).calls args G r hkr hG β w vs hv hlen
  · intro f args M G r hr x off
    simp only [cfgL, callsL] at hr
    split at hr
    · split at hr
      · obtain ⟨c, hc, rfl⟩ := Option.map_eq_some_iff.1 hr
        intro e; cases e
      · cases hr
    · split at hr
      · split at hr
        · injection hr with hr; subst hr; intro e; cases e
        · cases hr
      · obtain ⟨kk, hk, hkr⟩ := tabE_mem hr
        exact (h.all _ hk).nptr args G r hkr x off
  · intro f args M G r hr
    simp only [cfgL, callsL] at hr
    split at hr
    · rename_i hf
      subst hf
      exact ⟨_, Tryz.func5, by decide +kernel, by kernel_rfl⟩
    · split at hr
      · rename_i hf
        subst hf
        exact ⟨_, Tryz.func4, by decide +kernel, by kernel_rfl⟩
      · obtain ⟨kk, hk, hkr⟩ := tabE_mem hr
        exact (h.all _ hk).body

/-- Rows, told by their form. -/
def isRaw : Nat → List Chunk → Bool
  | _, [] => true
  | i, .raw j :: cs => j == i && isRaw (i + 1) cs
  | _, _ => false
theorem isRaw_spec : ∀ {cs : List Chunk} {i : Nat}, isRaw i cs = true → cs = (List.range cs.length).map fun k => .raw (i + k)
  | [], _, _ => rfl
  | .raw j :: cs, i, h => by
    simp only [isRaw, Bool.and_eq_true, beq_iff_eq] at h
    obtain ⟨rfl, h⟩ := h
    have := isRaw_spec h
    rw [List.length_cons, List.range_succ_eq_map, List.map_cons, List.map_map, Nat.add_zero]
    congr 1
    refine Eq.trans this (List.map_congr_left fun k _ => ?_)
    show Chunk.raw _ = Chunk.raw _
    rw [show j + 1 + k = j + (k + 1) by omega]
  | .b _ :: _, _, h | .n _ _ :: _, _, h | .int _ _ :: _, _, h | .mag _ _ :: _, _, h | .rmag _ :: _, _, h | .fn _ :: _, _, h | .nilSlice :: _, _, h | .str _ _ :: _, _, h => by cases h
def smF (n : Nat) (cs : List Chunk) (off : Nat) : Option Bool := if isRaw 0 cs && (cs.length == 2 * n && off == big + n) then some false else none
theorem smF_ok2 {l : List (Bool × List Nat)} (hn : ¬ ∀ i, i < 2 → (bE smQ l).b i = true) : SmOK (bE smQ l) (smF 2) := by
  intro cs off c h w b hv
  unfold smF at h
  split at h
  · rename_i hb
    injection h with h
    subst h
    simp only [Bool.and_eq_true, beq_iff_eq] at hb
    obtain ⟨h1, h2, rfl⟩ := hb
    have hcs := isRaw_spec h1
    rw [h2] at hcs
    have hcs' : cs = rowC 2 := hcs
    subst hcs'
    refine (small_row2 (bE_sm l) w b hv).mono ?_
    rintro e w' ⟨c, rfl, hc, ex⟩
    have : c = false := by
      cases c with
      | false => rfl
      | true => exact absurd (hc.1 rfl) hn
    subst this
    exact ⟨rfl, ex⟩
  · cases h

end Go.Proofs.YtdblkeeicmncfaaGreatDoor
end

/- ---- Rec ---- -/
section
/-
  RationalArithmetic, given that awake is true.
-/
set_option maxRecDepth 100000
namespace Go.Proofs.YtdblkeeicmncfaaGreatDoor
open Go.RowKit

theorem int_raw {w : World} {v : Value} {z : Int} (h : IsInt w v z) : Raw w v (decide (z < 0)) (limbs z.natAbs) ∧ okB (decide (z < 0)) (limbs z.natAbs) = true := by
  obtain ⟨ao, cap, s, n, rfl, h1, h2, h3, H4, H5, H6⟩ := h.open_
  obtain ⟨k1, k2⟩ := isInt_raw h1 h2 h3 H6.out
  have e4 : n = z.natAbs := H4.out
  have e5 : z = sgn s n := H5.out
  have e6 := H6.out
  have es : s = decide (z < 0) := by
    cases s with
    | true => rw [eq_comm, decide_eq_true_iff, e5]; have := e6 rfl; simp [sgn]; omega
    | false => rw [eq_comm, decide_eq_false_iff_not, e5]; simp [sgn]
  rw [← e4, ← es]
  exact ⟨k1, k2⟩
def rawOf (q : Rat) : List (Bool × List Nat) := [(decide (q.num < 0), limbs q.num.natAbs), (decide ((q.den : Int) < 0), limbs (q.den : Int).natAbs)]
theorem smQ_of {q : Rat} (l : LimQ 6 q) {w : World} {v : Value} (h : IsRat w v q) : smQ (decide (q.num < 0)) (limbs q.num.natAbs) (decide ((q.den : Int) < 0)) (limbs (q.den : Int).natAbs) = true := by
  obtain ⟨a, b, c, d, rfl, h1, h2⟩ := h
  obtain ⟨_, k1⟩ := int_raw h1
  obtain ⟨_, k2⟩ := int_raw h2
  have e1 : sgn (decide (q.num < 0)) (val (limbs q.num.natAbs)) = q.num := by rw [val_limbs]; exact sgn_self q.num
  have e2 : sgn (decide ((q.den : Int) < 0)) (val (limbs (q.den : Int).natAbs)) = (q.den : Int) := by rw [val_limbs]; exact sgn_self (q.den : Int)
  have l1 : (limbs q.num.natAbs).length ≤ 6 := l.1
  have l2 : (limbs (q.den : Int).natAbs).length ≤ 6 := l.2
  unfold smQ okQ
  rw [k1, k2, e1, e2, decide_eq_true l1, decide_eq_true l2, decide_eq_true (show 0 < (q.den : Int) by have := q.den_pos; omega)]
  rw [decide_eq_true (show Nat.gcd q.num.natAbs (q.den : Int).natAbs = 1 from q.reduced)]
  rfl
/-- Rows of integers, told by their form. -/
def isVars : Nat → List Chunk → Bool
  | _, [] => true
  | i, .int (.var j) l :: cs => (j == i && l == 6) && isVars (i + 1) cs
  | _, _ => false
def smT (n : Nat) (cs : List Chunk) (off : Nat) : Option Bool := if isVars 0 cs && (cs.length == 2 * n && off == big + n) then some true else none
theorem isVars_spec : ∀ {cs : List Chunk} {i : Nat}, isVars i cs = true → cs = (List.range cs.length).map fun k => .int (.var (i + k)) 6
  | [], _, _ => rfl
  | .int (.var j) l :: cs, i, h => by
    simp only [isVars, Bool.and_eq_true, beq_iff_eq] at h
    obtain ⟨⟨rfl, rfl⟩, h⟩ := h
    have := isVars_spec h
    rw [List.length_cons, List.range_succ_eq_map, List.map_cons, List.map_map, Nat.add_zero]
    congr 1
    refine Eq.trans this (List.map_congr_left fun k _ => ?_)
    show Chunk.int _ _ = Chunk.int _ _
    rw [show j + 1 + k = j + (k + 1) by omega]
  | .int (.lit _) _ :: _, _, h | .int (.rlen _) _ :: _, _, h | .int (.slen _) _ :: _, _, h | .int (.a1 _ _) _ :: _, _, h | .int (.a2 _ _ _) _ :: _, _, h | .int (.a4 _ _ _ _ _) _ :: _, _, h => by cases h
  | .b _ :: _, _, h | .n _ _ :: _, _, h | .raw _ :: _, _, h | .mag _ _ :: _, _, h | .rmag _ :: _, _, h | .fn _ :: _, _, h | .nilSlice :: _, _, h | .str _ _ :: _, _, h => by cases h
theorem int_chunk {E E' : Env} {w : World} {t : IT} {l i : Nat} {vs : List Value} (h : (Chunk.int t l).holds E w vs) (e : E'.r i = (decide (t.den E < 0), limbs (t.den E).natAbs)) : (Chunk.raw i).holds E' w vs := by
  obtain ⟨x, y, rfl, hI, _⟩ := h
  refine ⟨x, y, rfl, ?_⟩
  rw [e]
  exact (int_raw hI).1
theorem smT_ok2 {a b : Rat} (ha : smQ (decide (a.num < 0)) (limbs a.num.natAbs) (decide ((a.den : Int) < 0)) (limbs (a.den : Int).natAbs) = true) (hb : smQ (decide (b.num < 0)) (limbs b.num.natAbs) (decide ((b.den : Int) < 0)) (limbs (b.den : Int).natAbs) = true) : SmOK (qE [a, b]) (smT 2) := by
  intro cs off c h w bl hv
  unfold smT at h
  split at h
  · rename_i hbb
    injection h with h
    subst h
    simp only [Bool.and_eq_true, beq_iff_eq] at hbb
    obtain ⟨h1, h2, rfl⟩ := hbb
    have hcs := isVars_spec h1
    rw [h2] at hcs
    have hcs' : cs = [.int (.var 0) 6, .int (.var 1) 6, .int (.var 2) 6, .int (.var 3) 6] := hcs
    subst hcs'
    have hv' : VarAt (bE smQ (rawOf a ++ rawOf b)) w bl (rowC 2) := by
      obtain ⟨vs, hc, hcell⟩ := hv
      refine ⟨vs, ?_, hcell⟩
      obtain ⟨l1, r1, rfl, c1, l2, r2, rfl, c2, l3, r3, rfl, c3, l4, r4, rfl, c4, hn⟩ := hc
      exact ⟨l1, _, rfl, int_chunk c1 rfl, l2, _, rfl, int_chunk c2 rfl, l3, _, rfl, int_chunk c3 rfl, l4, r4, rfl, int_chunk c4 rfl, hn⟩
    refine (small_row2 (bE_sm _) w bl hv').mono ?_
    rintro e w' ⟨c, rfl, hc, ex⟩
    have : c = true := hc.2 (fun i hi => by
      match i, hi with
      | 0, _ => exact ha
      | 1, _ => exact hb)
    subst this
    exact ⟨rfl, ex⟩
  · cases h
def argS (i : Nat) : AV := .val true [.int (.var (2 * i)) 6, .int (.var (2 * i + 1)) 6]
theorem argS_holds {E : Env} {β : Nat → Nat} {w : World} {v : Value} {q : Rat} {i : Nat} (h : IsRat w v q) (l : LimQ 6 q) (e1 : E.i (2 * i) = q.num) (e2 : E.i (2 * i + 1) = (q.den : Int)) : (argS i).holds E β w v := by
  refine one_pair.2 ⟨?_, ?_, ?_⟩
  · show IsPair w v (E.i (2 * i)) (E.i (2 * i + 1)); rw [e1, e2]; exact h
  · show Lim 6 (E.i (2 * i)); rw [e1]; exact l.1
  · show Lim 6 (E.i (2 * i + 1)); rw [e2]; exact l.2
end Go.Proofs.YtdblkeeicmncfaaGreatDoor
end

/- ---- Red ---- -/
section
/-
  RationalArithmetic at any arguments, given that awake is true.
-/
set_option maxRecDepth 100000
namespace Go.Proofs.YtdblkeeicmncfaaGreatDoor
open Go.RowKit

theorem smQ_rat {w : World} {v : Value} {s1 s2 : Bool} {xs1 xs2 : List Nat} (h : RawQ w v s1 xs1 s2 xs2) (hs : smQ s1 xs1 s2 xs2 = true) : ∃ q : Rat, IsRat w v q ∧ LimQ 6 q := by
  unfold smQ okQ at hs
  simp only [Bool.and_eq_true, decide_eq_true_iff] at hs
  obtain ⟨⟨c1, c2⟩, ⟨⟨b1, b2⟩, b3⟩, b4⟩ := hs
  have hp := okQ_pair h b1 b2
  have m1 : Lim 6 (sgn s1 (val xs1)) := by obtain ⟨a, b, c, d, rfl, h1, h2⟩ := h; exact ok_lim h1 b1 c1
  have m2 : Lim 6 (sgn s2 (val xs2)) := by obtain ⟨a, b, c, d, rfl, h1, h2⟩ := h; exact ok_lim h2 b2 c2
  generalize sgn s1 (val xs1) = n at *
  generalize sgn s2 (val xs2) = d at *
  have hd : ((d.natAbs : Nat) : Int) = d := by omega
  refine ⟨⟨n, d.natAbs, by omega, b4⟩, ?_, m1, ?_⟩
  · show IsPair w v n ((d.natAbs : Nat) : Int)
    rw [hd]; exact hp
  · show Lim 6 ((d.natAbs : Nat) : Int)
    rw [hd]; exact m2
end Go.Proofs.YtdblkeeicmncfaaGreatDoor
end

/- ---- Ree ---- -/
section
/-
  Simplest, at the constants of awake.
-/
set_option maxRecDepth 100000
namespace Go.Proofs.YtdblkeeicmncfaaGreatDoor
open Go.RowKit

def argL (i l : Nat) : AV := .val true [.int (.var (2 * i)) l, .int (.var (2 * i + 1)) l]
theorem convergent_calls (w : World) (v1 v2 v3 : Value) (n1 d1 n2 d2 t : Int) (h1 : IsPair w v1 n1 d1) (h2 : IsPair w v2 n2 d2) (h3 : IsInt w v3 t) (l1 : Lim 1000 n1) (l1' : Lim 1000 d1) (l2 : Lim 1000 n2) (l2' : Lim 1000 d2) (l3 : Lim 1000 t) :
    Calls Tryz.prog 64 #[v1, v2, v3] w (Ret (fun v w' => IsPair w' v (t * n1 + n2) (t * d1 + d2)) w) := by
  refine (fun_sound (C := cfgOf tabInt) (E := zE [n1, d1, n2, d2, t]) (args := [argL 0 1000, argL 1 1000, .val true [.int (.var 4) 1000]])
    (T := .leaf [(true, [.int (.a2 0 (.a2 2 (.var 4) (.var 0)) (.var 2)) 2001, .int (.a2 0 (.a2 2 (.var 4) (.var 1)) (.var 3)) 2001])])
    mixed (cfg_ok tabInt_ok) no_asm Tryz.func64 (by decide +kernel) (by kernel_rfl) (by decide +kernel) rfl w [v1, v2, v3] rfl ?_).mono ?_
  · intro i x hx
    match i, hx with
    | 0, hx => injection hx with hx; subst hx; exact ⟨fun _ => 0, v1, rfl, one_pair.2 ⟨h1, l1, l1'⟩⟩
    | 1, hx => injection hx with hx; subst hx; exact ⟨fun _ => 0, v2, rfl, one_pair.2 ⟨h2, l2, l2'⟩⟩
    | 2, hx => injection hx with hx; subst hx; exact ⟨fun _ => 0, v3, rfl, one_int.2 ⟨h3, l3⟩⟩
  · rintro e w' ⟨β, v, rfl, hh, ex⟩
    exact ⟨v, rfl, (one_pair.1 hh).1, ex⟩
def kConv : Con
  | [.val true [.int x l, .int y m], .val true [.int z k, .int t j], .val true [.int u n]], _ => if decide (l ≤ 1000) && (decide (m ≤ 1000) && (decide (k ≤ 1000) && (decide (j ≤ 1000) && decide (n ≤ 1000)))) then
      some (.val true [.int (.a2 0 (.a2 2 u x) z) (n + l + k + 1), .int (.a2 0 (.a2 2 u y) t) (n + m + j + 1)]) else none
  | _, _ => none
theorem kConv_ok {E : Env} : ConOK Tryz.prog E 64 kConv := by
  refine ⟨?_, ?_, ⟨_, Tryz.func64, by decide +kernel, by kernel_rfl⟩⟩
  · intro args As r h hG β w vs hv hlen
    unfold kConv at h
    split at h
    · rename_i x l y m z k t j u n
      split at h
      · rename_i hlo
        injection h with h
        subst h
        simp only [Bool.and_eq_true, decide_eq_true_iff] at hlo
        obtain ⟨b1, b2, b3, b4, b5⟩ := hlo
        obtain ⟨v1, v2, v3, rfl, h1, h2, h3⟩ := args3 hv hlen
        obtain ⟨p1, a1, a2⟩ := one_pair.1 h1
        obtain ⟨p2, a3, a4⟩ := one_pair.1 h2
        obtain ⟨p3, a5⟩ := one_int.1 h3
        refine (convergent_calls w v1 v2 v3 _ _ _ _ _ p1 p2 p3 (a1.mono b1) (a2.mono b2) (a3.mono b3) (a4.mono b4) (a5.mono b5)).mono ?_
        rintro e w' ⟨v', rfl, hp, ex⟩
        exact ⟨v', rfl, one_pair.2 ⟨hp, ((a5.mul a1).add2 a3).mono (by omega), ((a5.mul a2).add2 a4).mono (by omega)⟩, ex⟩
      · cases h
    · cases h
  · intro args As r h x off
    unfold kConv at h
    split at h
    · split at h
      · injection h with h; subst h; intro e; cases e
      · cases h
    · cases h
def tabSP : List (Nat × Con) := (64, kConv) :: tabDiv
theorem tabSP_ok {E : Env} : TabOK Tryz.prog E tabSP := .cons kConv_ok tabDiv_ok
def litP (a b : Int) : AV := .val true [.int (.lit a) 1, .int (.lit b) 1]
theorem lim1 {z : Int} (h : z.natAbs < 1000000000) : Lim 1 z := limbs_len_le (by simpa using h)
def leafP : Tree → Option (Int × Int)
  | .leaf [(true, [.int x _, .int y _])] => match x.cl, y.cl with
    | some p, some q => some (p, q)
    | _, _ => none
  | _ => none
def leafPE : Tree → Option (Int × Int × Int)
  | .leaf [(true, [.int x _, .int y _]), (false, [.n .i64 z])] => match x.cl, y.cl, z.cl with
    | some p, some q, some e => some (p, q, e)
    | _, _, _ => none
  | _ => none
theorem leafP_spec {E : Env} {β : Nat → Nat} {w : World} {T : Tree} {p q : Int} {v : Value} (h : leafP T = some (p, q)) (hh : (toAV (T.pick E)).holds E β w v) : IsPair w v p q := by
  unfold leafP at h
  split at h
  · split at h
    · rename_i a b ha hb
      injection h with h
      injection h with h1 h2
      subst h1 h2
      have := (one_pair.1 hh).1
      rw [IT.cl_spec ha, IT.cl_spec hb] at this
      exact this
    · cases h
  · cases h
theorem leafPE_spec {E : Env} {β : Nat → Nat} {w : World} {T : Tree} {p q e : Int} {v : Value} (h : leafPE T = some (p, q, e)) (hh : (toAV (T.pick E)).holds E β w v) : ∃ u, v = .tuple #[u, .int .i64 e] ∧ IsPair w u p q := by
  unfold leafPE at h
  split at h
  · split at h
    · rename_i a b c ha hb hc
      injection h with h
      injection h with h1 h2
      injection h2 with h2 h3
      subst h1 h2 h3
      obtain ⟨u, rfl, hp⟩ := open_quot hh
      rw [IT.cl_spec ha, IT.cl_spec hb] at hp
      rw [IT.cl_spec hc]
      exact ⟨u, rfl, hp⟩
    · cases h
  · cases h
theorem litP_holds {E : Env} {β : Nat → Nat} {w : World} {v : Value} {a b : Int} (h : IsPair w v a b) (l1 : Lim 1 a) (l2 : Lim 1 b) : (litP a b).holds E β w v := one_pair.2 ⟨h, l1, l2⟩
theorem sp_lit {a b c d p q : Int} (w : World) (v1 v2 : Value) (h1 : IsPair w v1 a b) (h2 : IsPair w v2 c d) (l1 : Lim 1 a) (l2 : Lim 1 b) (l3 : Lim 1 c) (l4 : Lim 1 d)
    (hT : (funE (cfgOf tabSP) Tryz.f32 [] [litP a b, litP c d]).bind leafP = some (p, q)) :
    Calls Tryz.prog 32 #[v1, v2] w (Ret (fun v w' => IsPair w' v p q) w) := by
  obtain ⟨T, hT1, hT2⟩ := Option.bind_eq_some_iff.1 hT
  refine (fun_sound (E := zE []) (args := [litP a b, litP c d]) mixed (cfg_ok tabSP_ok) no_asm Tryz.func32 (by decide +kernel) hT1 (show 2 ≤ _ by decide +kernel) rfl w [v1, v2] rfl ?_).mono ?_
  · intro i x hx
    match i, hx with
    | 0, hx => injection hx with hx; subst hx; exact ⟨fun _ => 0, v1, rfl, litP_holds h1 l1 l2⟩
    | 1, hx => injection hx with hx; subst hx; exact ⟨fun _ => 0, v2, rfl, litP_holds h2 l3 l4⟩
  · rintro e w' ⟨β, v, rfl, hh, ex⟩
    exact ⟨v, rfl, leafP_spec hT2 hh, ex⟩
/-- simplestPositive at the constants. -/
def kSP : Con
  | [.val true [.int (.lit a) l, .int (.lit b) m], .val true [.int (.lit c) k, .int (.lit d) j]], _ =>
    if l == 1 && (m == 1 && (k == 1 && j == 1)) then
      if a == 3 && (b == 10 && (c == 2 && d == 5)) then some (.val true [.int (.lit 1) 1, .int (.lit 3) 1])
      else if a == 2 && (b == 1 && (c == 3 && d == 1)) then some (.val true [.int (.lit 5) 1, .int (.lit 2) 1]) else none
    else none
  | _, _ => none
theorem kSP_ok {E : Env} : ConOK Tryz.prog E 32 kSP := by
  refine ⟨?_, ?_, ⟨_, Tryz.func32, by decide +kernel, by kernel_rfl⟩⟩
  · intro args As r h hG β w vs hv hlen
    unfold kSP at h
    split at h
    · split at h
      · rename_i hlo
        simp only [Bool.and_eq_true, beq_iff_eq] at hlo
        obtain ⟨rfl, rfl, rfl, rfl⟩ := hlo
        obtain ⟨v, u, rfl, h1, h2⟩ := args2 hv hlen
        obtain ⟨p1, a1, a2⟩ := one_pair.1 h1
        obtain ⟨p2, a3, a4⟩ := one_pair.1 h2
        split at h
        · rename_i hz
          simp only [Bool.and_eq_true, beq_iff_eq] at hz
          obtain ⟨rfl, rfl, rfl, rfl⟩ := hz
          injection h with h
          subst h
          refine (sp_lit (p := 1) (q := 3) w v u p1 p2 a1 a2 a3 a4 (by kernel_rfl)).mono ?_
          rintro e w' ⟨v', rfl, hp, ex⟩
          exact ⟨v', rfl, one_pair.2 ⟨hp, lim1 (z := 1) (by decide), lim1 (z := 3) (by decide)⟩, ex⟩
        · split at h
          · rename_i hz
            simp only [Bool.and_eq_true, beq_iff_eq] at hz
            obtain ⟨rfl, rfl, rfl, rfl⟩ := hz
            injection h with h
            subst h
            refine (sp_lit (p := 5) (q := 2) w v u p1 p2 a1 a2 a3 a4 (by kernel_rfl)).mono ?_
            rintro e w' ⟨v', rfl, hp, ex⟩
            exact ⟨v', rfl, one_pair.2 ⟨hp, lim1 (z := 5) (by decide), lim1 (z := 2) (by decide)⟩, ex⟩
          · cases h
      · cases h
    · cases h
  · intro args As r h x off
    unfold kSP at h
    split at h
    · split at h
      · split at h
        · injection h with h; subst h; intro e; cases e
        · split at h
          · injection h with h; subst h; intro e; cases e
          · cases h
      · cases h
    · cases h
end Go.Proofs.YtdblkeeicmncfaaGreatDoor
end

/- ---- Rsi ---- -/
section
/-
  Simplest, at the constants of awake.
-/
set_option maxRecDepth 100000
namespace Go.Proofs.YtdblkeeicmncfaaGreatDoor
open Go.RowKit

theorem validP_calls (w : World) (v : Value) (n d : Int) (h : IsPair w v n d) (l1 : Lim 100000 n) (l2 : Lim 100000 d) :
    Calls Tryz.prog 29 #[v] w fun e w' => e = .returned (.bool (decide (0 < d) && ((Nat.gcd n.natAbs d.natAbs : Nat) : Int) == 1)) ∧ Ext w w' := by
  obtain ⟨a, b, c, f, rfl, h1, h2⟩ := h
  obtain ⟨k1, k2⟩ := int_raw h1
  obtain ⟨j1, j2⟩ := int_raw h2
  refine (valid_rat_calls w _ _ _ _ _ ⟨a, b, c, f, rfl, k1, j1⟩ (Nat.le_trans l1 (by omega)) (Nat.le_trans l2 (by omega))).mono ?_
  rintro e w' ⟨rfl, ex⟩
  refine ⟨ret_bool ?_, ex⟩
  have e1 : sgn (decide (n < 0)) (val (limbs n.natAbs)) = n := by rw [val_limbs]; exact sgn_self n
  have e2 : sgn (decide (d < 0)) (val (limbs d.natAbs)) = d := by rw [val_limbs]; exact sgn_self d
  unfold okQ
  rw [k2, j2, e1, e2, Bool.true_and, Bool.true_and]
  congr 1
  by_cases hg : Nat.gcd n.natAbs d.natAbs = 1
  · rw [decide_eq_true hg, eq_comm, beq_iff_eq]; omega
  · rw [decide_eq_false hg, eq_comm, beq_eq_false_iff_ne]; omega
def kValP : Con
  | [.val true [.int x l, .int y m]], _ => if decide (l ≤ 100000) && decide (m ≤ 100000) then some (.val false [.b (.and (.lt (.lit 0) y) (.eq (.a2 6 x y) (.lit 1)))]) else none
  | _, _ => none
theorem kValP_ok {E : Env} : ConOK Tryz.prog E 29 kValP := by
  refine ⟨?_, ?_, ⟨_, Tryz.func29, by decide +kernel, by kernel_rfl⟩⟩
  · intro args As r h hG β w vs hv hlen
    unfold kValP at h
    split at h
    · split at h
      · rename_i hlo
        injection h with h
        subst h
        simp only [Bool.and_eq_true, decide_eq_true_iff] at hlo
        obtain ⟨v, rfl, h1⟩ := args1 hv hlen
        obtain ⟨p1, a1, a2⟩ := one_pair.1 h1
        refine (validP_calls w v _ _ p1 (a1.mono hlo.1) (a2.mono hlo.2)).mono ?_
        rintro e w' ⟨rfl, ex⟩
        exact ⟨_, rfl, one_bool.2 rfl, ex⟩
      · cases h
    · cases h
  · intro args As r h x off
    unfold kValP at h
    split at h
    · split at h
      · injection h with h; subst h; intro e; cases e
      · cases h
    · cases h
def tabSi : List (Nat × Con) := [(29, kValP), (30, kCmpQ), (31, kSg), (32, kSP), (34, kFromQ)]
theorem tabSi_ok {E : Env} (hE : QEnv E) : TabOK Tryz.prog E tabSi :=
  .cons kValP_ok (.cons (kCmpQ_ok hE (fun w v1 v2 a b h1 h2 l1 l2 => cmp_rat_calls w v1 v2 a b h1 h2 l1 l2) ⟨_, Tryz.func30, by decide +kernel, by kernel_rfl⟩)
    (.cons kSg_ok (.cons kSP_ok (.cons (kFromQ_ok (fun w n h => from_rat_calls w n h) ⟨_, Tryz.func34, by decide +kernel, by kernel_rfl⟩) .nil))))
theorem si_lit {a b c d p q : Int} (w : World) (v1 v2 : Value) (h1 : IsPair w v1 a b) (h2 : IsPair w v2 c d) (l1 : Lim 1 a) (l2 : Lim 1 b) (l3 : Lim 1 c) (l4 : Lim 1 d)
    (hT : (funE (cfgOf tabSi) Tryz.f6 [] [litP a b, litP c d]).bind leafPE = some (p, q, 0)) :
    Calls Tryz.prog 6 #[v1, v2] w fun e w' => ∃ u, e = .returned (.tuple #[u, .int .i64 0]) ∧ IsPair w' u p q ∧ Ext w w' := by
  obtain ⟨T, hT1, hT2⟩ := Option.bind_eq_some_iff.1 hT
  refine (fun_sound (E := qE []) (args := [litP a b, litP c d]) mixed (cfg_ok (tabSi_ok (qE_ok _))) no_asm Tryz.func6 (by decide +kernel) hT1 (show 2 ≤ _ by decide +kernel) rfl w [v1, v2] rfl ?_).mono ?_
  · intro i x hx
    match i, hx with
    | 0, hx => injection hx with hx; subst hx; exact ⟨fun _ => 0, v1, rfl, litP_holds h1 l1 l2⟩
    | 1, hx => injection hx with hx; subst hx; exact ⟨fun _ => 0, v2, rfl, litP_holds h2 l3 l4⟩
  · rintro e w' ⟨β, v, rfl, hh, ex⟩
    obtain ⟨u, rfl, hp⟩ := leafPE_spec hT2 hh
    exact ⟨u, rfl, hp, ex⟩
theorem si_1 (w : World) (v1 v2 : Value) (h1 : IsPair w v1 3 10) (h2 : IsPair w v2 2 5) :
    Calls Tryz.prog 6 #[v1, v2] w fun e w' => ∃ u, e = .returned (.tuple #[u, .int .i64 0]) ∧ IsPair w' u 1 3 ∧ Ext w w' := si_lit w v1 v2 h1 h2 (lim1 (by decide)) (lim1 (by decide)) (lim1 (by decide)) (lim1 (by decide)) (by kernel_rfl)
theorem si_2 (w : World) (v1 v2 : Value) (h1 : IsPair w v1 (-5) 2) (h2 : IsPair w v2 7 2) :
    Calls Tryz.prog 6 #[v1, v2] w fun e w' => ∃ u, e = .returned (.tuple #[u, .int .i64 0]) ∧ IsPair w' u 0 1 ∧ Ext w w' := si_lit w v1 v2 h1 h2 (lim1 (by decide)) (lim1 (by decide)) (lim1 (by decide)) (lim1 (by decide)) (by kernel_rfl)
theorem si_3 (w : World) (v1 v2 : Value) (h1 : IsPair w v1 2 1) (h2 : IsPair w v2 3 1) :
    Calls Tryz.prog 6 #[v1, v2] w fun e w' => ∃ u, e = .returned (.tuple #[u, .int .i64 0]) ∧ IsPair w' u 5 2 ∧ Ext w w' := si_lit w v1 v2 h1 h2 (lim1 (by decide)) (lim1 (by decide)) (lim1 (by decide)) (lim1 (by decide)) (by kernel_rfl)

end Go.Proofs.YtdblkeeicmncfaaGreatDoor
end

/- ---- Rsr ---- -/
section
/-
  Square roots of rational numbers.
-/
set_option maxRecDepth 100000
namespace Go.Proofs.YtdblkeeicmncfaaGreatDoor
open Go.RowKit

theorem isqN_le (n : Nat) : isqN n ≤ n := by
  induction n with
  | zero => exact Nat.le_refl _
  | succ n ih =>
    unfold isqN
    split <;> omega
theorem isq_lim {l : Nat} {z : Int} (h : Lim l z) : Lim l (isq z) := by
  refine h.natAbs_le ?_
  unfold isq
  split
  · simp
  · rw [Int.natAbs_natCast]; exact isqN_le _
def kSqI : Con
  | [.val true [.int x l]], _ => if lo l then some (.tup [(true, [.int (.a1 2 x) l]), (false, [.n .i64 (.a1 3 x)])]) else none
  | _, _ => none
theorem kSqI_ok {E : Env} : ConOK Tryz.prog E 75 kSqI := by
  refine ⟨?_, ?_, ⟨_, Tryz.func75, by decide +kernel, by kernel_rfl⟩⟩
  · intro args As r h hG β w vs hv hlen
    unfold kSqI at h
    split at h
    · split at h
      · rename_i hlo
        injection h with h
        subst h
        simp only [lo, decide_eq_true_iff] at hlo
        obtain ⟨v, rfl, h1⟩ := args1 hv hlen
        obtain ⟨i1, l1⟩ := one_int.1 h1
        refine (sqrt_any w v _ i1 (l1.mono (by omega))).mono ?_
        rintro e w' ⟨u, rfl, k1, ex⟩
        exact ⟨_, rfl, ⟨[u, .int .i64 _], rfl, u, _, rfl, one_int.2 ⟨k1, isq_lim l1⟩, _, _, rfl, one_num.2 rfl, rfl⟩, ex⟩
      · cases h
    · cases h
  · intro args As r h x off
    unfold kSqI at h
    split at h
    · split at h
      · injection h with h; subst h; intro e; cases e
      · cases h
    · cases h
def tabSq : List (Nat × Con) := (75, kSqI) :: tabInt
theorem tabSq_ok {E : Env} : TabOK Tryz.prog E tabSq := .cons kSqI_ok tabInt_ok
/-- Whether an integer is a square. -/
def sqB (z : Int) : Bool := isqE z == 0 && cmpZ (isq z * isq z) z == 0
theorem squareRoot_calls (w : World) (v : Value) (z : Int) (h : IsInt w v z) (l : Lim 100000 z) :
    Calls Tryz.prog 50 #[v] w fun e w' => ∃ u, e = .returned (.tuple #[u, .bool (sqB z)]) ∧ IsInt w' u (isq z) ∧ Ext w w' := by
  refine (fun_sound (C := cfgOf tabSq) (E := zE [z]) (args := [.val true [.int (.var 0) 100000]])
    (T := .ite (.eq (.a1 3 (.var 0)) (.lit 0)) (.leaf [(true, [.int (.a1 2 (.var 0)) 100000]), (false, [.b (.eq (.a2 3 (.a2 2 (.a1 2 (.var 0)) (.a1 2 (.var 0))) (.var 0)) (.lit 0))])]) (.leaf [(true, [.int (.a1 2 (.var 0)) 100000]), (false, [.b (.lit false)])]))
    mixed (cfg_ok tabSq_ok) no_asm Tryz.func50 (by decide +kernel) (by kernel_rfl) (by decide +kernel) rfl w [v] rfl ?_).mono ?_
  · intro i x hx
    match i, hx with
    | 0, hx => injection hx with hx; subst hx; exact ⟨fun _ => 0, v, rfl, one_int.2 ⟨h, l⟩⟩
  · rintro e w' ⟨β, u, rfl, hh, ex⟩
    have open_ : ∀ (x : IT) (k : Nat) (t : BT), (AV.tup [(true, [.int x k]), (false, [.b t])]).holds (zE [z]) β w' u → ∃ p, u = .tuple #[p, .bool (t.den (zE [z]))] ∧ IsInt w' p (x.den (zE [z])) := by
      intro x k t hx
      obtain ⟨vs, rfl, u1, r1, rfl, k1, u2, r2, rfl, k2, hn⟩ := hx
      simp only [tupAll] at hn
      subst hn
      have k2' := one_bool.1 k2
      subst k2'
      exact ⟨u1, rfl, (one_int.1 k1).1⟩
    simp only [Tree.pick] at hh
    split at hh
    · rename_i hz
      have hz' : (isqE z == 0) = true := hz
      obtain ⟨p, rfl, hp⟩ := open_ _ _ _ hh
      refine ⟨p, ?_, hp, ex⟩
      unfold sqB
      rw [hz', Bool.true_and]
      rfl
    · rename_i hz
      have hz' : (isqE z == 0) = false := by rw [← Bool.not_eq_true]; exact hz
      obtain ⟨p, rfl, hp⟩ := open_ _ _ _ hh
      refine ⟨p, ?_, hp, ex⟩
      unfold sqB
      rw [hz', Bool.false_and]
      rfl
def kSqr : Con
  | [.val true [.int x l]], _ => if decide (l ≤ 100000) then some (.tup [(true, [.int (.a1 2 x) l]), (false, [.b (.and (.eq (.a1 3 x) (.lit 0)) (.eq (.a2 3 (.a2 2 (.a1 2 x) (.a1 2 x)) x) (.lit 0)))])]) else none
  | _, _ => none
theorem kSqr_ok {E : Env} : ConOK Tryz.prog E 50 kSqr := by
  refine ⟨?_, ?_, ⟨_, Tryz.func50, by decide +kernel, by kernel_rfl⟩⟩
  · intro args As r h hG β w vs hv hlen
    unfold kSqr at h
    split at h
    · split at h
      · rename_i hlo
        injection h with h
        subst h
        simp only [decide_eq_true_iff] at hlo
        obtain ⟨v, rfl, h1⟩ := args1 hv hlen
        obtain ⟨i1, l1⟩ := one_int.1 h1
        refine (squareRoot_calls w v _ i1 (l1.mono hlo)).mono ?_
        rintro e w' ⟨u, rfl, k1, ex⟩
        exact ⟨_, rfl, ⟨[u, .bool _], rfl, u, _, rfl, one_int.2 ⟨k1, isq_lim l1⟩, _, _, rfl, one_bool.2 rfl, rfl⟩, ex⟩
      · cases h
    · cases h
  · intro args As r h x off
    unfold kSqr at h
    split at h
    · split at h
      · injection h with h; subst h; intro e; cases e
      · cases h
    · cases h
def tabSqr : List (Nat × Con) := [(50, kSqr)]
theorem tabSqr_ok {E : Env} : TabOK Tryz.prog E tabSqr := .cons kSqr_ok .nil
end Go.Proofs.YtdblkeeicmncfaaGreatDoor
end
