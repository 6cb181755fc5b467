/-
  Texts of this seat, joined.
-/
import Derived.Test.YtnejcdjakjmklaaGreatDoorJ3
import Derived.Deep.LoopGhost
import Derived.Shelf.LaysM
import Derived.Shelf.Strings.Cut
import Derived.Shelf.Strconv.AppendUint10
import Derived.Laws.IdiomStrings
import Derived.Lib.LaidTab
import Derived.Shelf.Small.Wraps
import Derived.Deep.DeepCutAuto
import Derived.LaidMore
import Derived.Stop.Joined
import Derived.Stop.LaidErr
import Derived.LaidLaws
import Derived.Handed
import Derived.Shelf.Strings.Trim
import Derived.Shelf.Strings.Prefix
import Derived.Shelf.Strings.Repeat
import Derived.Shelf.Strconv.Itoa4
section
set_option maxRecDepth 100000
namespace Go.Proofs.YtnejcdjakjmklaaGreatDoor
open Go.RowKit
theorem partsOK (m n : Nat) (lx : (limbs m).length ≤ 1048576) (ly : (limbs n).length ≤ 1048576) (hn : 0 < n) : PartsOK m n := by
  by_cases h : (limbs m).length ≤ 2 ∧ (limbs n).length ≤ 2
  · exact partsOK_small m n h.1 h.2 (by omega)
  · exact partsOK_long m n lx ly hn (by omega)

def RGcdRel (w0 : World) (G n : Nat) (x y : Value) (wr : World) : Prop :=
  ∃ m ax cx ay cy, x = .slice ax (limbs m).length cx ∧ y = .slice ay (limbs n).length cy ∧ Hid (Nat.gcd m n = G ∧ (limbs m).length ≤ 1048576 ∧ (limbs n).length ≤ 1048576 ∧ (limbs m).length ≤ cx ∧ (limbs n).length ≤ cy ∧ cx ≤ 9223372036854775807 ∧ cy ≤ 9223372036854775807) ∧
    Cells wr ax (limbs m) ∧ Cells wr ay (limbs n) ∧ Ext w0 wr

set_option maxRecDepth 100000 in
set_option maxHeartbeats 6400000 in
theorem rgcd_calls (w : World) (v1 v2 : Value) (z1 z2 : Int) (h : IsInt w v1 z1) (k : IsInt w v2 z2) (l1 : Sm z1) (l2 : Sm z2) :
    Calls Tryz.prog 80 #[v1, v2] w (Ret (fun v w' => IsInt w' v ((Nat.gcd z1.natAbs z2.natAbs : Nat) : Int)) w) := by
  obtain ⟨ao, cap, s, n, rfl, h1, h2, h3, H4, H5, H6⟩ := h.open_
  obtain ⟨ao', cap', s', n', rfl, k1, k2, k3, K4, K5, K6⟩ := k.open_
  unfold Sm at l1 l2
  rw [← H4.out] at l1
  rw [← K4.out] at l2
  rw [← H4.out, ← K4.out]
  obtain ⟨G, hG⟩ : ∃ G, G = Nat.gcd n n' := ⟨_, rfl⟩
  rw [← hG]
  obtain ⟨W, hW, eW, c0, c1, d0, d1, r0, r1, f0, f1⟩ := boxes2r w (.bool s) (.slice ao (limbs n).length cap) (.bool s') (.slice ao' (limbs n').length cap') 24
  have hd0 : RGcdRel W G n' (.slice ao (limbs n).length cap) (.slice ao' (limbs n').length cap') W := ⟨n, ao, cap, ao', cap', rfl, rfl, ⟨hG.symm, l1, l2, h1, k1, h2, k2⟩, h3.ext eW, k3.ext eW, Ext.refl _⟩
  have HD0 := Lib.hid hd0
  have RR := Lib.hid (And.intro r0 r1)
  clear H5 K5 h k H4 H6 K4 K6 hG hd0 h1 h2 h3 k1 k2 k3 l1 l2
  go_enter Tryz.func80, Tryz.ntmps80
  go_wp2_with fail
  clear hW
  go_quiet (fail)
  have hEq : Ext W (W.drewN nq) := (Ext.refl W).drewN nq
  have HD : Hid (RGcdRel W G n' (.slice ao (limbs n).length cap) (.slice ao' (limbs n').length cap') (W.drewN nq)) := by
    obtain ⟨m, ax, cx, ay, cy, e1, e2, e3, e4, e5, e6⟩ := HD0.out
    exact ⟨m, ax, cx, ay, cy, e1, e2, e3, e4.ext hEq, e5.ext hEq, e6.trans hEq⟩
  clear HD0 hEq c0 c1 d0 d1
  go_wp2_with fail
  go_loopg [5, 6, 7, 8] n' (fun k x y _ _ wr => RGcdRel W G k x y wr)
  case atStart => exact HD.out
  case round =>
    obtain ⟨m, ax, cx, ay, cy, rfl, rfl, H, hx, hy, hE⟩ := hrel
    clear HD
    have HX := Lib.hid (And.intro hx hy)
    clear hx hy
    rcases Nat.eq_zero_or_pos gk with h0 | h0
    · have HG : Hid (m = G) := by have := H.out.1; rw [h0, Nat.gcd_zero_right] at this; exact this
      have hl0 : (limbs gk).length = 0 := by rw [h0]; rfl
      have hsg := rsignedL_calls wr false ax m cx H.out.2.2.2.1 H.out.2.2.2.2.2.1 HX.out.1
      have HSG := Lib.hid hsg
      clear h0 hsg
      go_wp2_with fail
      refine HSG.out.mono ?_
      rintro e w6 ⟨v4, rfl, hI, e4⟩
      have hI2 : IsInt w6 v4 ((G : Nat) : Int) := by rw [← HG.out]; exact hI
      have eA := hE.trans e4
      clear hI
      obtain ⟨ao4, cap4, s4, n4, rfl, _⟩ := IsInt.open_ hI2
      have r02 := eA.cell r0
      have r12 := eA.cell r1
      have f02 := eA.frozen (lt_of_cell r0) f0
      have f12 := eA.frozen (lt_of_cell r1) f1
      clear r0 r1 f0 f1
      go_wp2
      exact bodyPost_ret (v := .agg #[.bool s4, .slice ao4 (limbs n4).length cap4]) (by simp [results, Tryz.results80, go_sem, r02, r12]) rfl (fin_int hI2 r02 r12 (by omega) (eW.trans eA))
    · by_cases hbig : 2 < (limbs m).length ∨ 2 < (limbs gk).length
      · skip
        have hpar := partsOK m gk H.out.2.1 H.out.2.2.1 h0 wr ax ay cx cy H.out.2.2.2.1 H.out.2.2.2.2.1 H.out.2.2.2.2.2.1 H.out.2.2.2.2.2.2 HX.out.1 HX.out.2
        have HPAR := Lib.hid hpar
        have HN := Lib.hid h0
        have hp0 : 0 < (limbs gk).length := limbs_pos h0
        clear hpar h0
        by_cases hm : 2 < (limbs m).length
        · have hp1 : decide ((2 : Int) < ((limbs m).length : Int)) = true := decide_eq_true (by omega)
          clear hm hbig
          go_wp2_with fail
          refine HPAR.out.mono ?_
          rintro e w5 ⟨v1, v2, rfl, _, ⟨a2, c2, rfl, q1, q2, q3⟩, e5⟩
          have HP := Lib.hid (And.intro q1 (And.intro q2 q3))
          clear q1 q2 q3
          go_wp2_with fail
          go_roundg (m % gk)
          case measure => exact Nat.mod_lt _ HN.out
          case rel => exact ⟨gk, ay, cy, a2, c2, rfl, rfl, ⟨by rw [← H.out.1, Nat.gcd_comm gk, ← Nat.gcd_rec, Nat.gcd_comm], H.out.2.2.1, Nat.le_trans (limbs_len_mono (Nat.le_of_lt (Nat.mod_lt _ HN.out))) H.out.2.2.1, H.out.2.2.2.2.1, HP.out.1, H.out.2.2.2.2.2.2, HP.out.2.1⟩, HX.out.2.ext e5, HP.out.2.2, hE.trans e5⟩
        · have hp1 : decide ((2 : Int) < ((limbs m).length : Int)) = false := decide_eq_false (by omega)
          have hp2 : decide ((2 : Int) < ((limbs gk).length : Int)) = true := decide_eq_true (by omega)
          clear hm hbig
          go_wp2_with fail
          refine HPAR.out.mono ?_
          rintro e w5 ⟨v1, v2, rfl, _, ⟨a2, c2, rfl, q1, q2, q3⟩, e5⟩
          have HP := Lib.hid (And.intro q1 (And.intro q2 q3))
          clear q1 q2 q3
          go_wp2_with fail
          go_roundg (m % gk)
          case measure => exact Nat.mod_lt _ HN.out
          case rel => exact ⟨gk, ay, cy, a2, c2, rfl, rfl, ⟨by rw [← H.out.1, Nat.gcd_comm gk, ← Nat.gcd_rec, Nat.gcd_comm], H.out.2.2.1, Nat.le_trans (limbs_len_mono (Nat.le_of_lt (Nat.mod_lt _ HN.out))) H.out.2.2.1, H.out.2.2.2.2.1, HP.out.1, H.out.2.2.2.2.2.2, HP.out.2.1⟩, HX.out.2.ext e5, HP.out.2.2, hE.trans e5⟩
      · skip
        have hm1 : m < 1000000000000000000 := by have := lt_of_limbs_len (n := m) (k := 2) (by omega); omega
        have hg1 : gk < 1000000000000000000 := by have := lt_of_limbs_len (n := gk) (k := 2) (by omega); omega
        have hvx := short_calls wr ax (limbs m) cx H.out.2.2.2.1 H.out.2.2.2.2.2.1 HX.out.1 (by rw [val_limbs]; omega)
        have hvy := short_calls wr ay (limbs gk) cy H.out.2.2.2.2.1 H.out.2.2.2.2.2.2 HX.out.2 (by rw [val_limbs]; omega)
        rw [val_limbs] at hvx hvy
        have HVX := Lib.hid hvx
        have HVY := Lib.hid hvy
        have hp0 : 0 < (limbs gk).length := limbs_pos h0
        have hp1 : decide ((2 : Int) < ((limbs m).length : Int)) = false := decide_eq_false (by omega)
        have hp2 : decide ((2 : Int) < ((limbs gk).length : Int)) = false := decide_eq_false (by omega)
        have hp3 : (((limbs gk).length : Int) == 0) = false := by have := limbs_pos h0; rw [beq_eq_false_iff_ne]; omega
        have HB := Lib.hid (And.intro (show m ≤ 18446744073709551615 by omega) (show gk ≤ 18446744073709551615 by omega))
        have HGl := Lib.hid (show G ≤ 18446744073709551615 by rw [← H.out.1]; have := Nat.gcd_le_right m h0; omega)
        clear hm1 hg1 hvx hvy h0 hbig
        go_wp2_with fail
        refine HVX.out.mono ?_
        rintro e w' ⟨rfl, rfl⟩
        go_wp2_with fail
        refine HVY.out.mono ?_
        rintro e w' ⟨rfl, rfl⟩
        clear hp0 hp1 hp2 hp3
        go_wp2_with fail
        obtain ⟨wo, hwo⟩ : ∃ wo : World, wo = wr := ⟨_, rfl⟩
        subst hwo
        go_loopw [9, 10] (fun x y wr => ∃ a b : Nat, x = .int .u64 a ∧ y = .int .u64 b ∧ Hid (a ≤ 18446744073709551615 ∧ b ≤ 18446744073709551615) ∧ Hid (Nat.gcd a b = G) ∧ Ext wo wr) (fun _ y _ => (intOf y).toNat)
        case atStart => exact ⟨m, gk, rfl, rfl, HB, H.out.1, Ext.refl _⟩
        case round =>
          obtain ⟨a, b, rfl, rfl, HAB, HG2, hE2⟩ := hrel
          rcases Nat.eq_zero_or_pos b with h0 | h0
          · have HG3 : Hid (a = G) := by have := HG2.out; rw [h0, Nat.gcd_zero_right] at this; exact this
            have hb0 : ¬ (0 : Int) < (b : Int) := by omega
            have HL := Lib.hid (rlimbs_calls wr a HAB.out.1)
            clear h0
            go_wp2_with fail
            refine HL.out.mono ?_
            rintro e w5 ⟨v5, rfl, ⟨a5, c5, rfl, x1, x2, x3⟩, e5⟩
            go_wp2_with fail
            refine (rsignedL_calls _ false a5 a c5 x1 x2 x3).mono ?_
            rintro e w6 ⟨v6, rfl, hI, e6⟩
            have hI2 : IsInt w6 v6 ((G : Nat) : Int) := by rw [← HG3.out]; exact hI
            have eA := ((hE.trans hE2).trans e5).trans e6
            clear hI
            obtain ⟨ao4, cap4, s4, n4, rfl, _⟩ := IsInt.open_ hI2
            have r02 := eA.cell r0
            have r12 := eA.cell r1
            have f02 := eA.frozen (lt_of_cell r0) f0
            have f12 := eA.frozen (lt_of_cell r1) f1
            clear r0 r1 f0 f1
            go_wp2
            exact bodyPost_ret (v := .agg #[.bool s4, .slice ao4 (limbs n4).length cap4]) (by simp [results, Tryz.results80, go_sem, r02, r12]) rfl (fin_int hI2 r02 r12 (by omega) (eW.trans eA))
          · have hb0 : (0 : Int) < (b : Int) := by omega
            obtain ⟨r, hr⟩ : ∃ r, r = a % b := ⟨_, rfl⟩
            have hrb := Nat.mod_lt a h0
            obtain ⟨t1, t2⟩ := rem_nat a b r hr
            have hb1 : ¬ b = 0 := by omega
            have HR := Lib.hid (show r < b ∧ Nat.gcd b r = G by
              rw [hr]
              refine ⟨hrb, ?_⟩
              rw [← HG2.out, Nat.gcd_comm a b, Nat.gcd_rec b a, Nat.gcd_comm])
            clear hr hrb h0
            go_wp2
            go_quiet (fail)
            go_wp2
            go_roundw
            case rel => exact ⟨b, r, rfl, by first | rfl | exact vint t1, ⟨HAB.out.2, by have := HR.out.1; have := HAB.out.2; omega⟩, HR.out.2, hE2.drewN _⟩
            case measure => have := HR.out.1; simp [intOf]; omega

end Go.Proofs.YtnejcdjakjmklaaGreatDoor
end

section
set_option maxRecDepth 100000
namespace Go.Proofs.YtnejcdjakjmklaaGreatDoor
open Go.RowKit
def kParts : Con
  | [.val false [.mag x l], .val false [.mag y m]], G => if lo l && (lo m && (G.find (.eq (.a1 4 y) (.lit 0)) == some false)) then some (.tup [(false, [.mag (.a2 9 x y) l]), (false, [.mag (.a2 10 x y) m])]) else none
  | _, _ => none
theorem kParts_ok {E : Env} : ConOK Tryz.prog E 126 kParts := by
  refine ⟨?_, ?_, ⟨_, Tryz.func126, by decide +kernel, by kernel_rfl⟩⟩
  · intro args As r h hG β w vs hv hlen
    unfold kParts at h
    split at h
    · rename_i x l y m
      split at h
      · rename_i hlo
        injection h with h
        subst h
        simp only [lo, Bool.and_eq_true, decide_eq_true_iff, beq_iff_eq] at hlo
        obtain ⟨b1, b2, b3⟩ := hlo
        have hy := Asm.find_spec hG b3
        obtain ⟨v, u, rfl, h1, h2⟩ := args2 hv hlen
        obtain ⟨⟨ao, cap, rfl, k1, k2, k3⟩, hl⟩ := one_mag.1 h1
        obtain ⟨⟨ao', cap', rfl, j1, j2, j3⟩, hm⟩ := one_mag.1 h2
        have hpos : 0 < (y.den E).natAbs := by
          rcases Nat.eq_zero_or_pos (y.den E).natAbs with h0 | h0
          · simp [BT.den, IT.den, fn1, h0, limbs_zero] at hy
          · exact h0
        refine (partsOK _ _ (by unfold Lim at hl; omega) (by unfold Lim at hm; omega) hpos w ao ao' cap cap' k1 j1 k2 j2 k3 j3).mono ?_
        rintro e w' ⟨v1, v2, rfl, i1, i2, ex⟩
        have d1 : ((IT.a2 9 x y).den E).natAbs = (x.den E).natAbs / (y.den E).natAbs := rfl
        have d2 : ((IT.a2 10 x y).den E).natAbs = (x.den E).natAbs % (y.den E).natAbs := rfl
        refine ⟨_, rfl, ⟨[v1, v2], rfl, v1, _, rfl, one_mag.2 ⟨by rw [d1]; exact i1, ?_⟩, v2, _, rfl, one_mag.2 ⟨by rw [d2]; exact i2, ?_⟩, rfl⟩, ex⟩
        · exact hl.natAbs_le (by rw [d1]; exact Nat.div_le_self _ _)
        · exact hm.natAbs_le (by rw [d2]; exact Nat.le_of_lt (Nat.mod_lt _ hpos))
      · cases h
    · cases h
  · intro args As r h x off
    unfold kParts at h
    split at h
    · split at h
      · injection h with h; subst h; intro e; cases e
      · cases h
    · cases h
def kSigned : Con
  | [.val false [.b s], .val false [.mag x l]], G => if lo l then match s.ev G with
      | some true => some (.val true [.int (.a1 0 (.a1 5 x)) l])
      | some false => some (.val true [.int (.a1 5 x) l])
      | none => none
    else none
  | _, _ => none
theorem kSigned_ok {E : Env} : ConOK Tryz.prog E 71 kSigned := by
  refine ⟨?_, ?_, ⟨_, Tryz.func71, by decide +kernel, by kernel_rfl⟩⟩
  · intro args As r h hG β w vs hv hlen
    unfold kSigned at h
    split at h
    · rename_i s x l
      split at h
      · obtain ⟨v, u, rfl, h1, h2⟩ := args2 hv hlen
        have e1 := one_bool.1 h1
        subst e1
        obtain ⟨⟨ao, cap, rfl, k1, k2, k3⟩, hl⟩ := one_mag.1 h2
        have hc := rsignedL_calls w (s.den E) ao (x.den E).natAbs cap k1 k2 k3
        split at h
        · rename_i hs
          injection h with h
          subst h
          refine hc.mono ?_
          rintro e w' ⟨v', rfl, hI, ex⟩
          rw [BT.ev_spec hG hs] at hI
          exact ⟨v', rfl, one_int.2 ⟨hI, by unfold Lim at *; simpa [IT.den, fn1] using hl⟩, ex⟩
        · rename_i hs
          injection h with h
          subst h
          refine hc.mono ?_
          rintro e w' ⟨v', rfl, hI, ex⟩
          rw [BT.ev_spec hG hs] at hI
          exact ⟨v', rfl, one_int.2 ⟨hI, by unfold Lim at *; simpa [IT.den, fn1] using hl⟩, ex⟩
        · cases h
      · cases h
    · cases h
  · intro args As r h x off
    unfold kSigned at h
    split at h
    · split at h
      · split at h
        · injection h with h; subst h; intro e; cases e
        · injection h with h; subst h; intro e; cases e
        · cases h
      · cases h
    · cases h
def tabR1 : List (Nat × Con) := [(126, kParts), (71, kSigned), (29, kFrom), (91, kII (.a2 0) (fun l m => max l m + 1)), (142, kII (.a2 1) (fun l m => max l m + 1)),
  (55, kII (.a2 2) (· + ·)), (57, kI (.a1 0) id), (79, kIn fun x => .a2 3 x (.lit 0)), (80, kII (.a2 6) max)]
theorem tabR1_ok {E : Env} : TabOK Tryz.prog E tabR1 := by
  refine .cons kParts_ok (.cons kSigned_ok ?_)
  refine .cons (kFrom_ok (fun w n h1 h2 => rfromInt64_calls w n h1 h2) ⟨_, Tryz.func29, by decide +kernel, by kernel_rfl⟩) ?_
  refine .cons (kII_ok (· + ·) (fun _ _ => rfl) (fun w v1 v2 z1 z2 l m h1 h2 l1 l2 b1 b2 => radd_calls w v1 v2 z1 z2 h1 h2 (l1.sm (by omega)) (l2.sm (by omega))) (fun _ _ _ _ h k => h.add2 k) ⟨_, Tryz.func91, by decide +kernel, by kernel_rfl⟩) ?_
  refine .cons (kII_ok (· - ·) (fun _ _ => rfl) (fun w v1 v2 z1 z2 l m h1 h2 l1 l2 b1 b2 => rsub_calls w v1 v2 z1 z2 h1 h2 (l1.sm (by omega)) (l2.sm (by omega))) (fun _ _ _ _ h k => h.sub2 k) ⟨_, Tryz.func142, by decide +kernel, by kernel_rfl⟩) ?_
  refine .cons (kII_ok (· * ·) (fun _ _ => rfl) (fun w v1 v2 z1 z2 l m h1 h2 l1 l2 b1 b2 => rmul_calls w v1 v2 z1 z2 h1 h2 (l1.sm (by omega)) (l2.sm (by omega))) (fun _ _ _ _ h k => h.mul k) ⟨_, Tryz.func55, by decide +kernel, by kernel_rfl⟩) ?_
  refine .cons (kI_ok (- ·) (fun _ => rfl) (fun w v1 z1 l h1 l1 b1 => rneg_calls w v1 z1 h1) (fun _ _ h => h.neg) ⟨_, Tryz.func57, by decide +kernel, by kernel_rfl⟩) ?_
  refine .cons (kIn_ok (cmpZ · 0) (fun _ => rfl) (fun w v1 z1 h1 => rsign_calls w v1 z1 h1) ⟨_, Tryz.func79, by decide +kernel, by kernel_rfl⟩) ?_
  exact .cons (kII_ok (fun x y => ((Nat.gcd x.natAbs y.natAbs : Nat) : Int)) (fun _ _ => rfl) (fun w v1 v2 z1 z2 l m h1 h2 l1 l2 b1 b2 => rgcd_calls w v1 v2 z1 z2 h1 h2 (l1.sm (by omega)) (l2.sm (by omega))) (fun _ _ _ _ h k => gcd_lim h k) ⟨_, Tryz.func80, by decide +kernel, by kernel_rfl⟩) .nil

end Go.Proofs.YtnejcdjakjmklaaGreatDoor
end

section
set_option maxRecDepth 100000
namespace Go.Proofs.YtnejcdjakjmklaaGreatDoor
open Go.RowKit
def tDM : Tree := .ite (.eq (.a1 4 (.var 1)) (.lit 0)) (.leaf [(true, [.int (.lit 0) 0]), (true, [.int (.lit 0) 0]), (false, [.n .i64 (.lit 6)])]) (.ite (.lt (.var 0) (.lit 0)) (.ite (.lt (.var 1) (.lit 0)) (.ite (.lt (.lit 0) (.a1 4 (.a2 10 (.var 0) (.var 1)))) (.leaf [(true, [.int (.a1 5 (.a2 9 (.var 0) (.var 1))) 400000]), (true, [.int (.a1 0 (.a1 5 (.a2 10 (.var 0) (.var 1)))) 400000]), (false, [.n .i64 (.lit 0)])]) (.leaf [(true, [.int (.a1 5 (.a2 9 (.var 0) (.var 1))) 400000]), (true, [.int (.a1 0 (.a1 5 (.a2 10 (.var 0) (.var 1)))) 400000]), (false, [.n .i64 (.lit 0)])])) (.ite (.lt (.lit 0) (.a1 4 (.a2 10 (.var 0) (.var 1)))) (.leaf [(true, [.int (.a2 1 (.a1 0 (.a1 5 (.a2 9 (.var 0) (.var 1)))) (.lit 1)) 400001]), (true, [.int (.a2 0 (.a1 0 (.a1 5 (.a2 10 (.var 0) (.var 1)))) (.var 1)) 400001]), (false, [.n .i64 (.lit 0)])]) (.leaf [(true, [.int (.a1 0 (.a1 5 (.a2 9 (.var 0) (.var 1)))) 400000]), (true, [.int (.a1 0 (.a1 5 (.a2 10 (.var 0) (.var 1)))) 400000]), (false, [.n .i64 (.lit 0)])]))) (.ite (.lt (.var 1) (.lit 0)) (.ite (.lt (.lit 0) (.a1 4 (.a2 10 (.var 0) (.var 1)))) (.leaf [(true, [.int (.a2 1 (.a1 0 (.a1 5 (.a2 9 (.var 0) (.var 1)))) (.lit 1)) 400001]), (true, [.int (.a2 0 (.a1 5 (.a2 10 (.var 0) (.var 1))) (.var 1)) 400001]), (false, [.n .i64 (.lit 0)])]) (.leaf [(true, [.int (.a1 0 (.a1 5 (.a2 9 (.var 0) (.var 1)))) 400000]), (true, [.int (.a1 5 (.a2 10 (.var 0) (.var 1))) 400000]), (false, [.n .i64 (.lit 0)])])) (.ite (.lt (.lit 0) (.a1 4 (.a2 10 (.var 0) (.var 1)))) (.leaf [(true, [.int (.a1 5 (.a2 9 (.var 0) (.var 1))) 400000]), (true, [.int (.a1 5 (.a2 10 (.var 0) (.var 1))) 400000]), (false, [.n .i64 (.lit 0)])]) (.leaf [(true, [.int (.a1 5 (.a2 9 (.var 0) (.var 1))) 400000]), (true, [.int (.a1 5 (.a2 10 (.var 0) (.var 1))) 400000]), (false, [.n .i64 (.lit 0)])]))))
theorem dmZ {a b q r : Int} (hb : b ≠ 0) (h1 : a = q * b + r) (h2 : 0 ≤ r ∧ r < b ∨ b < r ∧ r ≤ 0) : q = dq a b ∧ r = dr a b := by
  obtain ⟨k1, k2⟩ := dq_dr (a := a) hb
  exact quo_unique h1 k1.symm h2 k2
theorem parts_eq (a b : Int) (hb : b ≠ 0) : (b.natAbs : Int) * ((a.natAbs / b.natAbs : Nat) : Int) + ((a.natAbs % b.natAbs : Nat) : Int) = (a.natAbs : Int) ∧ ((a.natAbs % b.natAbs : Nat) : Int) < (b.natAbs : Int) := by
  have e := Nat.div_add_mod a.natAbs b.natAbs
  have hlt := Nat.mod_lt a.natAbs (show 0 < b.natAbs by omega)
  refine ⟨?_, by omega⟩
  rw [← Int.natCast_mul, ← Int.natCast_add, e]
theorem rdm_same {a b : Int} (hb : b ≠ 0) (h : 0 ≤ a ∧ 0 < b) : ((a.natAbs / b.natAbs : Nat) : Int) = dq a b ∧ ((a.natAbs % b.natAbs : Nat) : Int) = dr a b := by
  obtain ⟨e, hlt⟩ := parts_eq a b hb
  generalize ((a.natAbs / b.natAbs : Nat) : Int) = Q at *
  have h0 : 0 ≤ ((a.natAbs % b.natAbs : Nat) : Int) := by omega
  generalize ((a.natAbs % b.natAbs : Nat) : Int) = R at *
  have hN : (b.natAbs : Int) = b := by omega
  rw [hN] at e hlt
  exact dmZ hb (by rw [Int.mul_comm]; omega) (by omega)
theorem rdm_neg {a b : Int} (hb : b ≠ 0) (h : a < 0 ∧ b < 0) : ((a.natAbs / b.natAbs : Nat) : Int) = dq a b ∧ -((a.natAbs % b.natAbs : Nat) : Int) = dr a b := by
  obtain ⟨e, hlt⟩ := parts_eq a b hb
  generalize ((a.natAbs / b.natAbs : Nat) : Int) = Q at *
  have h0 : 0 ≤ ((a.natAbs % b.natAbs : Nat) : Int) := by omega
  generalize ((a.natAbs % b.natAbs : Nat) : Int) = R at *
  have hN : (b.natAbs : Int) = -b := by omega
  rw [hN] at e hlt
  rw [Int.neg_mul] at e
  exact dmZ hb (by rw [Int.mul_comm]; omega) (by omega)
theorem rdm_np {a b : Int} (hb : b ≠ 0) (h : a < 0 ∧ 0 < b) (hr : 0 < ((a.natAbs % b.natAbs : Nat) : Int)) : -((a.natAbs / b.natAbs : Nat) : Int) - 1 = dq a b ∧ -((a.natAbs % b.natAbs : Nat) : Int) + b = dr a b := by
  obtain ⟨e, hlt⟩ := parts_eq a b hb
  generalize ((a.natAbs / b.natAbs : Nat) : Int) = Q at *
  generalize ((a.natAbs % b.natAbs : Nat) : Int) = R at *
  have hN : (b.natAbs : Int) = b := by omega
  rw [hN] at e hlt
  exact dmZ hb (by rw [Int.mul_comm, Int.mul_sub, Int.mul_neg]; omega) (by omega)
theorem rdm_np0 {a b : Int} (hb : b ≠ 0) (h : a < 0 ∧ 0 < b) (hr : ((a.natAbs % b.natAbs : Nat) : Int) = 0) : -((a.natAbs / b.natAbs : Nat) : Int) = dq a b ∧ -((a.natAbs % b.natAbs : Nat) : Int) = dr a b := by
  obtain ⟨e, hlt⟩ := parts_eq a b hb
  generalize ((a.natAbs / b.natAbs : Nat) : Int) = Q at *
  generalize ((a.natAbs % b.natAbs : Nat) : Int) = R at *
  have hN : (b.natAbs : Int) = b := by omega
  rw [hN] at e hlt
  exact dmZ hb (by rw [Int.mul_comm, Int.mul_neg]; omega) (by omega)
theorem rdm_pn {a b : Int} (hb : b ≠ 0) (h : 0 ≤ a ∧ b < 0) (hr : 0 < ((a.natAbs % b.natAbs : Nat) : Int)) : -((a.natAbs / b.natAbs : Nat) : Int) - 1 = dq a b ∧ ((a.natAbs % b.natAbs : Nat) : Int) + b = dr a b := by
  obtain ⟨e, hlt⟩ := parts_eq a b hb
  generalize ((a.natAbs / b.natAbs : Nat) : Int) = Q at *
  generalize ((a.natAbs % b.natAbs : Nat) : Int) = R at *
  have hN : (b.natAbs : Int) = -b := by omega
  rw [hN] at e hlt
  rw [Int.neg_mul] at e
  exact dmZ hb (by rw [Int.mul_comm, Int.mul_sub, Int.mul_neg]; omega) (by omega)
theorem rdm_pn0 {a b : Int} (hb : b ≠ 0) (h : 0 ≤ a ∧ b < 0) (hr : ((a.natAbs % b.natAbs : Nat) : Int) = 0) : -((a.natAbs / b.natAbs : Nat) : Int) = dq a b ∧ ((a.natAbs % b.natAbs : Nat) : Int) = dr a b := by
  obtain ⟨e, hlt⟩ := parts_eq a b hb
  generalize ((a.natAbs / b.natAbs : Nat) : Int) = Q at *
  generalize ((a.natAbs % b.natAbs : Nat) : Int) = R at *
  have hN : (b.natAbs : Int) = -b := by omega
  rw [hN] at e hlt
  rw [Int.neg_mul] at e
  exact dmZ hb (by rw [Int.mul_comm, Int.mul_neg]; omega) (by omega)
theorem len_pos_iff (n : Nat) : (0 : Int) < ((limbs n).length : Int) ↔ 0 < (n : Int) := by
  rcases Nat.eq_zero_or_pos n with h | h
  · subst h; simp [limbs_zero]
  · have := limbs_pos h; omega
theorem rdivMod_fn (w : World) (v1 v2 : Value) (a b : Int) (h : IsInt w v1 a) (k : IsInt w v2 b) (l1 : Lim 400000 a) (l2 : Lim 400000 b) :
    Calls Tryz.prog 90 #[v1, v2] w (RetDMF a b w) := by
  refine (walkZ2 (T := tDM) tabR1_ok Tryz.func90 (by kernel_rfl) (by decide +kernel) (by decide +kernel) h k l1 l2).mono ?_
  rintro e w' ⟨β, v, rfl, hh, ex⟩
  have fin : ∀ (x y : IT) (l m : Nat), (AV.tup [(true, [.int x l]), (true, [.int y m]), (false, [.n .i64 (.lit 0)])]).holds (zE [a, b]) β w' v → b ≠ 0 → (x.den (zE [a, b]) = dq a b ∧ y.den (zE [a, b]) = dr a b) → RetDMF a b w (.returned v) w' := by
    intro x y l m hx hb hq
    obtain ⟨vs, rfl, u1, r1, rfl, k1, u2, r2, rfl, k2, u3, r3, rfl, k3, hn⟩ := hx
    simp only [tupAll] at hn
    subst hn
    have e3 := one_num.1 k3
    subst e3
    refine ⟨u1, u2, ?_, ?_, ?_, ex⟩
    · unfold de; rw [if_neg hb]; rfl
    · rw [← hq.1]; exact (one_int.1 k1).1
    · rw [← hq.2]; exact (one_int.1 k2).1
  have t1 : (BT.eq (.a1 4 (.var 1)) (.lit 0)).den (zE [a, b]) = decide (b = 0) := by
    show (((limbs b.natAbs).length : Int) == 0) = _
    have := len_pos_iff b.natAbs
    by_cases hb : b = 0
    · rw [decide_eq_true hb, beq_iff_eq]; omega
    · rw [decide_eq_false hb, beq_eq_false_iff_ne]; omega
  have t2 : (BT.lt (.var 0) (.lit 0)).den (zE [a, b]) = decide (a < 0) := rfl
  have t3 : (BT.lt (.var 1) (.lit 0)).den (zE [a, b]) = decide (b < 0) := rfl
  have t4 : (BT.lt (.lit 0) (.a1 4 (.a2 10 (.var 0) (.var 1)))).den (zE [a, b]) = decide (0 < ((a.natAbs % b.natAbs : Nat) : Int)) := by
    show decide ((0 : Int) < ((limbs (a.natAbs % b.natAbs)).length : Int)) = _
    rw [decide_eq_decide]
    exact len_pos_iff _
  have h0 : 0 ≤ ((a.natAbs % b.natAbs : Nat) : Int) := Int.natCast_nonneg _
  simp only [tDM, Tree.pick, t1, t2, t3, t4, decide_eq_true_iff] at hh
  split at hh
  · rename_i hb0
    have hb : b = 0 := hb0
    obtain ⟨vs, rfl, u1, r1, rfl, k1, u2, r2, rfl, k2, u3, r3, rfl, k3, hn⟩ := hh
    simp only [tupAll] at hn
    subst hn
    have e3 := one_num.1 k3
    subst e3
    subst hb
    exact ⟨u1, u2, rfl, (one_int.1 k1).1, (one_int.1 k2).1, ex⟩
  · rename_i hb0
    have hb : b ≠ 0 := hb0
    split at hh
    · split at hh
      · split at hh
        · have hq := rdm_neg (a := a) (b := b) hb (by omega); exact fin _ _ _ _ hh hb hq
        · have hq := rdm_neg (a := a) (b := b) hb (by omega); exact fin _ _ _ _ hh hb hq
      · split at hh
        · have hq := rdm_np (a := a) (b := b) hb (by omega) (by omega); exact fin _ _ _ _ hh hb hq
        · have hq := rdm_np0 (a := a) (b := b) hb (by omega) (by omega); exact fin _ _ _ _ hh hb hq
    · split at hh
      · split at hh
        · have hq := rdm_pn (a := a) (b := b) hb (by omega) (by omega); exact fin _ _ _ _ hh hb hq
        · have hq := rdm_pn0 (a := a) (b := b) hb (by omega) (by omega); exact fin _ _ _ _ hh hb hq
      · split at hh
        · have hq := rdm_same (a := a) (b := b) hb (by omega); exact fin _ _ _ _ hh hb hq
        · have hq := rdm_same (a := a) (b := b) hb (by omega); exact fin _ _ _ _ hh hb hq

end Go.Proofs.YtnejcdjakjmklaaGreatDoor
end

section
set_option maxRecDepth 100000
namespace Go.Proofs.YtnejcdjakjmklaaGreatDoor
open Go.RowKit
def tabDiv : List (Nat × Con) := (133, k0 (.lit 1) 3) :: (99, kII (.a2 6) max) :: (101, kII (.a2 4) fun l _ => l) :: (100, kI id id) :: tabInt
theorem tabDiv_ok {E : Env} : TabOK Tryz.prog E tabDiv := by
  refine .cons (k0_ok 1 rfl (fun w => one_calls w) (lim3 (by decide) (by decide)) ⟨_, Tryz.func133, by decide +kernel, by kernel_rfl⟩) ?_
  refine .cons (kII_ok (fun x y => ((Nat.gcd x.natAbs y.natAbs : Nat) : Int)) (fun _ _ => rfl) (fun w v1 v2 z1 z2 l m h1 h2 l1 l2 b1 b2 => divisor_calls w v1 v2 z1 z2 h1 h2 (l1.mono b1) (l2.mono b2)) (fun _ _ _ _ h k => gcd_lim h k) ⟨_, Tryz.func99, by decide +kernel, by kernel_rfl⟩) ?_
  refine .cons (kII_ok dq (fun _ _ => rfl) (fun w v1 v2 z1 z2 l m h1 h2 l1 l2 b1 b2 => quotient_calls w v1 v2 z1 z2 h1 h2 (l1.mono b1) (l2.mono b2)) (fun _ _ _ _ h _ => h.natAbs_le (dq_abs _ _)) ⟨_, Tryz.func101, by decide +kernel, by kernel_rfl⟩) ?_
  exact .cons (kI_ok id (fun _ => rfl) (fun w v1 z1 l h1 l1 b1 => clone_int_calls w v1 z1 h1 (l1.mono b1)) (fun _ _ h => h) ⟨_, Tryz.func100, by decide +kernel, by kernel_rfl⟩) tabInt_ok

theorem gcd_pos_right (x : Int) (n : Nat) (h : 0 < n) : 0 < Nat.gcd x.natAbs n := Nat.gcd_pos_of_pos_right _ h
theorem dq_cast (x : Int) {n : Nat} (h : 0 < n) : dq x (n : Int) = x / (n : Int) := dq_pos (by omega)
theorem dq_cast2 (m : Nat) {n : Nat} (h : 0 < n) : dq (m : Int) (n : Int) = ((m / n : Nat) : Int) := by rw [dq_cast _ h]; exact (Int.natCast_ediv m n).symm
theorem mul_dq (a b : Rat) : dq a.num ((Nat.gcd a.num.natAbs (b.den : Int).natAbs : Nat) : Int) * dq b.num ((Nat.gcd b.num.natAbs (a.den : Int).natAbs : Nat) : Int) = (a * b).num ∧
    dq (a.den : Int) ((Nat.gcd b.num.natAbs (a.den : Int).natAbs : Nat) : Int) * dq (b.den : Int) ((Nat.gcd a.num.natAbs (b.den : Int).natAbs : Nat) : Int) = ((a * b).den : Int) := by
  obtain ⟨h1, h2⟩ := mul_parts a b
  simp only [Int.natAbs_natCast]
  have p1 := gcd_pos_right a.num b.den b.den_pos
  have p2 := gcd_pos_right b.num a.den a.den_pos
  rw [h1, h2, dq_cast _ p1, dq_cast _ p2, dq_cast2 _ p1, dq_cast2 _ p2, Int.natCast_mul]
  exact ⟨rfl, rfl⟩

theorem mul_rat_calls (w : World) (v1 v2 : Value) (a b : Rat) (h1 : IsRat w v1 a) (h2 : IsRat w v2 b) (l1 : LimQ 100000 a) (l2 : LimQ 100000 b) :
    Calls Tryz.prog 84 #[v1, v2] w (Ret (fun v w' => IsRat w' v (a * b)) w) := by
  refine (walkQ2 (T := .leaf [(true, [.int (.a2 2 (.a2 4 (.var 0) (.a2 6 (.var 0) (.var 3))) (.a2 4 (.var 2) (.a2 6 (.var 2) (.var 1)))) 200000, .int (.a2 2 (.a2 4 (.var 1) (.a2 6 (.var 2) (.var 1))) (.a2 4 (.var 3) (.a2 6 (.var 0) (.var 3)))) 200000])])
    tabDiv_ok Tryz.func84 (by kernel_rfl) (by decide +kernel) (by decide +kernel) h1 h2 l1 l2).mono ?_
  rintro e w' ⟨β, v, rfl, hh, ex⟩
  obtain ⟨x, y, z, t, rfl, k1, _, k2, _⟩ := one_rat.1 hh
  obtain ⟨m1, m2⟩ := mul_dq a b
  refine ⟨_, rfl, ⟨x, y, z, t, rfl, ?_, ?_⟩, ex⟩
  · rw [← m1]; exact k1
  · rw [← m2]; exact k2
theorem neg_rat_calls (w : World) (v1 : Value) (a : Rat) (h1 : IsRat w v1 a) (l1 : LimQ 100000 a) :
    Calls Tryz.prog 125 #[v1] w (Ret (fun v w' => IsRat w' v (-a)) w) := by
  refine (walkQ1 (T := .leaf [(true, [.int (.a1 0 (.var 0)) 100000, .int (.var 1) 100000])])
    tabDiv_ok Tryz.func125 (by kernel_rfl) (by decide +kernel) (by decide +kernel) h1 l1).mono ?_
  rintro e w' ⟨β, v, rfl, hh, ex⟩
  obtain ⟨x, y, z, t, rfl, k1, _, k2, _⟩ := one_rat.1 hh
  exact ⟨_, rfl, ⟨x, y, z, t, rfl, k1, k2⟩, ex⟩
theorem sum_dq (a b : Rat) (N : Int) (hN : N = a.num * dq (b.den : Int) ((Nat.gcd (a.den : Int).natAbs (b.den : Int).natAbs : Nat) : Int) + b.num * dq (a.den : Int) ((Nat.gcd (a.den : Int).natAbs (b.den : Int).natAbs : Nat) : Int)) :
    dq N ((Nat.gcd N.natAbs ((Nat.gcd (a.den : Int).natAbs (b.den : Int).natAbs : Nat) : Int).natAbs : Nat) : Int) = (a + b).num ∧
    dq (a.den : Int) ((Nat.gcd (a.den : Int).natAbs (b.den : Int).natAbs : Nat) : Int) * dq (b.den : Int) ((Nat.gcd N.natAbs ((Nat.gcd (a.den : Int).natAbs (b.den : Int).natAbs : Nat) : Int).natAbs : Nat) : Int) = ((a + b).den : Int) := by
  obtain ⟨h1, h2⟩ := add_parts a b
  simp only [Int.natAbs_natCast] at hN ⊢
  have p0 : 0 < a.den.gcd b.den := Nat.gcd_pos_of_pos_right _ b.den_pos
  rw [dq_cast2 _ p0, dq_cast2 _ p0] at hN
  rw [← hN] at h1 h2
  have p1 := gcd_pos_right N (a.den.gcd b.den) p0
  have d1 : N.natAbs.gcd (a.den.gcd b.den) ∣ b.den := Nat.dvd_trans (Nat.gcd_dvd_right _ _) (Nat.gcd_dvd_right _ _)
  rw [dq_cast _ p1, dq_cast2 _ p1, dq_cast2 _ p0, h1, h2, Nat.mul_div_assoc _ d1, Int.natCast_mul]
  exact ⟨rfl, rfl⟩
theorem sum_ones (a b : Rat) (h1 : (a.den : Int) = 1) (h2 : (b.den : Int) = 1) : a.num + b.num = (a + b).num ∧ (1 : Int) = ((a + b).den : Int) := by
  obtain ⟨k1, k2⟩ := add_parts a b
  have e1 : a.den = 1 := by omega
  have e2 : b.den = 1 := by omega
  rw [e1, e2] at k1 k2
  rw [k1, k2]
  simp
theorem sum_add_calls (w : World) (v1 v2 : Value) (a b : Rat) (h1 : IsRat w v1 a) (h2 : IsRat w v2 b) (l1 : LimQ 100000 a) (l2 : LimQ 100000 b) :
    Calls Tryz.prog 82 #[v1, v2, .func (.func 83) #[] #[]] w (Ret (fun v w' => IsRat w' v (a + b)) w) := by
  refine (walkQ2f (T := .ite (.eq (.var 1) (.lit 1)) (.ite (.eq (.var 3) (.lit 1)) (.leaf [(true, [.int (.a2 0 (.var 0) (.var 2)) 100001, .int (.lit 1) 3])]) (.leaf [(true, [.int (.a2 4 (.a2 0 (.a2 2 (.var 0) (.a2 4 (.var 3) (.a2 6 (.var 1) (.var 3)))) (.a2 2 (.var 2) (.a2 4 (.var 1) (.a2 6 (.var 1) (.var 3))))) (.a2 6 (.a2 0 (.a2 2 (.var 0) (.a2 4 (.var 3) (.a2 6 (.var 1) (.var 3)))) (.a2 2 (.var 2) (.a2 4 (.var 1) (.a2 6 (.var 1) (.var 3))))) (.a2 6 (.var 1) (.var 3)))) 200001, .int (.a2 2 (.a2 4 (.var 1) (.a2 6 (.var 1) (.var 3))) (.a2 4 (.var 3) (.a2 6 (.a2 0 (.a2 2 (.var 0) (.a2 4 (.var 3) (.a2 6 (.var 1) (.var 3)))) (.a2 2 (.var 2) (.a2 4 (.var 1) (.a2 6 (.var 1) (.var 3))))) (.a2 6 (.var 1) (.var 3))))) 200000])])) (.leaf [(true, [.int (.a2 4 (.a2 0 (.a2 2 (.var 0) (.a2 4 (.var 3) (.a2 6 (.var 1) (.var 3)))) (.a2 2 (.var 2) (.a2 4 (.var 1) (.a2 6 (.var 1) (.var 3))))) (.a2 6 (.a2 0 (.a2 2 (.var 0) (.a2 4 (.var 3) (.a2 6 (.var 1) (.var 3)))) (.a2 2 (.var 2) (.a2 4 (.var 1) (.a2 6 (.var 1) (.var 3))))) (.a2 6 (.var 1) (.var 3)))) 200001, .int (.a2 2 (.a2 4 (.var 1) (.a2 6 (.var 1) (.var 3))) (.a2 4 (.var 3) (.a2 6 (.a2 0 (.a2 2 (.var 0) (.a2 4 (.var 3) (.a2 6 (.var 1) (.var 3)))) (.a2 2 (.var 2) (.a2 4 (.var 1) (.a2 6 (.var 1) (.var 3))))) (.a2 6 (.var 1) (.var 3))))) 200000])]))
    tabDiv_ok Tryz.func82 (by kernel_rfl) (by decide +kernel) (by decide +kernel) h1 h2 l1 l2).mono ?_
  rintro e w' ⟨β, v, rfl, hh, ex⟩
  obtain ⟨m1, m2⟩ := sum_dq a b _ rfl
  simp only [Tree.pick] at hh
  split at hh
  · rename_i hz1
    split at hh
    · rename_i hz2
      obtain ⟨x, y, z, t, rfl, k1, _, k2, _⟩ := one_rat.1 hh
      obtain ⟨s1, s2⟩ := sum_ones a b (eq_of_beq hz1) (eq_of_beq hz2)
      refine ⟨_, rfl, ⟨x, y, z, t, rfl, ?_, ?_⟩, ex⟩
      · rw [← s1]; exact k1
      · rw [← s2]; exact k2
    · obtain ⟨x, y, z, t, rfl, k1, _, k2, _⟩ := one_rat.1 hh
      refine ⟨_, rfl, ⟨x, y, z, t, rfl, ?_, ?_⟩, ex⟩
      · rw [← m1]; exact k1
      · rw [← m2]; exact k2
  · obtain ⟨x, y, z, t, rfl, k1, _, k2, _⟩ := one_rat.1 hh
    refine ⟨_, rfl, ⟨x, y, z, t, rfl, ?_, ?_⟩, ex⟩
    · rw [← m1]; exact k1
    · rw [← m2]; exact k2
end Go.Proofs.YtnejcdjakjmklaaGreatDoor
end

section
set_option maxRecDepth 100000
namespace Go.Proofs.YtnejcdjakjmklaaGreatDoor
open Go.RowKit
theorem LimQ.mul {l m k j : Nat} {a b : Rat} (h1 : Lim l a.num) (h2 : Lim m (a.den : Int)) (h3 : Lim k b.num) (h4 : Lim j (b.den : Int)) : Lim (l + m + k + j + 1) (a * b).num ∧ Lim (l + m + k + j + 1) ((a * b).den : Int) := by
  obtain ⟨m1, m2⟩ := mul_dq a b
  rw [← m1, ← m2]
  exact ⟨((h1.natAbs_le (dq_abs _ _)).mul (h3.natAbs_le (dq_abs _ _))).mono (by omega), ((h2.natAbs_le (dq_abs _ _)).mul (h4.natAbs_le (dq_abs _ _))).mono (by omega)⟩
theorem LimQ.add {l m k j : Nat} {a b : Rat} (h1 : Lim l a.num) (h2 : Lim m (a.den : Int)) (h3 : Lim k b.num) (h4 : Lim j (b.den : Int)) : Lim (l + m + k + j + 1) (a + b).num ∧ Lim (l + m + k + j + 1) ((a + b).den : Int) := by
  obtain ⟨m1, m2⟩ := sum_dq a b _ rfl
  rw [← m1, ← m2]
  refine ⟨Lim.natAbs_le ?_ (dq_abs _ _), ((h2.natAbs_le (dq_abs _ _)).mul (h4.natAbs_le (dq_abs _ _))).mono (by omega)⟩
  exact ((h1.mul (h4.natAbs_le (dq_abs _ _))).add2 (h3.mul (h2.natAbs_le (dq_abs _ _)))).mono (by omega)
theorem LimQ.sub {l m k j : Nat} {a b : Rat} (h1 : Lim l a.num) (h2 : Lim m (a.den : Int)) (h3 : Lim k b.num) (h4 : Lim j (b.den : Int)) : Lim (l + m + k + j + 1) (a - b).num ∧ Lim (l + m + k + j + 1) ((a - b).den : Int) := by
  rw [Rat.sub_eq_add_neg]
  exact LimQ.add (b := -b) h1 h2 (by rw [Rat.neg_num]; exact h3.neg) h4

def QEnv (E : Env) : Prop := ∀ i, i % 2 = 0 → ∃ q : Rat, E.i i = q.num ∧ E.i (i + 1) = (q.den : Int)
def canon0 : IT → IT → Bool
  | .var i, .var j => i % 2 == 0 && j == i + 1
  | .lit z, .lit d => decide (0 < d) && Nat.gcd z.natAbs d.natAbs == 1
  | .a1 f x, t => f == 0 && canon0 x t
  | .a2 f x y, .a2 g z t => f == 7 && (g == 8 && (x.beq z && y.beq t))
  | .a4 f x y z t, .a4 g x' y' z' t' => f % 2 == 0 && (g == f + 1 && (f != 8 && (x.beq x' && (y.beq y' && (z.beq z' && t.beq t')))))
  | _, _ => false
theorem canon0_spec {E : Env} (hE : QEnv E) : ∀ {s t : IT}, canon0 s t = true → ∃ q : Rat, s.den E = q.num ∧ t.den E = (q.den : Int) := by
  intro s
  induction s with
  | var i =>
    intro t h
    cases t <;> simp only [canon0, Bool.false_eq_true, Bool.and_eq_true, beq_iff_eq] at h
    obtain ⟨h1, rfl⟩ := h
    exact hE i h1
  | lit z =>
    intro t h
    cases t with
    | lit d =>
      simp only [canon0, Bool.and_eq_true, beq_iff_eq, decide_eq_true_iff] at h
      obtain ⟨h1, h2⟩ := h
      exact ⟨⟨z, d.natAbs, by omega, h2⟩, rfl, (by show d = (d.natAbs : Int); omega)⟩
    | _ => simp [canon0] at h
  | rlen i => intro t h; cases t <;> simp [canon0] at h
  | slen i => intro t h; cases t <;> simp [canon0] at h
  | a1 f x ih =>
    intro t h
    simp only [canon0, Bool.and_eq_true, beq_iff_eq] at h
    obtain ⟨rfl, h⟩ := h
    obtain ⟨q, h1, h2⟩ := ih h
    exact ⟨-q, by rw [Rat.neg_num, ← h1]; rfl, h2⟩
  | a2 f x y _ _ =>
    intro t h
    cases t <;> simp only [canon0, Bool.false_eq_true, Bool.and_eq_true, beq_iff_eq] at h
    obtain ⟨rfl, rfl, h1, h2⟩ := h
    rw [← IT.eq_of_beq h1, ← IT.eq_of_beq h2]
    exact ⟨_, rfl, rfl⟩
  | a4 f x y z t _ _ _ _ =>
    intro u h
    cases u <;> simp only [canon0, Bool.false_eq_true, Bool.and_eq_true, beq_iff_eq] at h
    obtain ⟨h0, rfl, h8, h1, h2, h3, h4⟩ := h
    have h8' : f ≠ 8 := by simpa using h8
    rw [← IT.eq_of_beq h1, ← IT.eq_of_beq h2, ← IT.eq_of_beq h3, ← IT.eq_of_beq h4]
    refine ⟨_, if_pos h0, ?_⟩
    show fn4 (f + 1) _ _ _ _ = _
    unfold fn4
    rw [if_neg (by omega), if_neg (by omega), show (f + 1) / 2 = f / 2 by omega]
def canon (s t : IT) : Bool := t.beq (.lit 1) || canon0 s t
theorem canon_spec {E : Env} (hE : QEnv E) {s t : IT} (h : canon s t = true) : ∃ q : Rat, s.den E = q.num ∧ t.den E = (q.den : Int) := by
  unfold canon at h
  rw [Bool.or_eq_true] at h
  rcases h with h | h
  · rw [IT.eq_of_beq h]
    exact ⟨⟨s.den E, 1, by omega, Nat.gcd_one_right _⟩, rfl, rfl⟩
  · exact canon0_spec hE h
theorem divInt_parts (q : Rat) : Rat.divInt q.num (q.den : Int) = q := Rat.num_divInt_den q
theorem one_ratQ {E : Env} {w : World} {s t : IT} {l m : Nat} {v : Value} (hE : QEnv E) (hc : canon s t = true) (h : one E w (true, [.int s l, .int t m]) v) : ∃ q : Rat, q = Rat.divInt (s.den E) (t.den E) ∧ s.den E = q.num ∧ t.den E = (q.den : Int) ∧ IsRat w v q ∧ Lim l q.num ∧ Lim m (q.den : Int) := by
  obtain ⟨q, e1, e2⟩ := canon_spec hE hc
  obtain ⟨a, b, c, d, rfl, h1, h2, h3, h4⟩ := one_rat.1 h
  rw [e1] at h1 h2
  rw [e2] at h3 h4
  refine ⟨q, ?_, e1, e2, ⟨a, b, c, d, rfl, h1, h3⟩, h2, h4⟩
  rw [e1, e2, divInt_parts]
def ql (l : Nat) : Bool := decide (l ≤ 100000)
def kQQ (f : Nat) : Con
  | [.val true [.int x l, .int y m], .val true [.int z k, .int t j]], _ => if canon x y && (canon z t && (ql l && (ql m && (ql k && ql j)))) then
      some (.val true [.int (.a4 (2 * f) x y z t) (l + m + k + j + 1), .int (.a4 (2 * f + 1) x y z t) (l + m + k + j + 1)]) else none
  | _, _ => none
theorem kQQ_ok {E : Env} (hE : QEnv E) {f i : Nat} (hf : f < 4)
    (hc : ∀ (w : World) (v1 v2 : Value) (a b : Rat), IsRat w v1 a → IsRat w v2 b → LimQ 100000 a → LimQ 100000 b → Calls Tryz.prog i #[v1, v2] w (Ret (fun v w' => IsRat w' v (ratF f a b)) w))
    (hl : ∀ {l m k j : Nat} {a b : Rat}, Lim l a.num → Lim m (a.den : Int) → Lim k b.num → Lim j (b.den : Int) → Lim (l + m + k + j + 1) (ratF f a b).num ∧ Lim (l + m + k + j + 1) ((ratF f a b).den : Int))
    (hb : ∃ fn, Tryz.prog.funcs[i]? = some fn ∧ fn.name ≠ "runtime.NumGoroutine" ∧ fn.body.isNone = false) : ConOK Tryz.prog E i (kQQ f) := by
  refine ⟨?_, ?_, hb⟩
  · intro args As r h hG β w vs hv hlen
    unfold kQQ at h
    split at h
    · rename_i x l y m z k t j
      split at h
      · rename_i hlo
        injection h with h
        subst h
        simp only [ql, Bool.and_eq_true, decide_eq_true_iff] at hlo
        obtain ⟨c1, c2, b1, b2, b3, b4⟩ := hlo
        obtain ⟨v, u, rfl, h1, h2⟩ := args2 hv hlen
        obtain ⟨p, ep, ex1, ex2, hp, lp1, lp2⟩ := one_ratQ hE c1 h1
        obtain ⟨q, eq, ey1, ey2, hq, lq1, lq2⟩ := one_ratQ hE c2 h2
        obtain ⟨n1, n2⟩ := hl lp1 lp2 lq1 lq2
        refine (hc w v u p q hp hq ⟨lp1.mono (by omega), lp2.mono (by omega)⟩ ⟨lq1.mono (by omega), lq2.mono (by omega)⟩).mono ?_
        rintro e w' ⟨v', rfl, ⟨a, b, c, d, rfl, r1, r2⟩, ex⟩
        have d1 : (IT.a4 (2 * f) x y z t).den E = (ratF f p q).num := by
          show fn4 (2 * f) _ _ _ _ = _
          unfold fn4
          rw [if_pos (by omega), show 2 * f / 2 = f by omega, ← ep, ← eq]
        have d2 : (IT.a4 (2 * f + 1) x y z t).den E = ((ratF f p q).den : Int) := by
          show fn4 (2 * f + 1) _ _ _ _ = _
          unfold fn4
          rw [if_neg (by omega), if_neg (by omega), show (2 * f + 1) / 2 = f by omega, ← ep, ← eq]
        refine ⟨_, rfl, one_rat.2 ⟨a, b, c, d, rfl, ?_, ?_, ?_, ?_⟩, ex⟩
        · rw [d1]; exact r1
        · rw [d1]; exact n1
        · rw [d2]; exact r2
        · rw [d2]; exact n2
      · cases h
    · cases h
  · intro args As r h x off
    unfold kQQ at h
    split at h
    · split at h
      · injection h with h; subst h; intro e; cases e
      · cases h
    · cases h
end Go.Proofs.YtnejcdjakjmklaaGreatDoor
end

section
set_option maxRecDepth 100000
namespace Go.Proofs.YtnejcdjakjmklaaGreatDoor
open Go.RowKit
def tabR2 : List (Nat × Con) := (90, kDM) :: tabR1
theorem tabR2_ok {E : Env} : TabOK Tryz.prog E tabR2 := .cons (kDMg_ok (fun w v u a b h k l1 l2 => rdivMod_fn w v u a b h k l1 l2) ⟨_, Tryz.func90, by decide +kernel, by kernel_rfl⟩) tabR1_ok

theorem red_pos (a : Int) {b : Int} (hb : 0 < b) : dq a ((Nat.gcd a.natAbs b.natAbs : Nat) : Int) = (Rat.divInt a b).num ∧ dq b ((Nat.gcd a.natAbs b.natAbs : Nat) : Int) = ((Rat.divInt a b).den : Int) := by
  have hg : 0 < Nat.gcd a.natAbs b.natAbs := Nat.gcd_pos_of_pos_right _ (by omega)
  have hgc : b.gcd a = Nat.gcd a.natAbs b.natAbs := Nat.gcd_comm _ _
  rw [Rat.num_divInt, Rat.den_divInt, if_neg (by omega), hgc, Int.sign_eq_one_of_pos hb, Int.one_mul, dq_cast _ hg]
  refine ⟨rfl, ?_⟩
  have hbn : b = (b.natAbs : Int) := by omega
  generalize Nat.gcd a.natAbs b.natAbs = g at *
  rw [hbn, dq_cast2 _ hg, ← hbn]
theorem divInt_negs (a b : Int) : Rat.divInt (-a) (-b) = Rat.divInt a b := by
  have := Rat.divInt_mul_right (n := a) (d := b) (a := -1) (by omega)
  rw [← this]
  congr 1 <;> omega
theorem red_neg (a : Int) {b : Int} (hb : b < 0) : dq (-a) ((Nat.gcd (-a).natAbs (-b).natAbs : Nat) : Int) = (Rat.divInt a b).num ∧ dq (-b) ((Nat.gcd (-a).natAbs (-b).natAbs : Nat) : Int) = ((Rat.divInt a b).den : Int) := by
  rw [← divInt_negs a b]
  exact red_pos (-a) (by omega)
theorem cmp_lt0 (b : Int) : (cmpZ b 0 < 0) ↔ b < 0 := by
  rcases cmpZ_cases b 0 with ⟨h, e⟩ | ⟨h, e⟩ | ⟨h, e⟩ <;> rw [e] <;> omega
theorem cmp_eq0 (b : Int) : (cmpZ b 0 = 0) ↔ b = 0 := by
  rcases cmpZ_cases b 0 with ⟨h, e⟩ | ⟨h, e⟩ | ⟨h, e⟩ <;> rw [e] <;> omega
theorem cmp_eqm (b : Int) : (cmpZ b 0 = -1) ↔ b < 0 := by
  rcases cmpZ_cases b 0 with ⟨h, e⟩ | ⟨h, e⟩ | ⟨h, e⟩ <;> rw [e] <;> omega
theorem divInt_lim {l m : Nat} {a b : Int} (h : Lim l a) (k : Lim m b) (hb : b ≠ 0) : Lim l (Rat.divInt a b).num ∧ Lim m ((Rat.divInt a b).den : Int) := by
  rcases Int.lt_or_gt_of_ne hb with h1 | h1
  · obtain ⟨e1, e2⟩ := red_neg a h1
    rw [← e1, ← e2]
    exact ⟨h.neg.natAbs_le (dq_abs _ _), k.neg.natAbs_le (dq_abs _ _)⟩
  · obtain ⟨e1, e2⟩ := red_pos a h1
    rw [← e1, ← e2]
    exact ⟨h.natAbs_le (dq_abs _ _), k.natAbs_le (dq_abs _ _)⟩

theorem of_calls (w : World) (v1 v2 : Value) (a b : Int) (hb : b ≠ 0) (h : IsInt w v1 a) (k : IsInt w v2 b) (l1 : Lim 400000 a) (l2 : Lim 400000 b) :
    Calls Tryz.prog 54 #[v1, v2] w (Ret (fun v w' => IsRat w' v (Rat.divInt a b)) w) := by
  refine (walkZ2 (T := .ite (.lt (.a2 3 (.var 1) (.lit 0)) (.lit 0))
    (.leaf [(true, [.int (.a2 4 (.a1 0 (.var 0)) (.a2 6 (.a1 0 (.var 0)) (.a1 0 (.var 1)))) 400000, .int (.a2 4 (.a1 0 (.var 1)) (.a2 6 (.a1 0 (.var 0)) (.a1 0 (.var 1)))) 400000])])
    (.leaf [(true, [.int (.a2 4 (.var 0) (.a2 6 (.var 0) (.var 1))) 400000, .int (.a2 4 (.var 1) (.a2 6 (.var 0) (.var 1))) 400000])]))
    tabR2_ok Tryz.func54 (by kernel_rfl) (by decide +kernel) (by decide +kernel) h k l1 l2).mono ?_
  rintro e w' ⟨β, v, rfl, hh, ex⟩
  simp only [Tree.pick] at hh
  split at hh
  · rename_i hz
    have hz' : b < 0 := (cmp_lt0 b).1 (of_decide_eq_true hz)
    obtain ⟨x, y, z, t, rfl, k1, _, k2, _⟩ := one_rat.1 hh
    obtain ⟨m1, m2⟩ := red_neg a hz'
    refine ⟨_, rfl, ⟨x, y, z, t, rfl, ?_, ?_⟩, ex⟩
    · rw [← m1]; exact k1
    · rw [← m2]; exact k2
  · rename_i hz
    have hz' : ¬ b < 0 := fun hb => hz (decide_eq_true ((cmp_lt0 b).2 hb))
    obtain ⟨x, y, z, t, rfl, k1, _, k2, _⟩ := one_rat.1 hh
    obtain ⟨m1, m2⟩ := red_pos a (show 0 < b by omega)
    refine ⟨_, rfl, ⟨x, y, z, t, rfl, ?_, ?_⟩, ex⟩
    · rw [← m1]; exact k1
    · rw [← m2]; exact k2
theorem unit_calls (w : World) : Calls Tryz.prog 69 #[] w (Ret (fun v w' => IsInt w' v 1) w) := by
  refine (walk0 (T := .leaf [(true, [.int (.lit 1) 3])]) tabR2_ok Tryz.func69 (by kernel_rfl) (by decide +kernel)).mono ?_
  rintro e w' ⟨β, v, rfl, hh, ex⟩
  exact ⟨v, rfl, (one_int.1 hh).1, ex⟩

def denZ (a b : Int) : Int := if b = 0 then 0 else ((Rat.divInt a b).den : Int)
def RetMake (a b : Int) (w : World) (e : Ending) (w' : World) : Prop :=
  ∃ x y z t, e = .returned (.tuple #[.agg #[x, y, z, t], .int .i64 (de b)]) ∧ IsInt w' (.agg #[x, y]) (Rat.divInt a b).num ∧ IsInt w' (.agg #[z, t]) (denZ a b) ∧ Ext w w'
theorem divInt_zero' (a : Int) : (Rat.divInt a 0).num = 0 := by rw [Rat.num_divInt]; simp
theorem make_calls (w : World) (v1 v2 : Value) (a b : Int) (h : IsInt w v1 a) (k : IsInt w v2 b) (l1 : Lim 400000 a) (l2 : Lim 400000 b) :
    Calls Tryz.prog 52 #[v1, v2] w (RetMake a b w) := by
  refine (walkZ2 (T := .ite (.eq (.a2 3 (.var 1) (.lit 0)) (.lit 0)) (.leaf [(true, [.int (.lit 0) 0, .int (.lit 0) 0]), (false, [.n .i64 (.lit 6)])])
    (.ite (.eq (.a2 3 (.var 1) (.lit 0)) (.lit (-1)))
    (.leaf [(true, [.int (.a2 4 (.a1 0 (.var 0)) (.a2 6 (.a1 0 (.var 0)) (.a1 0 (.var 1)))) 400000, .int (.a2 4 (.a1 0 (.var 1)) (.a2 6 (.a1 0 (.var 0)) (.a1 0 (.var 1)))) 400000]), (false, [.n .i64 (.lit 0)])])
    (.leaf [(true, [.int (.a2 4 (.var 0) (.a2 6 (.var 0) (.var 1))) 400000, .int (.a2 4 (.var 1) (.a2 6 (.var 0) (.var 1))) 400000]), (false, [.n .i64 (.lit 0)])])))
    tabDiv_ok Tryz.func52 (by kernel_rfl) (by decide +kernel) (by decide +kernel) h k l1 l2).mono ?_
  rintro e w' ⟨β, v, rfl, hh, ex⟩
  have open_ : ∀ (s t u : IT) (l m : Nat), (AV.tup [(true, [.int s l, .int t m]), (false, [.n .i64 u])]).holds (zE [a, b]) β w' v → s.den (zE [a, b]) = (Rat.divInt a b).num → t.den (zE [a, b]) = denZ a b → u.den (zE [a, b]) = de b → RetMake a b w (.returned v) w' := by
    intro s t u l m hx e1 e2 e3
    obtain ⟨vs, rfl, u1, r1, rfl, k1, u2, r2, rfl, k2, hn⟩ := hx
    simp only [tupAll] at hn
    subst hn
    have k2' := one_num.1 k2
    subst k2'
    obtain ⟨x, y, z, t', rfl, j1, _, j2, _⟩ := one_rat.1 k1
    rw [e1] at j1
    rw [e2] at j2
    exact ⟨x, y, z, t', by rw [e3], j1, j2, ex⟩
  simp only [Tree.pick] at hh
  split at hh
  · rename_i hz
    have hz' : b = 0 := (cmp_eq0 b).1 (eq_of_beq hz)
    subst hz'
    exact open_ _ _ _ _ _ hh (divInt_zero' a).symm rfl rfl
  · rename_i hz
    have hb : b ≠ 0 := fun hb => hz (beq_iff_eq.2 ((cmp_eq0 b).2 hb))
    have e3 : (0 : Int) = de b := by unfold de; rw [if_neg hb]
    have e2 : denZ a b = ((Rat.divInt a b).den : Int) := by unfold denZ; rw [if_neg hb]
    split at hh
    · rename_i hz
      have hz' : b < 0 := (cmp_eqm b).1 (eq_of_beq hz)
      obtain ⟨m1, m2⟩ := red_neg a hz'
      exact open_ _ _ _ _ _ hh m1 (by rw [e2]; exact m2) e3
    · rename_i hz
      have hz' : ¬ b < 0 := fun hb => hz (beq_iff_eq.2 ((cmp_eqm b).2 hb))
      obtain ⟨m1, m2⟩ := red_pos a (show 0 < b by omega)
      exact open_ _ _ _ _ _ hh m1 (by rw [e2]; exact m2) e3

end Go.Proofs.YtnejcdjakjmklaaGreatDoor
end

section
set_option maxRecDepth 100000
namespace Go.Proofs.YtnejcdjakjmklaaGreatDoor
open Go.RowKit
def IsPair (w : World) (v : Value) (n d : Int) : Prop := ∃ a b c e, v = .agg #[a, b, c, e] ∧ IsInt w (.agg #[a, b]) n ∧ IsInt w (.agg #[c, e]) d
theorem IsPair.ext {w w' : World} {v : Value} {n d : Int} (h : IsPair w v n d) (e : Ext w w') : IsPair w' v n d := by
  obtain ⟨a, b, c, f, h1, h2, h3⟩ := h
  exact ⟨a, b, c, f, h1, h2.ext e, h3.ext e⟩
theorem argP_holds {E : Env} {β : Nat → Nat} {w : World} {v : Value} {n d : Int} {i : Nat} (h : IsPair w v n d) (l1 : Lim 100000 n) (l2 : Lim 100000 d) (e1 : E.i (2 * i) = n) (e2 : E.i (2 * i + 1) = d) : (argQ i).holds E β w v := by
  obtain ⟨a, b, c, f, rfl, h1, h2⟩ := h
  refine one_rat.2 ⟨a, b, c, f, rfl, ?_, ?_, ?_, ?_⟩
  · show IsInt w _ (E.i (2 * i)); rw [e1]; exact h1
  · show Lim 100000 (E.i (2 * i)); rw [e1]; exact l1
  · show IsInt w _ (E.i (2 * i + 1)); rw [e2]; exact h2
  · show Lim 100000 (E.i (2 * i + 1)); rw [e2]; exact l2
theorem walkP2 {tab : List (Nat × Con)} {f : Nat} {fn : Func} {T : Tree} {w : World} {n1 d1 n2 d2 : Int} {v1 v2 : Value} (ht : TabOK Tryz.prog (zE [n1, d1, n2, d2]) tab) (hf : Tryz.prog.funcs[f]? = some fn) (hT : funE (cfgOf tab) fn [] [argQ 0, argQ 1] = some T) (h4 : fn.results.toList.length ≤ 4) (hn : 2 ≤ fn.ntmps)
    (h1 : IsPair w v1 n1 d1) (h2 : IsPair w v2 n2 d2) (l1 : Lim 100000 n1) (l1' : Lim 100000 d1) (l2 : Lim 100000 n2) (l2' : Lim 100000 d2) :
    Calls Tryz.prog f #[v1, v2] w fun e w' => ∃ β v, e = .returned v ∧ (toAV (T.pick (zE [n1, d1, n2, d2]))).holds (zE [n1, d1, n2, d2]) β w' v ∧ Ext w w' := by
  refine fun_sound mixed (cfg_ok ht) no_asm hf h4 hT hn rfl w [v1, v2] rfl ?_
  intro i x hx
  match i, hx with
  | 0, hx => injection hx with hx; subst hx; exact ⟨fun _ => 0, v1, rfl, argP_holds h1 l1 l1' rfl rfl⟩
  | 1, hx => injection hx with hx; subst hx; exact ⟨fun _ => 0, v2, rfl, argP_holds h2 l2 l2' rfl rfl⟩
theorem one_pair {E : Env} {w : World} {s t : IT} {l m : Nat} {v : Value} : one E w (true, [.int s l, .int t m]) v ↔ IsPair w v (s.den E) (t.den E) ∧ Lim l (s.den E) ∧ Lim m (t.den E) := by
  rw [one_rat]
  constructor
  · rintro ⟨a, b, c, d, rfl, h1, h2, h3, h4⟩
    exact ⟨⟨a, b, c, d, rfl, h1, h3⟩, h2, h4⟩
  · rintro ⟨⟨a, b, c, d, rfl, h1, h3⟩, h2, h4⟩
    exact ⟨a, b, c, d, rfl, h1, h2, h3, h4⟩

theorem mulRaw_calls (w : World) (v1 v2 : Value) (n1 d1 n2 d2 : Int) (h1 : IsPair w v1 n1 d1) (h2 : IsPair w v2 n2 d2) (l1 : Lim 100000 n1) (l1' : Lim 100000 d1) (l2 : Lim 100000 n2) (l2' : Lim 100000 d2) :
    Calls Tryz.prog 84 #[v1, v2] w (Ret (fun v w' => IsPair w' v (dq n1 ((Nat.gcd n1.natAbs d2.natAbs : Nat) : Int) * dq n2 ((Nat.gcd n2.natAbs d1.natAbs : Nat) : Int)) (dq d1 ((Nat.gcd n2.natAbs d1.natAbs : Nat) : Int) * dq d2 ((Nat.gcd n1.natAbs d2.natAbs : Nat) : Int))) w) := by
  refine (walkP2 (T := .leaf [(true, [.int (.a2 2 (.a2 4 (.var 0) (.a2 6 (.var 0) (.var 3))) (.a2 4 (.var 2) (.a2 6 (.var 2) (.var 1)))) 200000, .int (.a2 2 (.a2 4 (.var 1) (.a2 6 (.var 2) (.var 1))) (.a2 4 (.var 3) (.a2 6 (.var 0) (.var 3)))) 200000])])
    tabDiv_ok Tryz.func84 (by kernel_rfl) (by decide +kernel) (by decide +kernel) h1 h2 l1 l1' l2 l2').mono ?_
  rintro e w' ⟨β, v, rfl, hh, ex⟩
  exact ⟨_, rfl, (one_pair.1 hh).1, ex⟩
def kMulRaw : Con
  | [.val true [.int x l, .int y m], .val true [.int z k, .int t j]], _ => if ql l && (ql m && (ql k && ql j)) || decide (l ≤ 100000) && (decide (m ≤ 100000) && (decide (k ≤ 100000) && decide (j ≤ 100000))) then
      some (.val true [.int (.a2 2 (.a2 4 x (.a2 6 x t)) (.a2 4 z (.a2 6 z y))) (l + k), .int (.a2 2 (.a2 4 y (.a2 6 z y)) (.a2 4 t (.a2 6 x t))) (m + j)]) else none
  | _, _ => none
theorem kMulRaw_ok {E : Env} : ConOK Tryz.prog E 84 kMulRaw := by
  refine ⟨?_, ?_, ⟨_, Tryz.func84, by decide +kernel, by kernel_rfl⟩⟩
  · intro args As r h hG β w vs hv hlen
    unfold kMulRaw at h
    split at h
    · rename_i x l y m z k t j
      split at h
      · rename_i hlo
        injection h with h
        subst h
        simp only [ql, Bool.and_eq_true, Bool.or_eq_true, decide_eq_true_iff] at hlo
        obtain ⟨v, u, rfl, h1, h2⟩ := args2 hv hlen
        obtain ⟨p1, a1, a2⟩ := one_pair.1 h1
        obtain ⟨p2, a3, a4⟩ := one_pair.1 h2
        refine (mulRaw_calls w v u _ _ _ _ p1 p2 (a1.mono (by omega)) (a2.mono (by omega)) (a3.mono (by omega)) (a4.mono (by omega))).mono ?_
        rintro e w' ⟨v', rfl, hp, ex⟩
        exact ⟨v', rfl, one_pair.2 ⟨hp, (a1.natAbs_le (dq_abs _ _)).mul (a3.natAbs_le (dq_abs _ _)), (a2.natAbs_le (dq_abs _ _)).mul (a4.natAbs_le (dq_abs _ _))⟩, ex⟩
      · cases h
    · cases h
  · intro args As r h x off
    unfold kMulRaw at h
    split at h
    · split at h
      · injection h with h; subst h; intro e; cases e
      · cases h
    · cases h
theorem sign_rat_calls (w : World) (v1 : Value) (n d : Int) (h1 : IsPair w v1 n d) (l1 : Lim 100000 n) (l1' : Lim 100000 d) : Calls Tryz.prog 124 #[v1] w fun e w' => e = .returned (.int .i64 (cmpZ n 0)) ∧ Ext w w' := by
  refine (fun_sound (E := zE [n, d]) (args := [argQ 0]) (T := .leaf [(false, [.n .i64 (.a2 3 (.var 0) (.lit 0))])]) mixed (cfg_ok tabDiv_ok) no_asm Tryz.func124 (by decide +kernel) (by kernel_rfl) (by decide +kernel) rfl w [v1] rfl ?_).mono ?_
  · intro i x hx
    match i, hx with
    | 0, hx => injection hx with hx; subst hx; exact ⟨fun _ => 0, v1, rfl, argP_holds h1 l1 l1' rfl rfl⟩
  · rintro e w' ⟨β, v, rfl, hh, ex⟩
    have := one_num.1 hh
    subst this
    exact ⟨rfl, ex⟩
def kSg : Con
  | [.val true [.int x l, .int _ m]], _ => if decide (l ≤ 100000) && decide (m ≤ 100000) then some (.val false [.n .i64 (.a2 3 x (.lit 0))]) else none
  | _, _ => none
theorem kSg_ok {E : Env} : ConOK Tryz.prog E 124 kSg := by
  refine ⟨?_, ?_, ⟨_, Tryz.func124, by decide +kernel, by kernel_rfl⟩⟩
  · intro args As r h hG β w vs hv hlen
    unfold kSg at h
    split at h
    · split at h
      · rename_i hlo
        injection h with h
        subst h
        simp only [Bool.and_eq_true, decide_eq_true_iff] at hlo
        obtain ⟨v, rfl, h1⟩ := args1 hv hlen
        obtain ⟨p1, a1, a2⟩ := one_pair.1 h1
        refine (sign_rat_calls w v _ _ p1 (a1.mono hlo.1) (a2.mono hlo.2)).mono ?_
        rintro e w' ⟨rfl, ex⟩
        exact ⟨_, rfl, one_num.2 rfl, ex⟩
      · cases h
    · cases h
  · intro args As r h x off
    unfold kSg at h
    split at h
    · split at h
      · injection h with h; subst h; intro e; cases e
      · cases h
    · cases h
def tabMul : List (Nat × Con) := (84, kMulRaw)  :: (124, kSg) :: tabDiv
theorem tabMul_ok {E : Env} : TabOK Tryz.prog E tabMul := by
  refine .cons kMulRaw_ok ?_ 
  refine .cons kSg_ok ?_ 
  exact tabDiv_ok

def divD (a b : Rat) : Int := if b = 0 then 0 else ((a / b).den : Int)
def RetDiv (a b : Rat) (w : World) (e : Ending) (w' : World) : Prop :=
  ∃ v, e = .returned (.tuple #[v, .int .i64 (de b.num)]) ∧ IsPair w' v (a / b).num (divD a b) ∧ Ext w w'
theorem open_quot {E : Env} {β : Nat → Nat} {w' : World} {v : Value} {s t u : IT} {l m : Nat} (hx : (AV.tup [(true, [.int s l, .int t m]), (false, [.n .i64 u])]).holds E β w' v) :
    ∃ p, v = .tuple #[p, .int .i64 (u.den E)] ∧ IsPair w' p (s.den E) (t.den E) := by
  obtain ⟨vs, rfl, u1, r1, rfl, k1, u2, r2, rfl, k2, hn⟩ := hx
  simp only [tupAll] at hn
  subst hn
  have k2' := one_num.1 k2
  subst k2'
  exact ⟨u1, rfl, (one_pair.1 k1).1⟩
end Go.Proofs.YtnejcdjakjmklaaGreatDoor
end

section
set_option maxRecDepth 100000
namespace Go.Proofs.YtnejcdjakjmklaaGreatDoor
open Go.RowKit
def nz (q : Bool) : IT → Bool
  | .var i => q && i % 2 == 1
  | .lit z => z != 0
  | .a2 f x y => f == 2 && (nz q x && nz q y) || f == 8
  | .a4 f _ _ _ _ => f % 2 == 1 && f != 9
  | _ => false
theorem nz_spec {E : Env} {q : Bool} (hE : q = true → QEnv E) : ∀ {t : IT}, nz q t = true → t.den E ≠ 0 := by
  intro t
  induction t with
  | var i =>
    intro h
    simp only [nz, Bool.and_eq_true, beq_iff_eq] at h
    obtain ⟨q', _, h2⟩ := hE h.1 (i - 1) (by omega)
    rw [show i - 1 + 1 = i by omega] at h2
    show E.i i ≠ 0
    rw [h2]
    have := q'.den_pos
    omega
  | lit z => intro h; simpa [nz, IT.den] using h
  | a2 f x y ihx ihy =>
    intro h
    simp only [nz, Bool.or_eq_true, Bool.and_eq_true, beq_iff_eq] at h
    rcases h with ⟨rfl, h1, h2⟩ | rfl
    · exact Int.mul_ne_zero (ihx h1) (ihy h2)
    · show ((Rat.divInt _ _).den : Int) ≠ 0
      have := (Rat.divInt (x.den E) (y.den E)).den_pos
      omega
  | a4 f x y z t _ _ _ _ =>
    intro h
    simp only [nz, Bool.and_eq_true, beq_iff_eq, bne_iff_ne] at h
    show fn4 f _ _ _ _ ≠ 0
    unfold fn4
    rw [if_neg (by omega), if_neg (fun e => h.2 e.1)]
    have := (ratF (f / 2) (Rat.divInt (x.den E) (y.den E)) (Rat.divInt (z.den E) (t.den E))).den_pos
    omega
  | _ => intro h; cases h
def kOf (q : Bool) : Con
  | [.val true [.int x l], .val true [.int y m]], G => if lo l && (lo m && (nz q y || (G.find (.eq (.a2 3 y (.lit 0)) (.lit 0)) == some false || G.find (.eq y (.lit 0)) == some false))) then some (.val true [.int (.a2 7 x y) l, .int (.a2 8 x y) m]) else none
  | _, _ => none
theorem kOf_ok {E : Env} {q : Bool} (hE : q = true → QEnv E) : ConOK Tryz.prog E 54 (kOf q) := by
  refine ⟨?_, ?_, ⟨_, Tryz.func54, by decide +kernel, by kernel_rfl⟩⟩
  · intro args As r h hG β w vs hv hlen
    unfold kOf at h
    split at h
    · rename_i x l y m
      split at h
      · rename_i hlo
        injection h with h
        subst h
        simp only [lo, Bool.and_eq_true, Bool.or_eq_true, decide_eq_true_iff, beq_iff_eq] at hlo
        obtain ⟨b1, b2, b3⟩ := hlo
        have hy : y.den E ≠ 0 := by
          rcases b3 with b3 | b3 | b3
          · exact nz_spec hE b3
          · have := Asm.find_spec hG b3
            intro e
            have h2 : (cmpZ (y.den E) 0 == 0) = false := this
            rw [e] at h2
            cases h2
          · have := Asm.find_spec hG b3
            intro e
            have h2 : (y.den E == 0) = false := this
            rw [e] at h2
            cases h2
        obtain ⟨v, u, rfl, h1, h2⟩ := args2 hv hlen
        obtain ⟨i1, l1⟩ := one_int.1 h1
        obtain ⟨i2, l2⟩ := one_int.1 h2
        refine (of_calls w v u _ _ hy i1 i2 (l1.mono b1) (l2.mono b2)).mono ?_
        rintro e w' ⟨v', rfl, hp, ex⟩
        obtain ⟨n1, n2⟩ := divInt_lim l1 l2 hy
        exact ⟨v', rfl, one_pair.2 ⟨hp, n1, n2⟩, ex⟩
      · cases h
    · cases h
  · intro args As r h x off
    unfold kOf at h
    split at h
    · split at h
      · injection h with h; subst h; intro e; cases e
      · cases h
    · cases h
def kMake : Con
  | [.val true [.int x l], .val true [.int y m]], _ => if lo l && lo m then some (.tup [(true, [.int (.a2 7 x y) l, .int (.a2 11 x y) m]), (false, [.n .i64 (.a1 1 y)])]) else none
  | _, _ => none
theorem lim_zero {l : Nat} : Lim l 0 := by unfold Lim; rw [Int.natAbs_zero, limbs_zero]; exact Nat.zero_le _
theorem kMake_ok {E : Env} {f : Nat} (hc : ∀ (w : World) (v u : Value) (a b : Int), IsInt w v a → IsInt w u b → Lim 400000 a → Lim 400000 b → Calls Tryz.prog f #[v, u] w (RetMake a b w))
    (hb : ∃ fn, Tryz.prog.funcs[f]? = some fn ∧ fn.name ≠ "runtime.NumGoroutine" ∧ fn.body.isNone = false) : ConOK Tryz.prog E f kMake := by
  refine ⟨?_, ?_, hb⟩
  · intro args As r h hG β w vs hv hlen
    unfold kMake at h
    split at h
    · rename_i x l y m
      split at h
      · rename_i hlo
        injection h with h
        subst h
        simp only [lo, Bool.and_eq_true, decide_eq_true_iff] at hlo
        obtain ⟨v, u, rfl, h1, h2⟩ := args2 hv hlen
        obtain ⟨i1, l1⟩ := one_int.1 h1
        obtain ⟨i2, l2⟩ := one_int.1 h2
        refine (hc w v u _ _ i1 i2 (l1.mono (by omega)) (l2.mono (by omega))).mono ?_
        rintro e w' ⟨a, b, c, d, rfl, k1, k2, ex⟩
        have hlim : Lim l (Rat.divInt (x.den E) (y.den E)).num ∧ Lim m (denZ (x.den E) (y.den E)) := by
          unfold denZ
          by_cases hy : y.den E = 0
          · rw [if_pos hy, hy, divInt_zero']
            exact ⟨lim_zero, lim_zero⟩
          · rw [if_neg hy]
            exact divInt_lim l1 l2 hy
        exact ⟨_, rfl, ⟨[.agg #[a, b, c, d], .int .i64 (de (y.den E))], rfl, _, _, rfl, one_pair.2 ⟨⟨a, b, c, d, rfl, k1, k2⟩, hlim.1, hlim.2⟩, _, _, rfl, one_num.2 rfl, rfl⟩, ex⟩
      · cases h
    · cases h
  · intro args As r h x off
    unfold kMake at h
    split at h
    · split at h
      · injection h with h; subst h; intro e; cases e
      · cases h
    · cases h
def tabR3 (q : Bool) : List (Nat × Con) := (54, kOf q) :: (69, k0 (.lit 1) 3) :: tabR2
theorem tabR3_ok {E : Env} {q : Bool} (hE : q = true → QEnv E) : TabOK Tryz.prog E (tabR3 q) :=
  .cons (kOf_ok hE) (.cons (k0_ok 1 rfl (fun w => unit_calls w) (lim3 (by decide) (by decide)) ⟨_, Tryz.func69, by decide +kernel, by kernel_rfl⟩) tabR2_ok)
theorem qE_ok (l : List Rat) : QEnv (qE l) := by
  intro i hi
  refine ⟨l.getD (i / 2) 0, ?_, ?_⟩
  · show (if i % 2 = 0 then _ else _) = _
    rw [if_pos hi]
  · show (if (i + 1) % 2 = 0 then _ else _) = _
    rw [if_neg (by omega), show (i + 1) / 2 = i / 2 by omega]
theorem rmake_calls (w : World) (v1 v2 : Value) (a b : Int) (h : IsInt w v1 a) (k : IsInt w v2 b) (l1 : Lim 400000 a) (l2 : Lim 400000 b) :
    Calls Tryz.prog 197 #[v1, v2] w (RetMake a b w) := by
  refine (walkZ2 (T := .ite (.eq (.a2 3 (.var 1) (.lit 0)) (.lit 0)) (.leaf [(true, [.int (.lit 0) 0, .int (.lit 0) 0]), (false, [.n .i64 (.lit 6)])])
    (.leaf [(true, [.int (.a2 7 (.var 0) (.var 1)) 400000, .int (.a2 8 (.var 0) (.var 1)) 400000]), (false, [.n .i64 (.lit 0)])]))
    (tabR3_ok (q := false) (fun h => by cases h)) Tryz.func197 (by kernel_rfl) (by decide +kernel) (by decide +kernel) h k l1 l2).mono ?_
  rintro e w' ⟨β, v, rfl, hh, ex⟩
  simp only [Tree.pick] at hh
  split at hh
  · rename_i hz
    have hz' : b = 0 := (cmp_eq0 b).1 (eq_of_beq hz)
    subst hz'
    obtain ⟨p, rfl, x, y, z, t, rfl, k1, k2⟩ := open_quot hh
    exact ⟨x, y, z, t, rfl, by rw [divInt_zero']; exact k1, k2, ex⟩
  · rename_i hz
    have hb : b ≠ 0 := fun hb => hz (beq_iff_eq.2 ((cmp_eq0 b).2 hb))
    obtain ⟨p, rfl, x, y, z, t, rfl, k1, k2⟩ := open_quot hh
    refine ⟨x, y, z, t, ?_, k1, ?_, ex⟩
    · unfold de; rw [if_neg hb]; rfl
    · unfold denZ; rw [if_neg hb]; exact k2
theorem den_ne (q : Rat) : (q.den : Int) ≠ 0 := by have := q.den_pos; omega
theorem radd_rat_calls (w : World) (v1 v2 : Value) (a b : Rat) (h1 : IsRat w v1 a) (h2 : IsRat w v2 b) (l1 : LimQ 100000 a) (l2 : LimQ 100000 b) :
    Calls Tryz.prog 43 #[v1, v2] w (Ret (fun v w' => IsRat w' v (a + b)) w) := by
  refine (walkQ2 (T := .leaf [(true, [.int (.a2 7 (.a2 0 (.a2 2 (.var 0) (.var 3)) (.a2 2 (.var 2) (.var 1))) (.a2 2 (.var 1) (.var 3))) 200001, .int (.a2 8 (.a2 0 (.a2 2 (.var 0) (.var 3)) (.a2 2 (.var 2) (.var 1))) (.a2 2 (.var 1) (.var 3))) 200000])])
    (tabR3_ok (q := true) (fun _ => qE_ok _)) Tryz.func43 (by kernel_rfl) (by decide +kernel) (by decide +kernel) h1 h2 l1 l2).mono ?_
  rintro e w' ⟨β, v, rfl, hh, ex⟩
  have e1 : a + b = Rat.divInt (a.num * (b.den : Int) + b.num * (a.den : Int)) ((a.den : Int) * (b.den : Int)) := by
    rw [← Rat.divInt_add_divInt _ _ (den_ne a) (den_ne b), divInt_parts, divInt_parts]
  exact ⟨v, rfl, by rw [e1]; exact (one_pair.1 hh).1, ex⟩
theorem rmul_rat_calls (w : World) (v1 v2 : Value) (a b : Rat) (h1 : IsRat w v1 a) (h2 : IsRat w v2 b) (l1 : LimQ 100000 a) (l2 : LimQ 100000 b) :
    Calls Tryz.prog 12 #[v1, v2] w (Ret (fun v w' => IsRat w' v (a * b)) w) := by
  refine (walkQ2 (T := .leaf [(true, [.int (.a2 7 (.a2 2 (.var 0) (.var 2)) (.a2 2 (.var 1) (.var 3))) 200000, .int (.a2 8 (.a2 2 (.var 0) (.var 2)) (.a2 2 (.var 1) (.var 3))) 200000])])
    (tabR3_ok (q := true) (fun _ => qE_ok _)) Tryz.func12 (by kernel_rfl) (by decide +kernel) (by decide +kernel) h1 h2 l1 l2).mono ?_
  rintro e w' ⟨β, v, rfl, hh, ex⟩
  have e1 : a * b = Rat.divInt (a.num * b.num) ((a.den : Int) * (b.den : Int)) := by
    rw [← Rat.divInt_mul_divInt, divInt_parts, divInt_parts]
  exact ⟨v, rfl, by rw [e1]; exact (one_pair.1 hh).1, ex⟩
theorem rneg_rat_calls (w : World) (v1 : Value) (a : Rat) (h1 : IsRat w v1 a) (l1 : LimQ 100000 a) :
    Calls Tryz.prog 17 #[v1] w (Ret (fun v w' => IsRat w' v (-a)) w) := by
  refine (walkQ1 (T := .leaf [(true, [.int (.a1 0 (.var 0)) 100000, .int (.var 1) 100000])])
    (tabR3_ok (q := true) (fun _ => qE_ok _)) Tryz.func17 (by kernel_rfl) (by decide +kernel) (by decide +kernel) h1 l1).mono ?_
  rintro e w' ⟨β, v, rfl, hh, ex⟩
  exact ⟨v, rfl, (one_pair.1 hh).1, ex⟩
def tabR4 (q : Bool) : List (Nat × Con) := (197, kMake) :: tabR3 q
theorem tabR4_ok {E : Env} {q : Bool} (hE : q = true → QEnv E) : TabOK Tryz.prog E (tabR4 q) :=
  .cons (kMake_ok (fun w v u a b h k l1 l2 => rmake_calls w v u a b h k l1 l2) ⟨_, Tryz.func197, by decide +kernel, by kernel_rfl⟩) (tabR3_ok hE)
theorem rdiv_rat_calls (w : World) (v1 v2 : Value) (a b : Rat) (h1 : IsRat w v1 a) (h2 : IsRat w v2 b) (l1 : LimQ 100000 a) (l2 : LimQ 100000 b) :
    Calls Tryz.prog 167 #[v1, v2] w (RetDiv a b w) := by
  refine (walkQ2 (T := .leaf [(true, [.int (.a2 7 (.a2 2 (.var 0) (.var 3)) (.a2 2 (.var 1) (.var 2))) 200000, .int (.a2 11 (.a2 2 (.var 0) (.var 3)) (.a2 2 (.var 1) (.var 2))) 200000]), (false, [.n .i64 (.a1 1 (.a2 2 (.var 1) (.var 2)))])])
    (tabR4_ok (q := true) (fun _ => qE_ok _)) Tryz.func167 (by kernel_rfl) (by decide +kernel) (by decide +kernel) h1 h2 l1 l2).mono ?_
  rintro e w' ⟨β, v, rfl, hh, ex⟩
  obtain ⟨p, rfl, hp⟩ := open_quot hh
  have e1 : a / b = Rat.divInt (a.num * (b.den : Int)) ((a.den : Int) * b.num) := by
    rw [← Rat.divInt_mul_divInt, divInt_parts, ← Rat.inv_divInt, divInt_parts, Rat.div_def]
  have e0 : ((a.den : Int) * b.num = 0) ↔ b = 0 := by
    rw [Int.mul_eq_zero, ← Rat.num_eq_zero]
    exact ⟨fun h => h.resolve_left (den_ne a), .inr⟩
  have e2 : divD a b = denZ (a.num * (b.den : Int)) ((a.den : Int) * b.num) := by
    unfold divD denZ
    rw [e1]
    by_cases hb : b = 0
    · rw [if_pos hb, if_pos (e0.2 hb)]
    · rw [if_neg hb, if_neg (fun h => hb (e0.1 h))]
  have e3 : de b.num = de ((a.den : Int) * b.num) := by
    unfold de
    by_cases hb : b = 0
    · rw [if_pos (Rat.num_eq_zero.2 hb), if_pos (e0.2 hb)]
    · rw [if_neg (fun h => hb (Rat.num_eq_zero.1 h)), if_neg (fun h => hb (e0.1 h))]
  exact ⟨p, by rw [e3]; rfl, by rw [e2, e1]; exact hp, ex⟩

end Go.Proofs.YtnejcdjakjmklaaGreatDoor
end

section
set_option maxRecDepth 100000
namespace Go.Proofs.YtnejcdjakjmklaaGreatDoor
open Go.RowKit
theorem fn4_num {f : Nat} (hf : f % 2 = 0) (a b : Rat) : fn4 f a.num (a.den : Int) b.num (b.den : Int) = (ratF (f / 2) a b).num := by
  unfold fn4
  rw [if_pos hf, divInt_parts, divInt_parts]
theorem fn4_den {f : Nat} (hf : f % 2 = 1) (h9 : f ≠ 9) (a b : Rat) : fn4 f a.num (a.den : Int) b.num (b.den : Int) = ((ratF (f / 2) a b).den : Int) := by
  unfold fn4
  rw [if_neg (by omega), if_neg (fun e => h9 e.1), divInt_parts, divInt_parts]
theorem args3 {E : Env} {β : Nat → Nat} {w : World} {x y z : AV} {vs : List Value} (hv : ∀ (i : Nat) (a : AV), [x, y, z][i]? = some a → ∃ v, vs[i]? = some v ∧ a.holds E β w v) (hl : vs.length = [x, y, z].length) :
    ∃ v u t, vs = [v, u, t] ∧ x.holds E β w v ∧ y.holds E β w u ∧ z.holds E β w t := by
  match vs, hl with
  | [v, u, t], _ =>
    obtain ⟨v', e1, h1⟩ := hv 0 x rfl
    obtain ⟨u', e2, h2⟩ := hv 1 y rfl
    obtain ⟨t', e3, h3⟩ := hv 2 z rfl
    injection e1 with e1
    injection e2 with e2
    injection e3 with e3
    subst e1 e2 e3
    exact ⟨_, _, _, rfl, h1, h2, h3⟩
def kSum (f g : Nat) : Con
  | [.val true [.int x l, .int y m], .val true [.int z k, .int t j], .val false [.fn h]], _ => if h == g && (canon x y && (canon z t && (decide (l ≤ 100000) && (decide (m ≤ 100000) && (decide (k ≤ 100000) && decide (j ≤ 100000)))))) then
      some (.val true [.int (.a4 (2 * f) x y z t) (l + m + k + j + 1), .int (.a4 (2 * f + 1) x y z t) (l + m + k + j + 1)]) else none
  | _, _ => none
theorem kSum_ok {E : Env} (hE : QEnv E) {f g : Nat} (hf : f < 4)
    (hc : ∀ (w : World) (v1 v2 : Value) (a b : Rat), IsRat w v1 a → IsRat w v2 b → LimQ 100000 a → LimQ 100000 b → Calls Tryz.prog 82 #[v1, v2, .func (.func g) #[] #[]] w (Ret (fun v w' => IsRat w' v (ratF f a b)) w))
    (hl : ∀ {l m k j : Nat} {a b : Rat}, Lim l a.num → Lim m (a.den : Int) → Lim k b.num → Lim j (b.den : Int) → Lim (l + m + k + j + 1) (ratF f a b).num ∧ Lim (l + m + k + j + 1) ((ratF f a b).den : Int)) :
    ConOK Tryz.prog E 82 (kSum f g) := by
  refine ⟨?_, ?_, ⟨_, Tryz.func82, by decide +kernel, by kernel_rfl⟩⟩
  · intro args As r h hG β w vs hv hlen
    unfold kSum at h
    split at h
    · rename_i x l y m z k t j g'
      split at h
      · rename_i hlo
        injection h with h
        subst h
        simp only [Bool.and_eq_true, decide_eq_true_iff, beq_iff_eq] at hlo
        obtain ⟨rfl, c1, c2, b1, b2, b3, b4⟩ := hlo
        obtain ⟨v, u, s, rfl, h1, h2, h3⟩ := args3 hv hlen
        obtain ⟨p, ep, ex1, ex2, hp, lp1, lp2⟩ := one_ratQ hE c1 h1
        obtain ⟨q, eq, ey1, ey2, hq, lq1, lq2⟩ := one_ratQ hE c2 h2
        obtain ⟨⟨l1, r1, h31, h32, h33⟩, _⟩ := h3
        simp only [Chunk.holds] at h32
        simp only [chunks] at h33
        subst h32 h33
        injection h31 with h31
        subst h31
        obtain ⟨n1, n2⟩ := hl lp1 lp2 lq1 lq2
        refine (hc w v u p q hp hq ⟨lp1.mono b1, lp2.mono b2⟩ ⟨lq1.mono b3, lq2.mono b4⟩).mono ?_
        rintro e w' ⟨v', rfl, hr, ex⟩
        have d1 : (IT.a4 (2 * f) x y z t).den E = (ratF f p q).num := by
          show fn4 (2 * f) (x.den E) (y.den E) (z.den E) (t.den E) = _
          rw [ex1, ex2, ey1, ey2, fn4_num (by omega), show 2 * f / 2 = f by omega]
        have d2 : (IT.a4 (2 * f + 1) x y z t).den E = ((ratF f p q).den : Int) := by
          show fn4 (2 * f + 1) (x.den E) (y.den E) (z.den E) (t.den E) = _
          rw [ex1, ex2, ey1, ey2, fn4_den (by omega) (by omega), show (2 * f + 1) / 2 = f by omega]
        exact ⟨_, rfl, one_pair.2 ⟨by rw [d1, d2]; exact hr, by rw [d1]; exact n1, by rw [d2]; exact n2⟩, ex⟩
      · cases h
    · cases h
  · intro args As r h x off
    unfold kSum at h
    split at h
    · split at h
      · injection h with h; subst h; intro e; cases e
      · cases h
    · cases h
theorem add_rat_calls (w : World) (v1 v2 : Value) (a b : Rat) (h1 : IsRat w v1 a) (h2 : IsRat w v2 b) (l1 : LimQ 100000 a) (l2 : LimQ 100000 b) :
    Calls Tryz.prog 36 #[v1, v2] w (Ret (fun v w' => IsRat w' v (a + b)) w) := by
  refine (walkQ2 (tab := [(82, kSum 0 83)]) (T := .leaf [(true, [.int (.a4 0 (.var 0) (.var 1) (.var 2) (.var 3)) 400001, .int (.a4 1 (.var 0) (.var 1) (.var 2) (.var 3)) 400001])])
    (.cons (kSum_ok (qE_ok _) (by omega) (fun w v1 v2 a b h1 h2 l1 l2 => sum_add_calls w v1 v2 a b h1 h2 l1 l2) (fun h1 h2 h3 h4 => LimQ.add h1 h2 h3 h4)) .nil) Tryz.func36 (by kernel_rfl) (by decide +kernel) (by decide +kernel) h1 h2 l1 l2).mono ?_
  rintro e w' ⟨β, v, rfl, hh, ex⟩
  have hp := (one_pair.1 hh).1
  have d1 : (IT.a4 0 (.var 0) (.var 1) (.var 2) (.var 3)).den (qE [a, b]) = (a + b).num := fn4_num rfl a b
  have d2 : (IT.a4 1 (.var 0) (.var 1) (.var 2) (.var 3)).den (qE [a, b]) = ((a + b).den : Int) := fn4_den rfl (by omega) a b
  rw [d1, d2] at hp
  exact ⟨v, rfl, hp, ex⟩
def kNegQ : Con
  | [.val true [.int x l, .int y m]], _ => if canon x y && (decide (l ≤ 100000) && decide (m ≤ 100000)) then some (.val true [.int (.a1 0 x) l, .int y m]) else none
  | _, _ => none
theorem kNegQ_ok {E : Env} (hE : QEnv E) {f : Nat} (hc : ∀ (w : World) (v1 : Value) (a : Rat), IsRat w v1 a → LimQ 100000 a → Calls Tryz.prog f #[v1] w (Ret (fun v w' => IsRat w' v (-a)) w))
    (hb : ∃ fn, Tryz.prog.funcs[f]? = some fn ∧ fn.name ≠ "runtime.NumGoroutine" ∧ fn.body.isNone = false) : ConOK Tryz.prog E f kNegQ := by
  refine ⟨?_, ?_, hb⟩
  · intro args As r h hG β w vs hv hlen
    unfold kNegQ at h
    split at h
    · rename_i x l y m
      split at h
      · rename_i hlo
        injection h with h
        subst h
        simp only [Bool.and_eq_true, decide_eq_true_iff] at hlo
        obtain ⟨c1, b1, b2⟩ := hlo
        obtain ⟨v, rfl, h1⟩ := args1 hv hlen
        obtain ⟨p, ep, ex1, ex2, hp, lp1, lp2⟩ := one_ratQ hE c1 h1
        refine (hc w v p hp ⟨lp1.mono b1, lp2.mono b2⟩).mono ?_
        rintro e w' ⟨v', rfl, hr, ex⟩
        have d1 : (IT.a1 0 x).den E = (-p).num := by rw [Rat.neg_num, ← ex1]; rfl
        exact ⟨_, rfl, one_pair.2 ⟨by rw [d1, ex2]; exact hr, by rw [d1]; exact lp1.neg, by rw [ex2]; exact lp2⟩, ex⟩
      · cases h
    · cases h
  · intro args As r h x off
    unfold kNegQ at h
    split at h
    · split at h
      · injection h with h; subst h; intro e; cases e
      · cases h
    · cases h
def tabR5 : List (Nat × Con) := [(17, kNegQ), (43, kQQ 0)]
theorem tabR5_ok {E : Env} (hE : QEnv E) : TabOK Tryz.prog E tabR5 :=
  .cons (kNegQ_ok hE (fun w v a h l => rneg_rat_calls w v a h l) ⟨_, Tryz.func17, by decide +kernel, by kernel_rfl⟩)
    (.cons (kQQ_ok hE (by omega) (fun w v1 v2 a b h1 h2 l1 l2 => radd_rat_calls w v1 v2 a b h1 h2 l1 l2) (fun h1 h2 h3 h4 => LimQ.add h1 h2 h3 h4) ⟨_, Tryz.func43, by decide +kernel, by kernel_rfl⟩) .nil)

end Go.Proofs.YtnejcdjakjmklaaGreatDoor
end

section
set_option maxRecDepth 100000
namespace Go.Proofs.YtnejcdjakjmklaaGreatDoor
open Go.RowKit
theorem rsub_rat_calls (w : World) (v1 v2 : Value) (a b : Rat) (h1 : IsRat w v1 a) (h2 : IsRat w v2 b) (l1 : LimQ 100000 a) (l2 : LimQ 100000 b) :
    Calls Tryz.prog 13 #[v1, v2] w (Ret (fun v w' => IsRat w' v (a - b)) w) := by
  refine (walkQ2 (T := .leaf [(true, [.int (.a4 0 (.var 0) (.var 1) (.a1 0 (.var 2)) (.var 3)) 400001, .int (.a4 1 (.var 0) (.var 1) (.a1 0 (.var 2)) (.var 3)) 400001])])
    (tabR5_ok (qE_ok _)) Tryz.func13 (by kernel_rfl) (by decide +kernel) (by decide +kernel) h1 h2 l1 l2).mono ?_
  rintro e w' ⟨β, v, rfl, hh, ex⟩
  have hp := (one_pair.1 hh).1
  have d1 : (IT.a4 0 (.var 0) (.var 1) (.a1 0 (.var 2)) (.var 3)).den (qE [a, b]) = (a - b).num := by rw [Rat.sub_eq_add_neg]; exact fn4_num rfl a (-b)
  have d2 : (IT.a4 1 (.var 0) (.var 1) (.a1 0 (.var 2)) (.var 3)).den (qE [a, b]) = ((a - b).den : Int) := by rw [Rat.sub_eq_add_neg]; exact fn4_den rfl (by omega) a (-b)
  rw [d1, d2] at hp
  exact ⟨v, rfl, hp, ex⟩

def bnd (i : Nat) : Asm := [(.le (.lit (-9223372036854775808)) (.var i), true), (.le (.var i) (.lit 9223372036854775807), true)]
def argN (i : Nat) : AV := .val false [.n .i64 (.var i)]
def I64 (n : Int) : Prop := -9223372036854775808 ≤ n ∧ n ≤ 9223372036854775807
theorem bnd_holds {E : Env} {i : Nat} (h : I64 (E.i i)) : (bnd i).holds E := by
  intro p hp
  simp only [bnd, List.mem_cons, List.not_mem_nil, or_false] at hp
  rcases hp with rfl | rfl
  · exact decide_eq_true h.1
  · exact decide_eq_true h.2
theorem walkN1 {tab : List (Nat × Con)} {f : Nat} {fn : Func} {T : Tree} {w : World} {n : Int} (ht : TabOK Tryz.prog (zE [n]) tab) (hf : Tryz.prog.funcs[f]? = some fn) (hT : funE (cfgOf tab) fn (bnd 0) [argN 0] = some T) (h4 : fn.results.toList.length ≤ 4) (hn : 1 ≤ fn.ntmps) (h : I64 n) :
    Calls Tryz.prog f #[.int .i64 n] w fun e w' => ∃ β v, e = .returned v ∧ (toAV (T.pick (zE [n]))).holds (zE [n]) β w' v ∧ Ext w w' := by
  refine fun_sound mixed (cfg_ok ht) (bnd_holds (E := zE [n]) (i := 0) h) hf h4 hT hn rfl w [.int .i64 n] rfl ?_
  intro i x hx
  match i, hx with
  | 0, hx => injection hx with hx; subst hx; exact ⟨fun _ => 0, _, rfl, one_num.2 rfl⟩
theorem walkN2 {tab : List (Nat × Con)} {f : Nat} {fn : Func} {T : Tree} {w : World} {n d : Int} (ht : TabOK Tryz.prog (zE [n, d]) tab) (hf : Tryz.prog.funcs[f]? = some fn) (hT : funE (cfgOf tab) fn (bnd 0 ++ bnd 1) [argN 0, argN 1] = some T) (h4 : fn.results.toList.length ≤ 4) (hn : 2 ≤ fn.ntmps) (h : I64 n) (k : I64 d) :
    Calls Tryz.prog f #[.int .i64 n, .int .i64 d] w fun e w' => ∃ β v, e = .returned v ∧ (toAV (T.pick (zE [n, d]))).holds (zE [n, d]) β w' v ∧ Ext w w' := by
  have hG : (bnd 0 ++ bnd 1).holds (zE [n, d]) := by
    intro p hp
    rcases List.mem_append.1 hp with hp | hp
    · exact bnd_holds (E := zE [n, d]) (i := 0) h p hp
    · exact bnd_holds (E := zE [n, d]) (i := 1) k p hp
  refine fun_sound mixed (cfg_ok ht) hG hf h4 hT hn rfl w [.int .i64 n, .int .i64 d] rfl ?_
  intro i x hx
  match i, hx with
  | 0, hx => injection hx with hx; subst hx; exact ⟨fun _ => 0, _, rfl, one_num.2 rfl⟩
  | 1, hx => injection hx with hx; subst hx; exact ⟨fun _ => 0, _, rfl, one_num.2 rfl⟩
theorem from_rat_calls (w : World) (n : Int) (h : I64 n) : Calls Tryz.prog 85 #[.int .i64 n] w (Ret (fun v w' => IsPair w' v n 1) w) := by
  refine (walkN1 (T := .leaf [(true, [.int (.var 0) 3, .int (.lit 1) 3])]) tabDiv_ok Tryz.func85 (by kernel_rfl) (by decide +kernel) (by decide +kernel) h).mono ?_
  rintro e w' ⟨β, v, rfl, hh, ex⟩
  exact ⟨v, rfl, (one_pair.1 hh).1, ex⟩
theorem rfrom_rat_calls (w : World) (n : Int) (h : I64 n) : Calls Tryz.prog 26 #[.int .i64 n] w (Ret (fun v w' => IsPair w' v n 1) w) := by
  refine (walkN1 (T := .leaf [(true, [.int (.var 0) 3, .int (.lit 1) 3])]) (tabR3_ok (q := false) (fun h => by cases h)) Tryz.func26 (by kernel_rfl) (by decide +kernel) (by decide +kernel) h).mono ?_
  rintro e w' ⟨β, v, rfl, hh, ex⟩
  exact ⟨v, rfl, (one_pair.1 hh).1, ex⟩
def inR (G : Asm) : IT → Bool
  | .lit z => decide (-9223372036854775808 ≤ z) && decide (z ≤ 9223372036854775807)
  | t => G.find (.le (.lit (-9223372036854775808)) t) == some true && G.find (.le t (.lit 9223372036854775807)) == some true
theorem inR_spec {E : Env} {G : Asm} (hG : G.holds E) {t : IT} (h : inR G t = true) : I64 (t.den E) := by
  unfold inR at h
  split at h
  · simpa [I64, IT.den] using h
  · rw [Bool.and_eq_true, beq_iff_eq, beq_iff_eq] at h
    have b1 := Asm.find_spec hG h.1
    have b2 := Asm.find_spec hG h.2
    simp only [BT.den, IT.den] at b1 b2
    exact ⟨of_decide_eq_true b1, of_decide_eq_true b2⟩
def kFromQ : Con
  | [.val false [.n .i64 t]], G => if inR G t then some (.val true [.int t 3, .int (.lit 1) 3]) else none
  | _, _ => none
theorem kFromQ_ok {E : Env} {f : Nat} (hc : ∀ (w : World) (n : Int), I64 n → Calls Tryz.prog f #[.int .i64 n] w (Ret (fun v w' => IsPair w' v n 1) w))
    (hb : ∃ fn, Tryz.prog.funcs[f]? = some fn ∧ fn.name ≠ "runtime.NumGoroutine" ∧ fn.body.isNone = false) : ConOK Tryz.prog E f kFromQ := by
  refine ⟨?_, ?_, hb⟩
  · intro args As r h hG β w vs hv hlen
    unfold kFromQ at h
    split at h
    · rename_i t
      split at h
      · rename_i hr
        injection h with h
        subst h
        have hi := inR_spec hG hr
        obtain ⟨v, rfl, h1⟩ := args1 hv hlen
        have h1' := one_num.1 h1
        subst h1'
        refine (hc w _ hi).mono ?_
        rintro e w' ⟨v', rfl, hp, ex⟩
        exact ⟨v', rfl, one_pair.2 ⟨hp, lim3 hi.1 hi.2, lim3 (z := 1) (by decide) (by decide)⟩, ex⟩
      · cases h
    · cases h
  · intro args As r h x off
    unfold kFromQ at h
    split at h
    · split at h
      · injection h with h; subst h; intro e; cases e
      · cases h
    · cases h
def tabFrac : List (Nat × Con) := (52, kMake) :: (85, kFromQ) :: tabDiv
theorem tabFrac_ok {E : Env} : TabOK Tryz.prog E tabFrac :=
  .cons (kMake_ok (fun w v u a b h k l1 l2 => make_calls w v u a b h k l1 l2) ⟨_, Tryz.func52, by decide +kernel, by kernel_rfl⟩)
    (.cons (kFromQ_ok (fun w n h => from_rat_calls w n h) ⟨_, Tryz.func85, by decide +kernel, by kernel_rfl⟩) tabDiv_ok)
theorem divInt_0 (n : Int) : Rat.divInt n 0 = 0 := by
  have := divInt_zero' n
  exact Rat.num_eq_zero.1 this
theorem frac_rat_calls (w : World) (n d : Int) (h : I64 n) (k : I64 d) : Calls Tryz.prog 38 #[.int .i64 n, .int .i64 d] w (Ret (fun v w' => IsRat w' v (Rat.divInt n d)) w) := by
  refine (walkN2 (T := .ite (.eq (.a1 1 (.var 1)) (.lit 0)) (.leaf [(true, [.int (.a2 7 (.var 0) (.var 1)) 3, .int (.a2 11 (.var 0) (.var 1)) 3])]) (.leaf [(true, [.int (.lit 0) 3, .int (.lit 1) 3])]))
    tabFrac_ok Tryz.func38 (by kernel_rfl) (by decide +kernel) (by decide +kernel) h k).mono ?_
  rintro e w' ⟨β, v, rfl, hh, ex⟩
  simp only [Tree.pick] at hh
  split at hh
  · rename_i hz
    have hd : d ≠ 0 := by
      intro e
      subst e
      have hz' : ((6 : Int) == 0) = true := hz
      cases hz'
    have hp := (one_pair.1 hh).1
    have e2 : (IT.a2 11 (.var 0) (.var 1)).den (zE [n, d]) = ((Rat.divInt n d).den : Int) := if_neg hd
    rw [e2] at hp
    exact ⟨v, rfl, hp, ex⟩
  · rename_i hz
    have hd : d = 0 := by
      refine Decidable.byContradiction fun hd => hz ?_
      show (de d == 0) = true
      unfold de
      rw [if_neg hd]
      rfl
    have hp := (one_pair.1 hh).1
    subst hd
    exact ⟨v, rfl, by rw [divInt_0]; exact hp, ex⟩
theorem rfrac_rat_calls (w : World) (n d : Int) (h : I64 n) (k : I64 d) : Calls Tryz.prog 15 #[.int .i64 n, .int .i64 d] w (Ret (fun v w' => IsRat w' v (Rat.divInt n d)) w) := by
  refine (walkN2 (T := .ite (.eq (.var 1) (.lit 0)) (.leaf [(true, [.int (.a2 7 (.lit 0) (.lit 1)) 3, .int (.a2 8 (.lit 0) (.lit 1)) 3])]) (.leaf [(true, [.int (.a2 7 (.var 0) (.var 1)) 3, .int (.a2 8 (.var 0) (.var 1)) 3])]))
    (tabR3_ok (q := false) (fun h => by cases h)) Tryz.func15 (by kernel_rfl) (by decide +kernel) (by decide +kernel) h k).mono ?_
  rintro e w' ⟨β, v, rfl, hh, ex⟩
  simp only [Tree.pick] at hh
  split at hh
  · rename_i hz
    have hd : d = 0 := eq_of_beq hz
    have hp := (one_pair.1 hh).1
    subst hd
    have e0 : Rat.divInt 0 1 = 0 := by rw [← Rat.num_eq_zero, Rat.num_divInt]; simp
    refine ⟨v, rfl, ?_, ex⟩
    rw [divInt_0, ← e0]
    exact hp
  · exact ⟨v, rfl, (one_pair.1 hh).1, ex⟩
theorem floor_rat_calls (w : World) (v1 : Value) (a : Rat) (h1 : IsRat w v1 a) (l1 : LimQ 100000 a) :
    Calls Tryz.prog 35 #[v1] w (Ret (fun v w' => IsInt w' v (dq a.num (a.den : Int))) w) := by
  refine (walkQ1 (T := .leaf [(true, [.int (.a2 4 (.var 0) (.var 1)) 100000])]) tabMul_ok Tryz.func35 (by kernel_rfl) (by decide +kernel) (by decide +kernel) h1 l1).mono ?_
  rintro e w' ⟨β, v, rfl, hh, ex⟩
  exact ⟨v, rfl, (one_int.1 hh).1, ex⟩

end Go.Proofs.YtnejcdjakjmklaaGreatDoor
end

section
set_option maxRecDepth 100000
namespace Go.Proofs.YtnejcdjakjmklaaGreatDoor
open Go.RowKit
def kCmpQ : Con
  | [.val true [.int x l, .int y m], .val true [.int z k, .int t j]], _ => if canon x y && (canon z t && (ql l && (ql m && (ql k && ql j)))) then some (.val false [.n .i64 (.a2 3 (.a2 2 x t) (.a2 2 z y))]) else none
  | _, _ => none
theorem kCmpQ_ok {E : Env} (hE : QEnv E) {f : Nat} (hc : ∀ (w : World) (v1 v2 : Value) (a b : Rat), IsRat w v1 a → IsRat w v2 b → LimQ 100000 a → LimQ 100000 b → Calls Tryz.prog f #[v1, v2] w fun e w' => e = .returned (.int .i64 (cmpZ (a.num * (b.den : Int)) (b.num * (a.den : Int)))) ∧ Ext w w')
    (hb : ∃ fn, Tryz.prog.funcs[f]? = some fn ∧ fn.name ≠ "runtime.NumGoroutine" ∧ fn.body.isNone = false) : ConOK Tryz.prog E f kCmpQ := by
  refine ⟨?_, ?_, hb⟩
  · intro args As r h hG β w vs hv hlen
    unfold kCmpQ at h
    split at h
    · rename_i x l y m z k t j
      split at h
      · rename_i hlo
        injection h with h
        subst h
        simp only [ql, Bool.and_eq_true, decide_eq_true_iff] at hlo
        obtain ⟨c1, c2, b1, b2, b3, b4⟩ := hlo
        obtain ⟨v, u, rfl, h1, h2⟩ := args2 hv hlen
        obtain ⟨p, ep, ex1, ex2, hp, lp1, lp2⟩ := one_ratQ hE c1 h1
        obtain ⟨q, eq, ey1, ey2, hq, lq1, lq2⟩ := one_ratQ hE c2 h2
        refine (hc w v u p q hp hq ⟨lp1.mono b1, lp2.mono b2⟩ ⟨lq1.mono b3, lq2.mono b4⟩).mono ?_
        rintro e w' ⟨rfl, ex⟩
        refine ⟨_, rfl, one_num.2 ?_, ex⟩
        show Value.int .i64 _ = .int .i64 (cmpZ (x.den E * t.den E) (z.den E * y.den E))
        rw [ex1, ex2, ey1, ey2]
      · cases h
    · cases h
  · intro args As r h x off
    unfold kCmpQ at h
    split at h
    · split at h
      · injection h with h; subst h; intro e; cases e
      · cases h
    · cases h

def kIIb (g : IT → IT → BT) : Con
  | [.val true [.int x _], .val true [.int y _]], _ => some (.val false [.b (g x y)])
  | _, _ => none
theorem kIIb_ok {P : Program} {E : Env} {f : Nat} {g : IT → IT → BT} (G : Int → Int → Bool) (hg : ∀ x y, (g x y).den E = G (x.den E) (y.den E))
    (hc : ∀ (w : World) (v1 v2 : Value) (z1 z2 : Int), IsInt w v1 z1 → IsInt w v2 z2 → Calls P f #[v1, v2] w (fun e w' => e = .returned (.bool (G z1 z2)) ∧ Ext w w'))
    (hb : ∃ fn, P.funcs[f]? = some fn ∧ fn.name ≠ "runtime.NumGoroutine" ∧ fn.body.isNone = false) : ConOK P E f (kIIb g) := by
  refine ⟨?_, ?_, hb⟩
  · intro args As r h hG β w vs hv hlen
    unfold kIIb at h
    split at h
    · injection h with h
      subst h
      obtain ⟨v, u, rfl, h1, h2⟩ := args2 hv hlen
      refine (hc w v u _ _ (one_int.1 h1).1 (one_int.1 h2).1).mono ?_
      rintro e w' ⟨rfl, ex⟩
      exact ⟨_, rfl, one_bool.2 (by rw [hg]), ex⟩
    · cases h
  · intro args As r h x off
    unfold kIIb at h
    split at h
    · injection h with h; subst h; intro e; cases e
    · cases h
theorem same_rat_calls (w : World) (v1 v2 : Value) (n1 d1 n2 d2 : Int) (h1 : IsPair w v1 n1 d1) (h2 : IsPair w v2 n2 d2) (l1 : Lim 100000 n1) (l1' : Lim 100000 d1) (l2 : Lim 100000 n2) (l2' : Lim 100000 d2) :
    Calls Tryz.prog 20 #[v1, v2] w fun e w' => e = .returned (.bool (n1 == n2 && d1 == d2)) ∧ Ext w w' := by
  refine (walkP2 (tab := [(28, kIIb fun x y => .eq x y)]) (T := .ite (.eq (.var 0) (.var 2)) (.leaf [(false, [.b (.eq (.var 1) (.var 3))])]) (.leaf [(false, [.b (.lit false)])]))
    (.cons (kIIb_ok (fun x y => x == y) (fun _ _ => rfl) (fun w v1 v2 z1 z2 h1 h2 => (rsame_calls w v1 v2 z1 z2 h1 h2).mono (fun e w' h => ⟨by rw [h.1]; by_cases hz : z1 = z2 <;> simp [hz], h.2⟩)) ⟨_, Tryz.func28, by decide +kernel, by kernel_rfl⟩) .nil) Tryz.func20 (by kernel_rfl) (by decide +kernel) (by decide +kernel) h1 h2 l1 l1' l2 l2').mono ?_
  rintro e w' ⟨β, v, rfl, hh, ex⟩
  simp only [Tree.pick] at hh
  split at hh
  · rename_i hz
    have := one_bool.1 hh
    subst this
    have hz' : (n1 == n2) = true := hz
    rw [hz', Bool.true_and]
    exact ⟨rfl, ex⟩
  · rename_i hz
    have := one_bool.1 hh
    subst this
    have hz' : (n1 == n2) = false := by rw [← Bool.not_eq_true]; exact hz
    rw [hz', Bool.false_and]
    exact ⟨rfl, ex⟩
def kSame : Con
  | [.val true [.int x l, .int y m], .val true [.int z k, .int t j]], _ => if ql l && (ql m && (ql k && ql j)) then some (.val false [.b (if x.beq z && y.beq t then .lit true else .and (.eq x z) (.eq y t))]) else none
  | _, _ => none
theorem kSame_ok {E : Env} : ConOK Tryz.prog E 20 kSame := by
  refine ⟨?_, ?_, ⟨_, Tryz.func20, by decide +kernel, by kernel_rfl⟩⟩
  · intro args As r h hG β w vs hv hlen
    unfold kSame at h
    split at h
    · rename_i x l y m z k t j
      split at h
      · rename_i hlo
        injection h with h
        subst h
        simp only [ql, Bool.and_eq_true, decide_eq_true_iff] at hlo
        obtain ⟨b1, b2, b3, b4⟩ := hlo
        obtain ⟨v, u, rfl, h1, h2⟩ := args2 hv hlen
        obtain ⟨p1, a1, a2⟩ := one_pair.1 h1
        obtain ⟨p2, a3, a4⟩ := one_pair.1 h2
        refine (same_rat_calls w v u _ _ _ _ p1 p2 (a1.mono b1) (a2.mono b2) (a3.mono b3) (a4.mono b4)).mono ?_
        rintro e w' ⟨rfl, ex⟩
        refine ⟨_, rfl, one_bool.2 ?_, ex⟩
        split
        · rename_i hb
          rw [Bool.and_eq_true] at hb
          rw [IT.eq_of_beq hb.1, IT.eq_of_beq hb.2]
          simp [BT.den]
        · rfl
      · cases h
    · cases h
  · intro args As r h x off
    unfold kSame at h
    split at h
    · split at h
      · injection h with h; subst h; intro e; cases e
      · cases h
    · cases h

def kDiv : Con
  | [.val true [.int x l, .int y m], .val true [.int z k, .int t j]], _ => if canon x y && (canon z t && (ql l && (ql m && (ql k && ql j)))) then
      some (.tup [(true, [.int (.a4 8 x y z t) (l + m + k + j + 1), .int (.a4 9 x y z t) (l + m + k + j + 1)]), (false, [.n .i64 (.a1 1 z)])]) else none
  | _, _ => none
theorem LimQ.div {l m k j : Nat} {a b : Rat} (h1 : Lim l a.num) (h2 : Lim m (a.den : Int)) (h3 : Lim k b.num) (h4 : Lim j (b.den : Int)) : Lim (l + m + k + j + 1) (a / b).num ∧ Lim (l + m + k + j + 1) (divD a b) := by
  unfold divD
  by_cases hb : b = 0
  · rw [if_pos hb, hb, Rat.div_def, Rat.inv_zero, Rat.mul_zero]
    exact ⟨lim_zero, lim_zero⟩
  · have hn : b.num ≠ 0 := fun e => hb (Rat.num_eq_zero.1 e)
    rw [if_neg hb, Rat.div_def]
    have e1 : Lim j b⁻¹.num := by
      refine h4.natAbs_le ?_
      rw [Rat.num_inv, Int.natAbs_mul, Int.natAbs_sign_of_ne_zero hn, Nat.one_mul]
      exact Nat.le_refl _
    have e2 : Lim k (b⁻¹.den : Int) := by
      refine h3.natAbs_le ?_
      rw [Rat.den_inv, if_neg hn]
      exact Nat.le_refl _
    obtain ⟨r1, r2⟩ := LimQ.mul h1 h2 e1 e2
    exact ⟨r1.mono (by omega), r2.mono (by omega)⟩
theorem kDiv_ok {E : Env} (hE : QEnv E) {f : Nat} (hc : ∀ (w : World) (v1 v2 : Value) (a b : Rat), IsRat w v1 a → IsRat w v2 b → LimQ 100000 a → LimQ 100000 b → Calls Tryz.prog f #[v1, v2] w (RetDiv a b w))
    (hb : ∃ fn, Tryz.prog.funcs[f]? = some fn ∧ fn.name ≠ "runtime.NumGoroutine" ∧ fn.body.isNone = false) : ConOK Tryz.prog E f kDiv := by
  refine ⟨?_, ?_, hb⟩
  · intro args As r h hG β w vs hv hlen
    unfold kDiv at h
    split at h
    · rename_i x l y m z k t j
      split at h
      · rename_i hlo
        injection h with h
        subst h
        simp only [ql, Bool.and_eq_true, decide_eq_true_iff] at hlo
        obtain ⟨c1, c2, b1, b2, b3, b4⟩ := hlo
        obtain ⟨v, u, rfl, h1, h2⟩ := args2 hv hlen
        obtain ⟨p, ep, ex1, ex2, hp, lp1, lp2⟩ := one_ratQ hE c1 h1
        obtain ⟨q, eq, ey1, ey2, hq, lq1, lq2⟩ := one_ratQ hE c2 h2
        obtain ⟨n1, n2⟩ := LimQ.div lp1 lp2 lq1 lq2
        refine (hc w v u p q hp hq ⟨lp1.mono b1, lp2.mono b2⟩ ⟨lq1.mono b3, lq2.mono b4⟩).mono ?_
        rintro e w' ⟨v', rfl, hr, ex⟩
        have d1 : (IT.a4 8 x y z t).den E = (p / q).num := by
          show fn4 8 (x.den E) (y.den E) (z.den E) (t.den E) = _
          rw [ex1, ex2, ey1, ey2]
          exact fn4_num rfl p q
        have d2 : (IT.a4 9 x y z t).den E = divD p q := by
          show fn4 9 (x.den E) (y.den E) (z.den E) (t.den E) = _
          rw [ex1, ex2, ey1, ey2]
          unfold fn4 divD
          rw [if_neg (by decide), divInt_parts, divInt_parts]
          by_cases hq : q = 0
          · rw [if_pos ⟨rfl, hq⟩, if_pos hq]
          · rw [if_neg (fun h => hq h.2), if_neg hq]; rfl
        refine ⟨_, rfl, ⟨[v', .int .i64 (de q.num)], rfl, _, _, rfl, one_pair.2 ⟨by rw [d1, d2]; exact hr, by rw [d1]; exact n1, by rw [d2]; exact n2⟩, _, _, rfl, one_num.2 ?_, rfl⟩, ex⟩
        show Value.int .i64 (de q.num) = .int .i64 (de (z.den E))
        rw [ey1]
      · cases h
    · cases h
  · intro args As r h x off
    unfold kDiv at h
    split at h
    · split at h
      · injection h with h; subst h; intro e; cases e
      · cases h
    · cases h

end Go.Proofs.YtnejcdjakjmklaaGreatDoor
end

section
set_option maxRecDepth 100000
namespace Go.Proofs.YtnejcdjakjmklaaGreatDoor
open Go.RowKit
def kZero : Con
  | [.val true [.int x l, .int y m]], _ => if decide (l ≤ 100000) && decide (m ≤ 100000) then some (.val false [.b (.and (.eq x (.lit 0)) (.eq y (.lit 0)))]) else none
  | _, _ => none
def kFrac : Con
  | [.val false [.n .i64 x], .val false [.n .i64 y]], G => if inR G x && inR G y then some (.val true [.int (.a2 7 x y) 3, .int (.a2 8 x y) 3]) else none
  | _, _ => none
theorem frac_lim {n d : Int} (h : I64 n) (k : I64 d) : Lim 3 (Rat.divInt n d).num ∧ Lim 3 ((Rat.divInt n d).den : Int) := by
  by_cases hd : d = 0
  · subst hd
    rw [divInt_0]
    exact ⟨lim_zero, lim3 (z := 1) (by decide) (by decide)⟩
  · exact divInt_lim (lim3 h.1 h.2) (lim3 k.1 k.2) hd
theorem kFrac_ok {E : Env} {f : Nat} (hc : ∀ (w : World) (n d : Int), I64 n → I64 d → Calls Tryz.prog f #[.int .i64 n, .int .i64 d] w (Ret (fun v w' => IsRat w' v (Rat.divInt n d)) w))
    (hb : ∃ fn, Tryz.prog.funcs[f]? = some fn ∧ fn.name ≠ "runtime.NumGoroutine" ∧ fn.body.isNone = false) : ConOK Tryz.prog E f kFrac := by
  refine ⟨?_, ?_, hb⟩
  · intro args As r h hG β w vs hv hlen
    unfold kFrac at h
    split at h
    · split at h
      · rename_i hr
        injection h with h
        subst h
        rw [Bool.and_eq_true] at hr
        have i1 := inR_spec hG hr.1
        have i2 := inR_spec hG hr.2
        obtain ⟨v, u, rfl, h1, h2⟩ := args2 hv hlen
        have h1' := one_num.1 h1
        have h2' := one_num.1 h2
        subst h1' h2'
        refine (hc w _ _ i1 i2).mono ?_
        rintro e w' ⟨v', rfl, hp, ex⟩
        obtain ⟨m1, m2⟩ := frac_lim i1 i2
        exact ⟨v', rfl, one_pair.2 ⟨hp, m1, m2⟩, ex⟩
      · cases h
    · cases h
  · intro args As r h x off
    unfold kFrac at h
    split at h
    · split at h
      · injection h with h; subst h; intro e; cases e
      · cases h
    · cases h
def tabQ : List (Nat × Con) :=
  
  (167, kDiv)  ::
  (36, kQQ 0)  ::
  (43, kQQ 0)  ::
  
  (13, kQQ 1)  ::
  (84, kQQ 2)  ::
  (12, kQQ 2)  ::
  (125, kNegQ)  ::
  (17, kNegQ)  ::
  (20, kSame)  ::
  
  (52, kMake)  ::
  (197, kMake)  ::
  (85, kFromQ)  ::
  (26, kFromQ)  ::
  (38, kFrac)  ::
  (15, kFrac)  ::
  []
theorem tabQ_ok {E : Env} (hE : QEnv E) : TabOK Tryz.prog E tabQ := by
  
  refine .cons (kDiv_ok hE (fun w v1 v2 a b h1 h2 l1 l2 => rdiv_rat_calls w v1 v2 a b h1 h2 l1 l2) ⟨_, Tryz.func167, by decide +kernel, by kernel_rfl⟩) ?_ 
  refine .cons (kQQ_ok hE (by omega) (fun w v1 v2 a b h1 h2 l1 l2 => add_rat_calls w v1 v2 a b h1 h2 l1 l2) (fun h1 h2 h3 h4 => LimQ.add h1 h2 h3 h4) ⟨_, Tryz.func36, by decide +kernel, by kernel_rfl⟩) ?_ 
  refine .cons (kQQ_ok hE (by omega) (fun w v1 v2 a b h1 h2 l1 l2 => radd_rat_calls w v1 v2 a b h1 h2 l1 l2) (fun h1 h2 h3 h4 => LimQ.add h1 h2 h3 h4) ⟨_, Tryz.func43, by decide +kernel, by kernel_rfl⟩) ?_ 
  
  refine .cons (kQQ_ok hE (by omega) (fun w v1 v2 a b h1 h2 l1 l2 => rsub_rat_calls w v1 v2 a b h1 h2 l1 l2) (fun h1 h2 h3 h4 => LimQ.sub h1 h2 h3 h4) ⟨_, Tryz.func13, by decide +kernel, by kernel_rfl⟩) ?_ 
  refine .cons (kQQ_ok hE (by omega) (fun w v1 v2 a b h1 h2 l1 l2 => mul_rat_calls w v1 v2 a b h1 h2 l1 l2) (fun h1 h2 h3 h4 => LimQ.mul h1 h2 h3 h4) ⟨_, Tryz.func84, by decide +kernel, by kernel_rfl⟩) ?_ 
  refine .cons (kQQ_ok hE (by omega) (fun w v1 v2 a b h1 h2 l1 l2 => rmul_rat_calls w v1 v2 a b h1 h2 l1 l2) (fun h1 h2 h3 h4 => LimQ.mul h1 h2 h3 h4) ⟨_, Tryz.func12, by decide +kernel, by kernel_rfl⟩) ?_ 
  refine .cons (kNegQ_ok hE (fun w v a h l => neg_rat_calls w v a h l) ⟨_, Tryz.func125, by decide +kernel, by kernel_rfl⟩) ?_ 
  refine .cons (kNegQ_ok hE (fun w v a h l => rneg_rat_calls w v a h l) ⟨_, Tryz.func17, by decide +kernel, by kernel_rfl⟩) ?_ 
  refine .cons kSame_ok ?_ 
  
  refine .cons (kMake_ok (fun w v u a b h k l1 l2 => make_calls w v u a b h k l1 l2) ⟨_, Tryz.func52, by decide +kernel, by kernel_rfl⟩) ?_ 
  refine .cons (kMake_ok (fun w v u a b h k l1 l2 => rmake_calls w v u a b h k l1 l2) ⟨_, Tryz.func197, by decide +kernel, by kernel_rfl⟩) ?_ 
  refine .cons (kFromQ_ok (fun w n h => from_rat_calls w n h) ⟨_, Tryz.func85, by decide +kernel, by kernel_rfl⟩) ?_ 
  refine .cons (kFromQ_ok (fun w n h => rfrom_rat_calls w n h) ⟨_, Tryz.func26, by decide +kernel, by kernel_rfl⟩) ?_ 
  refine .cons (kFrac_ok (fun w n d h k => frac_rat_calls w n d h k) ⟨_, Tryz.func38, by decide +kernel, by kernel_rfl⟩) ?_ 
  refine .cons (kFrac_ok (fun w n d h k => rfrac_rat_calls w n d h k) ⟨_, Tryz.func15, by decide +kernel, by kernel_rfl⟩) ?_ 
  exact .nil

end Go.Proofs.YtnejcdjakjmklaaGreatDoor
end

section
set_option maxRecDepth 100000
namespace Go.Proofs.YtnejcdjakjmklaaGreatDoor
open Go.RowKit
def RawQ (w : World) (v : Value) (s1 : Bool) (xs1 : List Nat) (s2 : Bool) (xs2 : List Nat) : Prop :=
  ∃ a b c d, v = .agg #[a, b, c, d] ∧ Raw w (.agg #[a, b]) s1 xs1 ∧ Raw w (.agg #[c, d]) s2 xs2
def rE (l : List (Bool × List Nat)) : Env := ⟨fun _ => 0, fun _ => false, fun i => l.getD i (false, []), fun _ => []⟩
def argRaw (i j : Nat) : AV := .val true [.raw i, .raw j]
theorem argRaw_holds {E : Env} {β : Nat → Nat} {w : World} {v : Value} {s1 s2 : Bool} {xs1 xs2 : List Nat} {i j : Nat} (h : RawQ w v s1 xs1 s2 xs2) (e1 : E.r i = (s1, xs1)) (e2 : E.r j = (s2, xs2)) : (argRaw i j).holds E β w v := by
  obtain ⟨a, b, c, d, rfl, h1, h2⟩ := h
  refine ⟨[a, b, c, d], rfl, [a, b], [c, d], rfl, ⟨a, b, rfl, ?_⟩, [c, d], [], rfl, ⟨c, d, rfl, ?_⟩, rfl⟩
  · rw [e1]; exact h1
  · rw [e2]; exact h2
def kRV : Con
  | [.val true [.raw i]], _ => some (.val false [.b (.ok i)])
  | [.val true [.int _ _]], _ => some (.val false [.b (.lit true)])
  | _, _ => none
theorem kRV_ok {E : Env} {f : Nat} (hc : ∀ (w : World) (v : Value) (s : Bool) (xs : List Nat), Raw w v s xs → Calls Tryz.prog f #[v] w fun e w' => e = .returned (.bool (okB s xs)) ∧ Ext w w')
    (hb : ∃ fn, Tryz.prog.funcs[f]? = some fn ∧ fn.name ≠ "runtime.NumGoroutine" ∧ fn.body.isNone = false) : ConOK Tryz.prog E f kRV := by
  refine ⟨?_, ?_, hb⟩
  · intro args As r h hG β w vs hv hlen
    unfold kRV at h
    split at h
    · rename_i i
      injection h with h
      subst h
      obtain ⟨v, rfl, us, rfl, l1, r1, rfl, ⟨x, y, rfl, hr⟩, hn⟩ := args1 hv hlen
      simp only [chunks] at hn
      subst hn
      refine (hc w _ _ _ hr).mono ?_
      rintro e w' ⟨rfl, ex⟩
      exact ⟨_, rfl, one_bool.2 rfl, ex⟩
    · injection h with h
      subst h
      obtain ⟨v, rfl, h1⟩ := args1 hv hlen
      obtain ⟨ao, cap, s, n, rfl, k1, k2, k3, H4, H5, H6⟩ := (one_int.1 h1).1.open_
      obtain ⟨j1, j2⟩ := isInt_raw k1 k2 k3 H6.out
      refine (hc w _ _ _ j1).mono ?_
      rintro e w' ⟨rfl, ex⟩
      exact ⟨_, rfl, one_bool.2 (by rw [j2]; rfl), ex⟩
    · cases h
  · intro args As r h x off
    unfold kRV at h
    split at h
    · injection h with h; subst h; intro e; cases e
    · injection h with h; subst h; intro e; cases e
    · cases h
def okQ (s1 : Bool) (xs1 : List Nat) (s2 : Bool) (xs2 : List Nat) : Bool :=
  okB s1 xs1 && okB s2 xs2 && decide (0 < sgn s2 (val xs2)) && decide (Nat.gcd (sgn s1 (val xs1)).natAbs (sgn s2 (val xs2)).natAbs = 1)
def tabRV : List (Nat × Con) := (78, kRV) :: (28, kIIb fun x y => .eq x y) :: (69, k0 (.lit 1) 3) :: tabR2
theorem tabRV_ok {E : Env} : TabOK Tryz.prog E tabRV :=
  .cons (kRV_ok (fun w v s xs h => rvalid_calls w v s xs h) ⟨_, Tryz.func78, by decide +kernel, by kernel_rfl⟩)
    (.cons (kIIb_ok (fun x y => x == y) (fun _ _ => rfl) (fun w v1 v2 z1 z2 h1 h2 => (rsame_calls w v1 v2 z1 z2 h1 h2).mono (fun e w' h => ⟨by rw [h.1]; by_cases hz : z1 = z2 <;> simp [hz], h.2⟩)) ⟨_, Tryz.func28, by decide +kernel, by kernel_rfl⟩)
      (.cons (k0_ok 1 rfl (fun w => unit_calls w) (lim3 (by decide) (by decide)) ⟨_, Tryz.func69, by decide +kernel, by kernel_rfl⟩) tabR2_ok))
theorem walkRaw {tab : List (Nat × Con)} {f : Nat} {fn : Func} {G : Asm} {w : World} {v : Value} {s1 s2 : Bool} {xs1 xs2 : List Nat} (ht : TabOK Tryz.prog (rE [(s1, xs1), (s2, xs2)]) tab) (hG : G.holds (rE [(s1, xs1), (s2, xs2)])) (hf : Tryz.prog.funcs[f]? = some fn)
    (hT : funE (cfgOf tab) fn G [argRaw 0 1] = some (.leaf [(false, [.b (.lit false)])])) (h4 : fn.results.toList.length ≤ 4) (hn : 1 ≤ fn.ntmps) (h : RawQ w v s1 xs1 s2 xs2) :
    Calls Tryz.prog f #[v] w fun e w' => e = .returned (.bool false) ∧ Ext w w' := by
  refine (fun_sound mixed (cfg_ok ht) hG hf h4 hT hn rfl w [v] rfl ?_).mono ?_
  · intro i x hx
    match i, hx with
    | 0, hx => injection hx with hx; subst hx; exact ⟨fun _ => 0, v, rfl, argRaw_holds h rfl rfl⟩
  · rintro e w' ⟨β, u, rfl, hh, ex⟩
    have := one_bool.1 hh
    subst this
    exact ⟨rfl, ex⟩
theorem asm1 {E : Env} {t : BT} {b : Bool} (h : t.den E = b) : Asm.holds E [(t, b)] := by
  intro p hp
  simp only [List.mem_cons, List.not_mem_nil, or_false] at hp
  subst hp
  exact h
theorem asm2 {E : Env} {t u : BT} {b c : Bool} (h : t.den E = b) (k : u.den E = c) : Asm.holds E [(t, b), (u, c)] := by
  intro p hp
  simp only [List.mem_cons, List.not_mem_nil, or_false] at hp
  rcases hp with rfl | rfl
  · exact h
  · exact k
theorem okQ_pair {w : World} {v : Value} {s1 s2 : Bool} {xs1 xs2 : List Nat} (h : RawQ w v s1 xs1 s2 xs2) (b1 : okB s1 xs1 = true) (b2 : okB s2 xs2 = true) : IsPair w v (sgn s1 (val xs1)) (sgn s2 (val xs2)) := by
  obtain ⟨a, b, c, d, rfl, h1, h2⟩ := h
  exact ⟨a, b, c, d, rfl, (okB_int h1 b1).1, (okB_int h2 b2).1⟩
theorem ok_lim {w : World} {v : Value} {s : Bool} {xs : List Nat} {k : Nat} (h : Raw w v s xs) (b : okB s xs = true) (l : xs.length ≤ k) : Lim k (sgn s (val xs)) := by
  have := (okB_int h b).2
  unfold Lim
  rw [natAbs_sgn, this]
  exact l
theorem cmp_pos (d : Int) : (cmpZ d 0 = 1) ↔ 0 < d := by
  rcases cmpZ_cases d 0 with ⟨h, e⟩ | ⟨h, e⟩ | ⟨h, e⟩ <;> rw [e] <;> omega
theorem rvalid_rat_calls (w : World) (v : Value) (s1 s2 : Bool) (xs1 xs2 : List Nat) (h : RawQ w v s1 xs1 s2 xs2) (l1 : xs1.length ≤ 100000) (l2 : xs2.length ≤ 100000) :
    Calls Tryz.prog 34 #[v] w fun e w' => e = .returned (.bool (okQ s1 xs1 s2 xs2)) ∧ Ext w w' := by
  cases b1 : okB s1 xs1 with
  | false =>
    have e0 : okQ s1 xs1 s2 xs2 = false := by unfold okQ; rw [b1]; rfl
    rw [e0]
    exact walkRaw tabRV_ok (asm1 (t := .ok 0) b1) Tryz.func34 (by kernel_rfl) (by decide +kernel) (by decide +kernel) h
  | true =>
    cases b2 : okB s2 xs2 with
    | false =>
      have e0 : okQ s1 xs1 s2 xs2 = false := by unfold okQ; rw [b1, b2]; rfl
      rw [e0]
      exact walkRaw tabRV_ok (asm2 (t := .ok 0) (u := .ok 1) b1 b2) Tryz.func34 (by kernel_rfl) (by decide +kernel) (by decide +kernel) h
    | true =>
      have hp := okQ_pair h b1 b2
      have m1 : Lim 100000 (sgn s1 (val xs1)) := by obtain ⟨a, b, c, d, rfl, h1, h2⟩ := h; exact ok_lim h1 b1 l1
      have m2 : Lim 100000 (sgn s2 (val xs2)) := by obtain ⟨a, b, c, d, rfl, h1, h2⟩ := h; exact ok_lim h2 b2 l2
      have e0 : okQ s1 xs1 s2 xs2 = (decide (0 < sgn s2 (val xs2)) && decide (Nat.gcd (sgn s1 (val xs1)).natAbs (sgn s2 (val xs2)).natAbs = 1)) := by unfold okQ; rw [b1, b2]; rfl
      rw [e0]
      generalize sgn s1 (val xs1) = n at *
      generalize sgn s2 (val xs2) = d at *
      refine (fun_sound (C := cfgOf tabRV) (E := zE [n, d]) (args := [argQ 0]) (T := .ite (.eq (.a2 3 (.var 1) (.lit 0)) (.lit 1)) (.leaf [(false, [.b (.eq (.a2 6 (.var 0) (.var 1)) (.lit 1))])]) (.leaf [(false, [.b (.lit false)])]))
        mixed (cfg_ok tabRV_ok) no_asm Tryz.func34 (by decide +kernel) (by kernel_rfl) (by decide +kernel) rfl w [v] rfl ?_).mono ?_
      · intro i x hx
        match i, hx with
        | 0, hx => injection hx with hx; subst hx; exact ⟨fun _ => 0, v, rfl, argP_holds hp m1 m2 rfl rfl⟩
      · rintro e w' ⟨β, u, rfl, hh, ex⟩
        simp only [Tree.pick] at hh
        split at hh
        · rename_i hz
          have hd : 0 < d := (cmp_pos d).1 (eq_of_beq hz)
          have := one_bool.1 hh
          subst this
          rw [decide_eq_true hd, Bool.true_and]
          refine ⟨ret_bool ?_, ex⟩
          show (((Nat.gcd n.natAbs d.natAbs : Nat) : Int) == 1) = _
          by_cases hg : Nat.gcd n.natAbs d.natAbs = 1
          · rw [decide_eq_true hg, beq_iff_eq]; omega
          · rw [decide_eq_false hg, beq_eq_false_iff_ne]; omega
        · rename_i hz
          have hd : ¬ 0 < d := fun e => hz (beq_iff_eq.2 ((cmp_pos d).2 e))
          have := one_bool.1 hh
          subst this
          rw [decide_eq_false hd, Bool.false_and]
          exact ⟨rfl, ex⟩

end Go.Proofs.YtnejcdjakjmklaaGreatDoor
end

section
set_option maxRecDepth 100000
namespace Go.Proofs.YtnejcdjakjmklaaGreatDoor
open Go.RowKit
def VEnv (E : Env) : Prop := ∀ i, i % 2 = 0 → E.b (i / 2) = okQ (E.r i).1 (E.r i).2 (E.r (i + 1)).1 (E.r (i + 1)).2
theorem one_raw2 {E : Env} {w : World} {i j : Nat} {v : Value} (h : one E w (true, [.raw i, .raw j]) v) : RawQ w v (E.r i).1 (E.r i).2 (E.r j).1 (E.r j).2 := by
  obtain ⟨us, rfl, l1, r1, rfl, ⟨x, y, rfl, h1⟩, l2, r2, rfl, ⟨z, t, rfl, h2⟩, hn⟩ := h
  simp only [chunks] at hn
  subst hn
  exact ⟨x, y, z, t, rfl, h1, h2⟩
def bE (f : Bool → List Nat → Bool → List Nat → Bool) (l : List (Bool × List Nat)) : Env :=
  ⟨fun _ => 0, fun q => f (l.getD (2 * q) (false, [])).1 (l.getD (2 * q) (false, [])).2 (l.getD (2 * q + 1) (false, [])).1 (l.getD (2 * q + 1) (false, [])).2, fun i => l.getD i (false, []), fun _ => []⟩
theorem bE_ok (l : List (Bool × List Nat)) : VEnv (bE okQ l) := by
  intro i hi
  show okQ (l.getD (2 * (i / 2)) (false, [])).1 _ _ _ = _
  rw [show 2 * (i / 2) = i by omega]
  rfl
end Go.Proofs.YtnejcdjakjmklaaGreatDoor
end

section
set_option maxRecDepth 100000
namespace Go.Proofs.YtnejcdjakjmklaaGreatDoor
open Go.RowKit
end Go.Proofs.YtnejcdjakjmklaaGreatDoor
end

section
set_option maxRecDepth 100000
namespace Go.Proofs.YtnejcdjakjmklaaGreatDoor
open Go.RowKit
end Go.Proofs.YtnejcdjakjmklaaGreatDoor
end

section
set_option maxRecDepth 100000
namespace Go.Proofs.YtnejcdjakjmklaaGreatDoor
open Go.RowKit
theorem int_raw {w : World} {v : Value} {z : Int} (h : IsInt w v z) : Raw w v (decide (z < 0)) (limbs z.natAbs) ∧ okB (decide (z < 0)) (limbs z.natAbs) = true := by
  obtain ⟨ao, cap, s, n, rfl, h1, h2, h3, H4, H5, H6⟩ := h.open_
  obtain ⟨k1, k2⟩ := isInt_raw h1 h2 h3 H6.out
  have e4 : n = z.natAbs := H4.out
  have e5 : z = sgn s n := H5.out
  have e6 := H6.out
  have es : s = decide (z < 0) := by
    cases s with
    | true => rw [eq_comm, decide_eq_true_iff, e5]; have := e6 rfl; simp [sgn]; omega
    | false => rw [eq_comm, decide_eq_false_iff_not, e5]; simp [sgn]
  rw [← e4, ← es]
  exact ⟨k1, k2⟩
end Go.Proofs.YtnejcdjakjmklaaGreatDoor
end

section
set_option maxRecDepth 100000
namespace Go.Proofs.YtnejcdjakjmklaaGreatDoor
open Go.RowKit
end Go.Proofs.YtnejcdjakjmklaaGreatDoor
end

section
set_option maxRecDepth 100000
namespace Go.Proofs.YtnejcdjakjmklaaGreatDoor
open Go.RowKit
theorem lim1 {z : Int} (h : z.natAbs < 1000000000) : Lim 1 z := limbs_len_le (by simpa using h)
end Go.Proofs.YtnejcdjakjmklaaGreatDoor
end

section
set_option maxRecDepth 100000
namespace Go.Proofs.YtnejcdjakjmklaaGreatDoor
open Go.RowKit
end Go.Proofs.YtnejcdjakjmklaaGreatDoor
end

section
set_option maxRecDepth 100000
namespace Go.Proofs.YtnejcdjakjmklaaGreatDoor
open Go.RowKit
theorem isqN_le (n : Nat) : isqN n ≤ n := Nat.le_trans (Nat.le_mul_self _) (isqN_spec n).1
theorem isq_lim {l : Nat} {z : Int} (h : Lim l z) : Lim l (isq z) := by
  refine h.natAbs_le ?_
  unfold isq
  split
  · simp
  · rw [Int.natAbs_natCast]; exact isqN_le _
def kSqI : Con
  | [.val true [.int x l]], _ => if lo l then some (.tup [(true, [.int (.a1 2 x) l]), (false, [.n .i64 (.a1 3 x)])]) else none
  | _, _ => none
theorem kSqI_ok {E : Env} : ConOK Tryz.prog E 171 kSqI := by
  refine ⟨?_, ?_, ⟨_, Tryz.func171, by decide +kernel, by kernel_rfl⟩⟩
  · intro args As r h hG β w vs hv hlen
    unfold kSqI at h
    split at h
    · split at h
      · rename_i hlo
        injection h with h
        subst h
        simp only [lo, decide_eq_true_iff] at hlo
        obtain ⟨v, rfl, h1⟩ := args1 hv hlen
        obtain ⟨i1, l1⟩ := one_int.1 h1
        refine (sqrt_any w v _ i1 (l1.mono (by omega))).mono ?_
        rintro e w' ⟨u, rfl, k1, ex⟩
        exact ⟨_, rfl, ⟨[u, .int .i64 _], rfl, u, _, rfl, one_int.2 ⟨k1, isq_lim l1⟩, _, _, rfl, one_num.2 rfl, rfl⟩, ex⟩
      · cases h
    · cases h
  · intro args As r h x off
    unfold kSqI at h
    split at h
    · split at h
      · injection h with h; subst h; intro e; cases e
      · cases h
    · cases h
def sqB (z : Int) : Bool := isqE z == 0 && cmpZ (isq z * isq z) z == 0
def kSqr : Con
  | [.val true [.int x l]], _ => if decide (l ≤ 100000) then some (.tup [(true, [.int (.a1 2 x) l]), (false, [.b (.and (.eq (.a1 3 x) (.lit 0)) (.eq (.a2 3 (.a2 2 (.a1 2 x) (.a1 2 x)) x) (.lit 0)))])]) else none
  | _, _ => none
end Go.Proofs.YtnejcdjakjmklaaGreatDoor
end

section
set_option maxRecDepth 100000
namespace Go.Proofs.YtnejcdjakjmklaaGreatDoor
open Go.RowKit
def lookN {α : Type} : List (Nat × α) → Nat → Option α
  | [], _ => none
  | p :: l, t => if p.1 == t then some p.2 else lookN l t
theorem lookN_mem {α : Type} : ∀ {l : List (Nat × α)} {t : Nat} {x : α}, lookN l t = some x → (t, x) ∈ l
  | [], _, _, h => by simp [lookN] at h
  | p :: l, t, x, h => by
    unfold lookN at h
    split at h
    · rename_i hp
      have : p.1 = t := by simpa using hp
      injection h with h
      obtain ⟨a, b⟩ := p
      simp only at this h
      subst this h
      exact List.mem_cons_self
    · exact List.mem_cons_of_mem _ (lookN_mem h)
def updI : List Nat → List Int → Nat → Option Int
  | v :: vs, z :: zs, k => if k = v then some z else updI vs zs k
  | _, _, _ => none
def Env.upd (E : Env) (vs : List Nat) (zs : List Int) : Env := { E with i := fun k => (updI vs zs k).getD (E.i k) }
theorem updI_map (f : Nat → Int) : ∀ (vs : List Nat) (k : Nat), updI vs (vs.map f) k = if k ∈ vs then some (f k) else none
  | [], k => rfl
  | v :: vs, k => by
    simp only [List.map_cons, updI, List.mem_cons]
    by_cases h : k = v
    · subst h; simp
    · rw [if_neg h, updI_map f vs k]
      simp [h]
structure LInv where
  lk : List (Nat × AV)
  vr : List (Nat × List Chunk)
  vs : List Nat
  G : Asm
  lm : List (Nat × Nat)
def LInv.st (I : LInv) : St := ⟨lookN I.lk, lookN I.vr⟩
def IT.free (vs : List Nat) : IT → Bool
  | .var i => !(vs.contains i)
  | .lit _ => true
  | .rlen _ => true
  | .slen _ => true
  | .a1 _ x => x.free vs
  | .a2 _ x y => x.free vs && y.free vs
  | .a4 _ x y z t => (x.free vs && y.free vs) && (z.free vs && t.free vs)
def ST.free (vs : List Nat) : ST → Bool
  | .lit _ => true
  | .var _ => true
  | .fmt z => z.free vs
  | .cat x y => x.free vs && y.free vs
def BT.free (vs : List Nat) : BT → Bool
  | .seq x y => x.free vs && y.free vs
  | .lit _ => true
  | .var _ => true
  | .eq x y => x.free vs && y.free vs
  | .lt x y => x.free vs && y.free vs
  | .le x y => x.free vs && y.free vs
  | .ok _ => true
  | .and x y => x.free vs && y.free vs
  | .not x => x.free vs
theorem IT.den_free {E : Env} {vs : List Nat} {zs : List Int} (_hz : zs.length = vs.length) : ∀ {t : IT}, t.free vs = true → t.den (E.upd vs zs) = t.den E := by
  have hup : ∀ (vs : List Nat) (zs : List Int) (k : Nat), k ∉ vs → updI vs zs k = none := by
    intro vs
    induction vs with
    | nil => intro zs k _; simp [updI]
    | cons v vs ih =>
      intro zs k hk
      cases zs with
      | nil => rfl
      | cons z zs =>
        simp only [updI]
        rw [if_neg (fun e => hk (by rw [e]; simp))]
        exact ih zs k (fun h => hk (by simp [h]))
  intro t
  induction t with
  | var i =>
    intro h
    simp only [IT.free, Bool.not_eq_true', List.contains_eq_mem, decide_eq_false_iff_not] at h
    simp only [IT.den, Env.upd, hup vs zs i h, Option.getD_none]
  | lit z => intro _; rfl
  | rlen i => intro _; rfl
  | slen i => intro _; rfl
  | a1 f x ih => intro h; simp only [IT.free] at h; simp only [IT.den, ih h]
  | a2 f x y ihx ihy => intro h; simp only [IT.free, Bool.and_eq_true] at h; simp only [IT.den, ihx h.1, ihy h.2]
  | a4 f x y z t ihx ihy ihz iht =>
    intro h
    simp only [IT.free, Bool.and_eq_true] at h
    simp only [IT.den, ihx h.1.1, ihy h.1.2, ihz h.2.1, iht h.2.2]
theorem ST.den_free {E : Env} {vs : List Nat} {zs : List Int} (hz : zs.length = vs.length) : ∀ {t : ST}, t.free vs = true → t.den (E.upd vs zs) = t.den E := by
  intro t
  induction t with
  | lit l => intro _; rfl
  | var i => intro _; rfl
  | fmt z => intro h; simp only [ST.free] at h; simp only [ST.den, IT.den_free hz h]
  | cat x y ihx ihy => intro h; simp only [ST.free, Bool.and_eq_true] at h; simp only [ST.den, ihx h.1, ihy h.2]
theorem BT.den_free {E : Env} {vs : List Nat} {zs : List Int} (hz : zs.length = vs.length) : ∀ {t : BT}, t.free vs = true → t.den (E.upd vs zs) = t.den E := by
  intro t
  induction t with
  | lit b => intro _; rfl
  | var i => intro _; rfl
  | ok i => intro _; rfl
  | seq x y => intro h; simp only [BT.free, Bool.and_eq_true] at h; simp only [BT.den, ST.den_free hz h.1, ST.den_free hz h.2]
  | eq x y => intro h; simp only [BT.free, Bool.and_eq_true] at h; simp only [BT.den, IT.den_free hz h.1, IT.den_free hz h.2]
  | lt x y => intro h; simp only [BT.free, Bool.and_eq_true] at h; simp only [BT.den, IT.den_free hz h.1, IT.den_free hz h.2]
  | le x y => intro h; simp only [BT.free, Bool.and_eq_true] at h; simp only [BT.den, IT.den_free hz h.1, IT.den_free hz h.2]
  | and x y ihx ihy => intro h; simp only [BT.free, Bool.and_eq_true] at h; simp only [BT.den, ihx h.1, ihy h.2]
  | not x ih => intro h; simp only [BT.free] at h; simp only [BT.den, ih h]

abbrev Sig := List (Nat × IT)
def colT (vs : List Nat) (p t : IT) (σ : Sig) : Sig :=
  match p with
  | .var i => if vs.contains i && (lookN σ i).isNone then (i, t) :: σ else σ
  | _ => σ
def colC (vs : List Nat) : Chunk → Chunk → Sig → Sig
  | .int p _, .int t _, σ => colT vs p t σ
  | .n _ p, .n _ t, σ => colT vs p t σ
  | .mag p _, .mag t _, σ => colT vs p t σ
  | _, _, σ => σ
def colCs (vs : List Nat) : List Chunk → List Chunk → Sig → Sig
  | c :: cs, d :: ds, σ => colCs vs cs ds (colC vs c d σ)
  | _, _, σ => σ
def colV (vs : List Nat) : AV → AV → Sig → Sig
  | .val _ cs, .val _ ds, σ => colCs vs cs ds σ
  | _, _, σ => σ
def colS (I : LInv) (S : St) : Sig :=
  I.vr.foldl (fun σ p => match S.var p.1 with | some ds => colCs I.vs p.2 ds σ | none => σ) (I.lk.foldl (fun σ p => match S.look p.1 with | some x => colV I.vs p.2 x σ | none => σ) [])
def okT (vs : List Nat) (σ : Sig) (p t : IT) : Bool :=
  match p with
  | .var i => if vs.contains i then (match lookN σ i with | some u => u.beq t | none => false) else t.beq (.var i)
  | p => p.free vs && p.beq t
def okL (I : LInv) (p : IT) (l m : Nat) : Bool :=
  match p with
  | .var i => if I.vs.contains i then I.lm.contains (i, l) else decide (m ≤ l)
  | _ => decide (m ≤ l)
def okC (I : LInv) (σ : Sig) : Chunk → Chunk → Bool
  | .b p, .b t => p.free I.vs && p.beq t
  | .n k p, .n j t => decide (k = j) && okT I.vs σ p t
  | .int p l, .int t m => okT I.vs σ p t && okL I p l m
  | .mag p l, .mag t m => okT I.vs σ p t && okL I p l m
  | .raw i, .raw j => i == j
  | .rmag i, .rmag j => i == j
  | .fn f, .fn g => f == g
  | .nilSlice, .nilSlice => true
  | .str s l, .str t m => s.free I.vs && (s.beq t && decide (m ≤ l))
  | _, _ => false
def okCs (I : LInv) (σ : Sig) : List Chunk → List Chunk → Bool
  | [], [] => true
  | c :: cs, d :: ds => okC I σ c d && okCs I σ cs ds
  | _, _ => false
def okV (I : LInv) (σ : Sig) : AV → AV → Bool
  | .val a cs, .val b ds => a == b && okCs I σ cs ds
  | .ptr x o, .ptr y p => (x == y && o == p) && (lookN I.vr x).isSome
  | .bad, .bad => true
  | _, _ => false
def okS (I : LInv) (σ : Sig) (S : St) : Bool :=
  (I.lk.all fun p => match S.look p.1 with | some x => okV I σ p.2 x | none => false) &&
  (I.vr.all fun p => match S.var p.1 with | some ds => okCs I σ p.2 ds && !(sizes p.2 == 0) | none => false)
def sigT (I : LInv) (σ : Sig) : List IT := I.vs.map fun i => (lookN σ i).getD (.lit 0)
def matchS (I : LInv) (S : St) : Option (List IT) := if okS I (colS I S) S then some (sigT I (colS I S)) else none
def enterL (Good : Env → Prop) (I : LInv) (ts : List IT) (E : Env) : Prop :=
  I.G.holds (E.upd I.vs (ts.map (IT.den E))) ∧ Good (E.upd I.vs (ts.map (IT.den E))) ∧ ∀ p ∈ I.lm, Lim p.2 ((E.upd I.vs (ts.map (IT.den E))).i p.1)

section
variable {E : Env} {n B : Nat} {w w0 : World} {a : Act} {I : LInv} {σ : Sig} {S : St} {ts : List IT}
theorem okT_spec (hts : ts = sigT I σ) {p t : IT} (h : okT I.vs σ p t = true) : p.den (E.upd I.vs (ts.map (IT.den E))) = t.den E := by
  have hlen : (ts.map (IT.den E)).length = I.vs.length := by rw [hts]; simp [sigT]
  have key : ∀ (q u : IT), (q.free I.vs && q.beq u) = true → q.den (E.upd I.vs (ts.map (IT.den E))) = u.den E := by
    intro q u hq
    rw [Bool.and_eq_true] at hq
    rw [IT.den_free hlen hq.1, IT.eq_of_beq hq.2]
  unfold okT at h
  split at h
  · rename_i i
    split at h
    · rename_i hi
      split at h
      · rename_i u hu
        have : ts.map (IT.den E) = I.vs.map (fun i => ((lookN σ i).getD (.lit 0)).den E) := by rw [hts]; simp [sigT, Function.comp_def]
        simp only [IT.den, Env.upd]
        rw [this, updI_map]
        rw [List.contains_iff_mem] at hi
        rw [if_pos hi]
        simp only [Option.getD_some, hu]
        rw [IT.eq_of_beq h]
      · cases h
    · rename_i hi
      refine Eq.trans ?_ (congrArg (IT.den E) (IT.eq_of_beq h).symm)
      exact IT.den_free (t := .var i) hlen (by simpa [IT.free] using hi)
  · exact key _ _ h
theorem okL_spec {Good : Env → Prop} (he : enterL Good I ts E) {p t : IT} {l m : Nat} (hp : p.den (E.upd I.vs (ts.map (IT.den E))) = t.den E) (h : okL I p l m = true) (hm : Lim m (t.den E)) : Lim l (p.den (E.upd I.vs (ts.map (IT.den E)))) := by
  unfold okL at h
  split at h
  · rename_i i
    split at h
    · rw [List.contains_iff_mem] at h
      exact he.2.2 _ h
    · rw [hp]; exact hm.mono (of_decide_eq_true h)
  · rw [hp]; exact hm.mono (of_decide_eq_true h)
theorem okC_spec {Good : Env → Prop} (hts : ts = sigT I σ) (he : enterL Good I ts E) : ∀ {c d : Chunk} {vs : List Value}, okC I σ c d = true → d.holds E w vs → c.holds (E.upd I.vs (ts.map (IT.den E))) w vs ∧ c.size = d.size := by
  intro c d vs h hd
  have hlen : (ts.map (IT.den E)).length = I.vs.length := by rw [hts]; simp [sigT]
  cases c <;> cases d <;> simp only [okC, Bool.false_eq_true, Bool.and_eq_true, beq_iff_eq, decide_eq_true_iff] at h
  · rename_i p t
    refine ⟨?_, rfl⟩
    simp only [Chunk.holds] at hd ⊢
    rw [hd, BT.den_free hlen h.1, BT.den_of_beq E h.2]
  · rename_i k p j t
    obtain ⟨rfl, h⟩ := h
    refine ⟨?_, rfl⟩
    simp only [Chunk.holds] at hd ⊢
    rw [hd, okT_spec hts h]
  · rename_i p l t m
    obtain ⟨x, y, hv, hI, hm⟩ := hd
    have hp := okT_spec (E := E) hts h.1
    exact ⟨⟨x, y, hv, by rw [hp]; exact hI, okL_spec he hp h.2 hm⟩, rfl⟩
  · subst h
    obtain ⟨x, y, hv, hR⟩ := hd
    exact ⟨⟨x, y, hv, hR⟩, rfl⟩
  · rename_i p l t m
    obtain ⟨x, hv, hI, hm⟩ := hd
    have hp := okT_spec (E := E) hts h.1
    exact ⟨⟨x, hv, by rw [hp]; exact hI, okL_spec he hp h.2 hm⟩, rfl⟩
  · subst h
    obtain ⟨x, hv, ao, c, h1, h2, h3, h4⟩ := hd
    exact ⟨⟨x, hv, ao, c, h1, h2, h3, h4⟩, rfl⟩
  · subst h; exact ⟨hd, rfl⟩
  · exact ⟨hd, rfl⟩
  · obtain ⟨h1, h2, h3⟩ := h
    refine ⟨?_, rfl⟩
    obtain ⟨hv, hl⟩ := hd
    rw [← ST.eq_of_beq h2] at hv hl
    exact ⟨by rw [ST.den_free hlen h1]; exact hv, by rw [ST.den_free hlen h1]; exact Nat.le_trans hl h3⟩
theorem okCs_spec {Good : Env → Prop} (hts : ts = sigT I σ) (he : enterL Good I ts E) : ∀ {cs ds : List Chunk} {vs : List Value}, okCs I σ cs ds = true → chunks E w ds vs → chunks (E.upd I.vs (ts.map (IT.den E))) w cs vs
  | [], [], _, _, hd => hd
  | c :: cs, d :: ds, _, h, ⟨l, r, hv, h1, h2⟩ => by
    simp only [okCs, Bool.and_eq_true] at h
    exact ⟨l, r, hv, (okC_spec hts he h.1 h1).1, okCs_spec hts he h.2 h2⟩
  | [], _ :: _, _, h, _ => by simp [okCs] at h
  | _ :: _, [], _, h, _ => by simp [okCs] at h
theorem matchS_spec {Good : Env → Prop} (h : matchS I S = some ts) (he : enterL Good I ts E) (hS : S.holds E n B w0 a w) : I.st.holds (E.upd I.vs (ts.map (IT.den E))) n B w0 a w := by
  unfold matchS at h
  split at h
  · rename_i hok
    injection h with h
    have hts := h.symm
    unfold okS at hok
    rw [Bool.and_eq_true, List.all_eq_true, List.all_eq_true] at hok
    obtain ⟨h1, h2⟩ := hok
    obtain ⟨β, hS⟩ := hS
    have hvar : ∀ x cs, I.st.var x = some cs → ∃ ds, S.var x = some ds ∧ okCs I (colS I S) cs ds = true ∧ sizes cs ≠ 0 := by
      intro x cs hx
      have := h2 _ (lookN_mem hx)
      simp only at this
      split at this
      · rename_i ds hds
        rw [Bool.and_eq_true, Bool.not_eq_true', beq_eq_false_iff_ne] at this
        exact ⟨ds, hds, this⟩
      · cases this
    refine ⟨β, fun t x hx => ?_, fun x cs hx => ?_, fun x y hx hy he => ?_, fun t x off hx => ?_, hS.sz, hS.nd, hS.hp, hS.bl, fun x cs hx => ?_⟩
    · have := h1 _ (lookN_mem hx)
      simp only at this
      split at this
      · rename_i y hy
        have hv := hS.sl t y hy
        cases x with
        | val ag cs =>
          cases y with
          | val bg ds =>
            simp only [okV, Bool.and_eq_true, beq_iff_eq] at this
            obtain ⟨rfl, hc⟩ := this
            cases ag
            · exact ⟨okCs_spec hts he hc hv.1, hv.2⟩
            · obtain ⟨us, hu, hcs⟩ := hv
              exact ⟨us, hu, okCs_spec hts he hc hcs⟩
          | _ => simp [okV] at this
        | ptr z o =>
          cases y with
          | ptr z' o' =>
            simp only [okV, Bool.and_eq_true, beq_iff_eq] at this
            obtain ⟨⟨rfl, rfl⟩, _⟩ := this
            exact hv
          | _ => simp [okV] at this
        | tup l => cases y <;> simp [okV] at this
        | bad =>
          cases y with
          | bad => exact hv
          | _ => simp [okV] at this
      · cases this
    · obtain ⟨ds, hds, hc, _⟩ := hvar x cs hx
      obtain ⟨k1, us, k2, k3⟩ := hS.vr x ds hds
      exact ⟨k1, us, okCs_spec hts he hc k2, k3⟩
    · obtain ⟨cs, hcs⟩ := Option.isSome_iff_exists.1 hx
      obtain ⟨ds, hds⟩ := Option.isSome_iff_exists.1 hy
      obtain ⟨c1, e1, _⟩ := hvar x cs hcs
      obtain ⟨c2, e2, _⟩ := hvar y ds hds
      exact hS.inj x y (by rw [e1]; rfl) (by rw [e2]; rfl) he
    · have := h1 _ (lookN_mem hx)
      simp only at this
      split at this
      · rename_i y hy
        cases y with
        | ptr z' o' =>
          simp only [okV, Bool.and_eq_true] at this
          exact this.2
        | _ => simp [okV] at this
      · cases this
    · exact (hvar x cs hx).choose_spec.2.2
  · cases h
end
inductive LTree where
  | leaf (l : List (Bool × List Chunk))
  | ite (b : BT) (t e : LTree)
  | loop (d : Nat) (I : LInv) (ts : List IT) (T : LTree)
  | again (d : Nat) (ts : List IT)
abbrev Stk := Nat → Option (LInv × LTree)
def Stk.set (K : Stk) (d : Nat) (p : LInv × LTree) : Stk := fun j => if j = d then some p else K j
inductive Run (Good : Env → Prop) : Stk → LTree → Env → Nat → Env → List (Bool × List Chunk) → Prop where
  | leaf {K l E} : Run Good K (.leaf l) E 0 E l
  | iteT {K b t e E m E' l} : b.den E = true → Run Good K t E m E' l → Run Good K (.ite b t e) E m E' l
  | iteF {K b t e E m E' l} : b.den E = false → Run Good K e E m E' l → Run Good K (.ite b t e) E m E' l
  | loop {K d I ts T E m E' l} : enterL Good I ts E → Run Good (K.set d (I, T)) T (E.upd I.vs (ts.map (IT.den E))) m E' l → Run Good K (.loop d I ts T) E m E' l
  | again {K : Stk} {d I ts T E m E' l} : K d = some (I, T) → enterL Good I ts E → Run Good K T (E.upd I.vs (ts.map (IT.den E))) m E' l → Run Good K (.again d ts) E (m + 1) E' l

def regTL (C : Cfg) (n : Nat) (l : List Oper) (drawn : Bool) (k : Asm → St → Option LTree) : Nat → Asm → St → Option LTree
  | 0, _, _ => none
  | f + 1, G, S => match regE C G n l drawn S with
    | some S' => k G S'
    | none => match needE C G n l.toArray l S with
      | some b => match regTL C n l drawn k f ((b, true) :: G) S, regTL C n l drawn k f ((b, false) :: G) S with
        | some t, some e => some (.ite b t e)
        | _, _ => none
      | none => none
def firstId : Code → Option Nat
  | .region id _ _ => some id
  | .seq a b => match firstId a with | some i => some i | none => firstId b
  | .block _ c => firstId c
  | .cond _ a b => match firstId a with | some i => some i | none => firstId b
  | .loop c => firstId c
  | _ => none
def execL (C : Cfg) (L : Nat → Option LInv) (n : Nat) : Code → Nat → (Asm → St → Ex → Option LTree) → Asm → St → Option LTree
  | .skip, _, k, G, S => k G S .norm
  | .ret, _, k, G, S => k G S .ret
  | .exit id, _, k, G, S => k G S (.exit id)
  | .region _ ops drawn, _, k, G, S => regTL C n ops.toList drawn (fun G S => k G S .norm) 64 G S
  | .seq a b, d, k, G, S => execL C L n a d (fun G S e => match e with | .norm => execL C L n b d k G S | e => k G S e) G S
  | .loop c, d, k, _, S => match (firstId c).bind L with
    | some I => match matchS I S with
      | some ts => match execL C L n c (d + 1) (fun G S e => match e with | .norm => (matchS I S).map (.again d) | e => k G S e) I.G I.st with
        | some T => some (.loop d I ts T)
        | none => none
      | none => none
    | none => none
  | .block id c, d, k, G, S => execL C L n c d (fun G S e => match e with | .exit j => if j = id then k G S .norm else k G S (.exit j) | e => k G S e) G S
  | .cond c x y, d, k, G, S => match opnd S.look c with
    | some (.val false [.b tt]) => match tt.ev G with
      | some true => execL C L n x d k G S
      | some false => execL C L n y d k G S
      | none => match tt.ev ((tt.base, true) :: G), tt.ev ((tt.base, false) :: G) with
        | some b1, some b2 =>
          match (if b1 then execL C L n x d k ((tt.base, true) :: G) S else execL C L n y d k ((tt.base, true) :: G) S), (if b2 then execL C L n x d k ((tt.base, false) :: G) S else execL C L n y d k ((tt.base, false) :: G) S) with
          | some t, some e => some (.ite tt.base t e)
          | _, _ => none
        | _, _ => none
    | _ => none
  | _, _, _, _, _ => none

section
variable {P : Program} {n B : Nat} {w0 : World} {C : Cfg} {L : Nat → Option LInv} {Good : Env → Prop} {E' : Env} {l : List (Bool × List Chunk)}
def KOK (Good : Env → Prop) (n B : Nat) (w0 : World) (E' : Env) (l : List (Bool × List Chunk)) (k : Asm → St → Ex → Option LTree) (Q : Exit → Act → World → Prop) (K : Stk) (d m : Nat) : Prop :=
  ∀ (K' : Stk) G S e T E m', m' ≤ m → (∀ j, j < d → K' j = K j) → k G S e = some T → Run Good K' T E m' E' l → G.holds E → Good E → ∀ a w, S.holds E n B w0 a w → Q e.to a w
theorem regTL_sound (hm : P.follows .mixedOrders = true) {E : Env} (hC : CfgAt P E C B w0) {id : Nat} {lo : List Oper} {drawn : Bool} {k : Asm → St → Option LTree} {Q : Exit → Act → World → Prop} {K : Stk} {m : Nat} {w : World} {a : Act} : ∀ (f : Nat) (G : Asm) (S : St) (T : LTree), G.holds E → S.holds E n B w0 a w →
    regTL C n lo drawn k f G S = some T → Run Good K T E m E' l →
    (∀ G' S' T', k G' S' = some T' → G'.holds E → Run Good K T' E m E' l → ∀ a' w', S'.holds E n B w0 a' w' → Q .normal a' w') → (Code.region id lo.toArray drawn).wp P Q a w
  | 0, _, _, _, _, _, h, _, _ => by simp [regTL] at h
  | f + 1, G, S, T, hG, hS, h, hR, hk => by
    unfold regTL at h
    split at h
    · rename_i S' hS'
      exact regE_sound hm hC hG hS hS' (fun a' w' h' => hk G S' T h hG hR a' w' h')
    · split at h
      · rename_i b hb
        split at h
        · rename_i t e ht he
          injection h with h
          subst h
          cases hR with
          | iteT hbv hR => exact regTL_sound hm hC f _ S t (asm_cons hG hbv) hS ht hR hk
          | iteF hbv hR => exact regTL_sound hm hC f _ S e (asm_cons hG hbv) hS he hR hk
        · cases h
      · cases h
theorem execL_sound (hm : P.follows .mixedOrders = true) (hC : ∀ E, Good E → CfgAt P E C B w0) : ∀ (c : Code) (d : Nat) (k : Asm → St → Ex → Option LTree) (Q : Exit → Act → World → Prop) (K : Stk) (G : Asm) (S : St) (T : LTree) (E : Env) (m : Nat) (a : Act) (w : World), G.holds E → Good E → S.holds E n B w0 a w →
    execL C L n c d k G S = some T → Run Good K T E m E' l → KOK Good n B w0 E' l k Q K d m → c.wp P Q a w := by
  intro c
  induction c with
  | skip => intro d k Q K G S T E m a w hG hE hS h hR hk; exact wp_skip (hk K G S .norm T E m (Nat.le_refl _) (fun _ _ => rfl) h hR hG hE a w hS)
  | ret => intro d k Q K G S T E m a w hG hE hS h hR hk; exact wp_ret (hk K G S .ret T E m (Nat.le_refl _) (fun _ _ => rfl) h hR hG hE a w hS)
  | exit id => intro d k Q K G S T E m a w hG hE hS h hR hk; exact wp_exit (hk K G S (.exit id) T E m (Nat.le_refl _) (fun _ _ => rfl) h hR hG hE a w hS)
  | region id ops drawn =>
    intro d k Q K G S T E m a w hG hE hS h hR hk
    have := regTL_sound (id := id) (Q := Q) hm (hC E hE) 64 G S T hG hS h hR (fun G' S' T' h1 h2 h3 a' w' h4 => hk K G' S' .norm T' E m (Nat.le_refl _) (fun _ _ => rfl) h1 h3 h2 hE a' w' h4)
    simpa using this
  | seq x y ihx ihy =>
    intro d k Q K G S T E m a w hG hE hS h hR hk
    refine wp_seq (ihx d _ _ K G S T E m a w hG hE hS h hR (fun K' G' S' e T' E1 m' hm' hK' h1 hR' hG' hE' a' w' h4 => ?_))
    cases e with
    | norm => exact ihy d k Q K' G' S' T' E1 m' a' w' hG' hE' h4 h1 hR' (fun K2 G2 S2 e2 T2 E2 m2 j1 j2 j3 j4 j5 j6 => hk K2 G2 S2 e2 T2 E2 m2 (Nat.le_trans j1 hm') (fun j hj => (j2 j hj).trans (hK' j hj)) j3 j4 j5 j6)
    | ret => exact hk K' G' S' .ret T' E1 m' hm' hK' h1 hR' hG' hE' a' w' h4
    | exit id => exact hk K' G' S' (.exit id) T' E1 m' hm' hK' h1 hR' hG' hE' a' w' h4
  | block id c ih =>
    intro d k Q K G S T E m a w hG hE hS h hR hk
    refine wp_block (ih d _ _ K G S T E m a w hG hE hS h hR (fun K' G' S' e T' E1 m' hm' hK' h1 hR' hG' hE' a' w' h4 => ?_))
    cases e with
    | norm => exact hk K' G' S' .norm T' E1 m' hm' hK' h1 hR' hG' hE' a' w' h4
    | ret => exact hk K' G' S' .ret T' E1 m' hm' hK' h1 hR' hG' hE' a' w' h4
    | exit j =>
      simp only at h1
      show (if j = id then Q .normal a' w' else Q (.exit j) a' w')
      by_cases hj : j = id
      · rw [if_pos hj] at h1 ⊢
        exact hk K' G' S' .norm T' E1 m' hm' hK' h1 hR' hG' hE' a' w' h4
      · rw [if_neg hj] at h1 ⊢
        exact hk K' G' S' (.exit j) T' E1 m' hm' hK' h1 hR' hG' hE' a' w' h4
  | loop c ih =>
    intro d k Q K G S T E m a w hG hE hS h hR hk
    simp only [execL] at h
    split at h
    · rename_i I hI
      split at h
      · rename_i ts hts
        split at h
        · rename_i T0 hT0
          injection h with h
          subst h
          cases hR with
          | loop hen hR =>
            have key : ∀ (m0 : Nat), ∀ (K1 : Stk) (E1 : Env) (a : Act) (w : World) (f : Nat), m0 ≤ m → m0 < f → K1 d = some (I, T0) → (∀ j, j < d → K1 j = K j) → I.G.holds E1 → Good E1 → I.st.holds E1 n B w0 a w → Run Good K1 T0 E1 m0 E' l → Code.rounds P c Q f a w := by
              intro m0
              induction m0 using Nat.strongRecOn with
              | ind m0 ihm =>
                intro K1 E1 a w f hm0 hf hKd hKj hG1 hE1 hS1 hR1
                match f, hf with
                | f + 1, hf =>
                  rw [rounds_succ]
                  refine ih (d + 1) _ _ K1 I.G I.st T0 E1 m0 a w hG1 hE1 hS1 hT0 hR1 (fun K' G' S' e T' E2 m' hm' hK' h1 hR' hG' hE' a' w' h4 => ?_)
                  cases e with
                  | norm =>
                    obtain ⟨ts', hts', rfl⟩ := Option.map_eq_some_iff.1 h1
                    cases hR' with
                    | again hd hen' hR2 =>
                      rename_i I2 T2 m2
                      have : K' d = some (I, T0) := (hK' d (by omega)).trans hKd
                      rw [this] at hd
                      injection hd with hd
                      injection hd with e1 e2
                      subst e1 e2
                      exact ihm m2 (by omega) K' _ a' w' f (by omega) (by omega) this (fun j hj => (hK' j (by omega)).trans (hKj j hj)) hen'.1 hen'.2.1 (matchS_spec hts' hen' h4) hR2
                  | ret => exact hk K' G' S' .ret T' E2 m' (by omega) (fun j hj => (hK' j (by omega)).trans (hKj j hj)) h1 hR' hG' hE' a' w' h4
                  | exit id => exact hk K' G' S' (.exit id) T' E2 m' (by omega) (fun j hj => (hK' j (by omega)).trans (hKj j hj)) h1 hR' hG' hE' a' w' h4
            exact wp_loop_rounds (m + 1) (key m _ _ a w (m + 1) (Nat.le_refl _) (by omega) (by simp [Stk.set]) (fun j hj => by simp [Stk.set]; omega) hen.1 hen.2.1 (matchS_spec hts hen hS) hR)
        · cases h
      · cases h
    · cases h
  | cond c x y ihx ihy =>
    intro d k Q K G S T E m a w hG hE hS h hR hk
    simp only [execL] at h
    split at h
    · rename_i tt hc
      obtain ⟨β, hS'⟩ := hS
      have hv := opnd_spec (E := E) (β := β) (w := w) hS'.sl hc
      have hSS : S.holds E n B w0 a w := ⟨β, hS'⟩
      obtain ⟨⟨l1, r1, h1, h2, h3⟩, _⟩ := hv
      simp only [Chunk.holds] at h2
      simp only [chunks] at h3
      subst h2 h3
      injection h1 with h1
      split at h
      · rename_i hev
        rw [BT.ev_spec hG hev] at h1
        exact wp_cond_true h1 (ihx d k Q K G S T E m a w hG hE hSS h hR hk)
      · rename_i hev
        rw [BT.ev_spec hG hev] at h1
        exact wp_cond_false h1 (ihy d k Q K G S T E m a w hG hE hSS h hR hk)
      · split at h
        · rename_i b1 b2 e1 e2
          split at h
          · rename_i t e ht he
            injection h with h
            subst h
            cases hR with
            | iteT hbv hR =>
              have hG2 := asm_cons hG hbv
              rw [BT.ev_spec hG2 e1] at h1
              cases b1 with
              | true => exact wp_cond_true h1 (ihx d k Q K _ S t E m a w hG2 hE hSS ht hR hk)
              | false => exact wp_cond_false h1 (ihy d k Q K _ S t E m a w hG2 hE hSS ht hR hk)
            | iteF hbv hR =>
              have hG2 := asm_cons hG hbv
              rw [BT.ev_spec hG2 e2] at h1
              cases b2 with
              | true => exact wp_cond_true h1 (ihx d k Q K _ S e E m a w hG2 hE hSS he hR hk)
              | false => exact wp_cond_false h1 (ihy d k Q K _ S e E m a w hG2 hE hSS he hR hk)
          · cases h
        · cases h
    · cases h
  | _ => intro d k Q K G S T E m a w hG hE hS h hR hk; simp [execL] at h

def noStk : Stk := fun _ => none
end
end Go.Proofs.YtnejcdjakjmklaaGreatDoor
end

section
set_option maxRecDepth 100000
namespace Go.Proofs.YtnejcdjakjmklaaGreatDoor
open Go.RowKit Go.Shelf
def laysM145_ren : Go.Shelf.Ren := ⟨fun | 145 => 46 | 220 => 93 | 219 => 146 | 217 => 180 | 225 => 181 | 224 => 182 | 267 => 183 | 266 => 204 | 314 => 205 | n => n, fun | 9 => 9 | 4 => 4 | 59 => 65 | 3 => 3 | 5 => 5 | 46 => 115 | 146 => 152 | 51 => 97 | n => n, fun | 1 => 0 | n => n⟩
theorem laysM145 : Go.Proofs.LaysM.n145 Tryz.prog laysM145_ren := {
  mixed := by kernel_rfl
  f145 := Tryz.func46.trans (congrArg some (by kernel_rfl))
  f217 := Tryz.func180.trans (congrArg some (by kernel_rfl))
  f219 := Tryz.func146.trans (congrArg some (by kernel_rfl))
  f220 := Tryz.func93.trans (congrArg some (by kernel_rfl))
  f224 := Tryz.func182.trans (congrArg some (by kernel_rfl))
  f225 := Tryz.func181.trans (congrArg some (by kernel_rfl))
  f266 := Tryz.func204.trans (congrArg some (by kernel_rfl))
  f267 := Tryz.func183.trans (congrArg some (by kernel_rfl))
  f314 := Tryz.func205.trans (congrArg some (by kernel_rfl))
  t3 := Tryz.underlying3
  a3 := Tryz.isAgg3
  z3 := Tryz.sizeOf3
  v3 := Tryz.zeroValue3
  t4 := Tryz.underlying4
  a4 := Tryz.isAgg4
  z4 := Tryz.sizeOf4
  v4 := Tryz.zeroValue4
  t5 := Tryz.underlying5
  a5 := Tryz.isAgg5
  z5 := Tryz.sizeOf5
  v5 := Tryz.zeroValue5
  t9 := Tryz.underlying9
  a9 := Tryz.isAgg9
  z9 := Tryz.sizeOf9
  v9 := Tryz.zeroValue9
  t46 := Tryz.underlying115
  a46 := Tryz.isAgg115
  z46 := Tryz.sizeOf115
  v46 := Tryz.zeroValue115
  t51 := Tryz.underlying97
  a51 := Tryz.isAgg97
  z51 := Tryz.sizeOf97
  v51 := Tryz.zeroValue97
  t59 := Tryz.underlying65
  a59 := Tryz.isAgg65
  z59 := Tryz.sizeOf65
  v59 := Tryz.zeroValue65
  t146 := Tryz.underlying152
  a146 := Tryz.isAgg152
  z146 := Tryz.sizeOf152
  v146 := Tryz.zeroValue152
  g1 := by kernel_rfl
  i3 := by kernel_rfl
  i4 := by kernel_rfl
  i5 := by kernel_rfl
  i9 := by kernel_rfl
  i46 := by kernel_rfl
  i51 := by kernel_rfl
  i59 := by kernel_rfl
  i146 := by kernel_rfl
  m1 := by kernel_rfl
  s1_3 := fun w h => Go.Proofs.cell_of_shapedOpen_int (zero := #[.int .i64 0]) (t := 3) h (of_decide_eq_true (by kernel_rfl)) (by kernel_rfl) rfl (by kernel_rfl) (by kernel_rfl) Tryz.underlying3 }


def WM (w : World) : Prop := ∃ m, w.cell? ⟨0, 0, none⟩ = some (.int .i64 m)
theorem WM.ext {w w' : World} (h : WM w) (e : Ext w w') : WM w' := by
  obtain ⟨m, hm⟩ := h
  exact ⟨m, e.cell hm⟩
theorem WM.shaped {w : World} (h : w.ShapedOpen Tryz.prog) : WM w := laysM145.s1_3 w h
theorem cutS_calls (w : World) (hW : WM w) (s sep : ByteArray) (hs : s.size < 4294967281) :
    Calls Tryz.prog 46 #[.string s, .string sep] w fun e w' => e = .returned (.tuple #[.string ⟨(Lib.cut s.data.toList sep.data.toList).1.toArray⟩, .string ⟨(Lib.cut s.data.toList sep.data.toList).2.1.toArray⟩, .bool (Lib.cut s.data.toList sep.data.toList).2.2]) ∧ Ext w w' := by
  obtain ⟨m, hm⟩ := hW
  refine (Any.strings_Cut { laysM145 with } s sep m w hs hm).mono ?_
  rintro e w' ⟨h1, n, rfl⟩
  exact ⟨h1, (Ext.refl w).drewN n⟩
structure ConW (P : Program) (W : World → Prop) (E : Env) (f : Nat) (k : Con) : Prop where
  calls : ∀ args G r, k args G = some r → G.holds E → ∀ (β : Nat → Nat) (w : World) (vs : List Value), W w → (∀ (i : Nat) (x : AV), args[i]? = some x → ∃ v, vs[i]? = some v ∧ x.holds E β w v) → vs.length = args.length →
    Calls P f vs.toArray w (fun e w' => ∃ v, e = .returned v ∧ r.holds E β w' v ∧ Ext w w')
  nptr : ∀ args G r, k args G = some r → ∀ x off, r ≠ .ptr x off
  body : ∃ fn, P.funcs[f]? = some fn ∧ fn.name ≠ "runtime.NumGoroutine" ∧ fn.body.isNone = false
theorem ConOK.toW {P : Program} {W : World → Prop} {E : Env} {f : Nat} {k : Con} (h : ConOK P E f k) : ConW P W E f k :=
  ⟨fun args G r hr hG β w vs _ hv hl => h.calls args G r hr hG β w vs hv hl, h.nptr, h.body⟩
structure TabW (P : Program) (W : World → Prop) (E : Env) (l : List (Nat × Con)) : Prop where
  all : ∀ p ∈ l, ConW P W E p.1 p.2
theorem TabW.nil {P : Program} {W : World → Prop} {E : Env} : TabW P W E [] := ⟨fun p h => by simp at h⟩
theorem TabW.cons {P : Program} {W : World → Prop} {E : Env} {f : Nat} {k : Con} {l : List (Nat × Con)} (h : ConW P W E f k) (t : TabW P W E l) : TabW P W E ((f, k) :: l) := ⟨fun p hp => by
  rcases List.mem_cons.1 hp with rfl | hp
  · exact h
  · exact t.all p hp⟩
theorem TabOK.toW {P : Program} {W : World → Prop} {E : Env} {l : List (Nat × Con)} (h : TabOK P E l) : TabW P W E l := ⟨fun p hp => (h.all p hp).toW⟩
def cfgW (W : World → Prop) (tab : List (Nat × Con)) : Cfg := { cfgOf tab with wok := W }
theorem cfgW_ok {E : Env} {W : World → Prop} {tab : List (Nat × Con)} (h : TabW Tryz.prog W E tab) : CfgOK Tryz.prog E (cfgW W tab) := by
  have k : CfgOK Tryz.prog E (cfgOf []) := cfg_ok .nil
  refine ⟨k.zero, k.ag, k.fld, k.flds, k.bool, k.row, k.arr, ?_, ?_, ?_, k.slc, k.strT, k.cnv, k.apd, k.eq2, k.fty⟩
  · intro f args M G r hr hG β w vs hwk hv hlen hm
    obtain ⟨kk, hk, hkr⟩ := tabE_mem hr
    exact (h.all _ hk).calls args G r hkr hG β w vs hwk hv hlen
  · intro f args M G r hr x off
    obtain ⟨kk, hk, hkr⟩ := tabE_mem hr
    exact (h.all _ hk).nptr args G r hkr x off
  · intro f args M G r hr
    obtain ⟨kk, hk, hkr⟩ := tabE_mem hr
    exact (h.all _ hk).body

end Go.Proofs.YtnejcdjakjmklaaGreatDoor
end

section
set_option maxRecDepth 100000
namespace Go.Proofs.YtnejcdjakjmklaaGreatDoor
open Go.RowKit
def digB (c : UInt8) : Bool := decide (48 ≤ c.toNat) && decide (c.toNat ≤ 57)
def dv (l : List UInt8) : Nat := l.foldl (fun v c => v * 10 + (c.toNat - 48)) 0
def numB (l : List UInt8) : Bool := !l.isEmpty && (!(l.headD 0 == 48 && decide (1 < l.length)) && l.all digB)
theorem dv_snoc (l : List UInt8) (c : UInt8) : dv (l ++ [c]) = dv l * 10 + (c.toNat - 48) := by unfold dv; rw [List.foldl_append]; rfl
theorem dv_append (l r : List UInt8) : dv (l ++ r) = dv l * 10 ^ r.length + dv r := by
  induction r generalizing l with
  | nil => simp [dv]
  | cons c r ih =>
    have e1 : l ++ c :: r = (l ++ [c]) ++ r := by simp
    have e2 : dv (c :: r) = dv [c] * 10 ^ r.length + dv r := ih [c]
    rw [e1, ih, dv_snoc, e2, List.length_cons, Nat.pow_succ]
    have e3 : dv [c] = c.toNat - 48 := by simp [dv]
    rw [e3, Nat.add_mul, Nat.mul_assoc, Nat.mul_comm 10]
    omega
theorem dv_lt {l : List UInt8} (h : l.all digB = true) : dv l < 10 ^ l.length := by
  induction l with
  | nil => simp [dv]
  | cons c r ih =>
    simp only [List.all_cons, Bool.and_eq_true] at h
    have h1 := ih h.2
    have h2 := h.1
    unfold digB at h2
    rw [Bool.and_eq_true, decide_eq_true_iff, decide_eq_true_iff] at h2
    have e2 : dv (c :: r) = dv [c] * 10 ^ r.length + dv r := dv_append [c] r
    have e3 : dv [c] = c.toNat - 48 := by simp [dv]
    have h4 : (c.toNat - 48) * 10 ^ r.length ≤ 9 * 10 ^ r.length := Nat.mul_le_mul_right _ (by omega)
    rw [e2, e3, List.length_cons, Nat.pow_succ]
    omega
theorem bytes_len (s : ByteArray) : s.data.toList.length = s.size := Array.length_toList
theorem bytes_take (s : ByteArray) (k : Nat) (h : k < s.size) : s.data.toList.take (k + 1) = s.data.toList.take k ++ [s[k]] := by
  rw [List.take_succ_eq_append_getElem (by rw [bytes_len]; exact h)]; rfl
theorem bytes_all (s : ByteArray) : s.data.toList.take s.size = s.data.toList := List.take_of_length_le (by rw [bytes_len]; omega)

set_option maxRecDepth 100000 in
set_option maxHeartbeats 800000 in
theorem groupValue_calls (w : World) (s : ByteArray) (hs : s.size ≤ 9) (hd : s.data.toList.all digB = true) :
    Calls Tryz.prog 152 #[.string s] w fun e w' => e = .returned (.int .u32 (dv s.data.toList : Nat)) ∧ w = w' := by
  have HD := Lib.hid hd
  clear hd
  go_enter Tryz.func152, Tryz.ntmps152
  go_wp2
  go_loop [3, 7] (fun v i => ∃ k : Nat, k ≤ s.size ∧ i = .int .i64 k ∧ v = .int .u32 (dv (s.data.toList.take k) : Nat)) (fun _ i => s.size - (intOf i).toNat)
  case atStart => exact ⟨0, Nat.zero_le _, rfl, rfl⟩
  case round =>
    obtain ⟨k, hk, rfl, rfl⟩ := hrel
    by_cases hlt : k < s.size
    · have ht := bytes_take s k hlt
      have hall : (s.data.toList.take (k + 1)).all digB = true := by
        refine List.all_eq_true.2 (fun x hx => ?_)
        exact List.all_eq_true.1 HD.out x (List.mem_of_mem_take hx)
      rw [ht, List.all_append, Bool.and_eq_true] at hall
      have hb := dv_lt hall.1
      have hdc : digB s[k] = true := by simpa using hall.2
      unfold digB at hdc
      rw [Bool.and_eq_true, decide_eq_true_iff, decide_eq_true_iff] at hdc
      have hsn := dv_snoc (s.data.toList.take k) s[k]
      rw [← ht] at hsn
      rw [List.length_take, Nat.min_eq_left (by rw [bytes_len]; omega)] at hb
      have hb2 : dv (s.data.toList.take k) < 100000000 := Nat.lt_of_lt_of_le hb (by
        have := Nat.pow_le_pow_right (n := 10) (by omega) (show k ≤ 8 by omega)
        omega)
      generalize dv (s.data.toList.take k) = V at *
      obtain ⟨c, hc⟩ : ∃ c, c = s[k].toNat := ⟨_, rfl⟩
      rw [← hc] at hdc hsn
      have HS := Lib.hid hsn
      have HC := Lib.hid hc
      clear ht hall hb hsn hc
      go_wp2
      go_round
      case rel =>
        refine ⟨k + 1, by omega, by go_num, ?_⟩
        rw [HS.out, ← HC.out]
        congr 1
        omega
      case measure => simp [intOf]; omega
    · have e : k = s.size := by omega
      subst e
      have HA := bytes_all s
      go_wp2
      go_ret
      exact ⟨rfl, rfl⟩

set_option maxRecDepth 100000 in
set_option maxHeartbeats 1600000 in
theorem isNumeral_calls (w : World) (s : ByteArray) (hs : s.size ≤ 9223372036854775807) :
    Calls Tryz.prog 151 #[.string s] w fun e w' => e = .returned (.bool (numB s.data.toList)) ∧ w = w' := by
  rcases Nat.eq_zero_or_pos s.size with h0 | h0
  · have hl : s.data.toList = [] := List.eq_nil_of_length_eq_zero (by rw [bytes_len]; exact h0)
    have HR := Lib.hid (show numB s.data.toList = false by rw [hl]; rfl)
    have e1 : s.toList = [] := by rw [ByteArray.toList_eq, hl]
    have e2 : s.toList.isEmpty = true := by rw [e1]; rfl
    clear hl
    go_enter Tryz.func151, Tryz.ntmps151
    go_wp2
    go_ret
    exact ⟨by rw [HR.out]; rfl, rfl⟩
  · obtain ⟨c, r, hl⟩ : ∃ c r, s.data.toList = c :: r := by
      cases hh : s.data.toList with
      | nil => have := bytes_len s; rw [hh] at this; simp at this; omega
      | cons c r => exact ⟨c, r, rfl⟩
    have hc0 : s[0] = c := by
      have : s.data.toList[0]'(by rw [hl]; simp) = c := by simp [hl]
      exact this
    have hrl : r.length + 1 = s.size := by rw [← bytes_len, hl, List.length_cons]
    have hne : s.toList.isEmpty = false := by rw [ByteArray.toList_eq, hl]; rfl
    have hne2 : (!s.toList.isEmpty) = true := by rw [hne]; rfl
    have hne3 : ¬ s.toList = [] := by rw [ByteArray.toList_eq, hl]; simp
    by_cases hz : c.toNat = 48 ∧ 1 < s.size
    · have HR : Hid (numB s.data.toList = false) := by
        unfold Hid numB
        rw [hl]
        have : c = 48 := UInt8.toNat_inj.1 hz.1
        subst this
        have : 0 < r.length := by omega
        simp [this]
      have f0 : ((s[0].toNat : Int) == 48) = true := by rw [hc0]; simp [hz.1]
      have f1 : (1 : Int) < (s.size : Int) := by omega
      clear hl hc0 hz hrl
      go_enter Tryz.func151, Tryz.ntmps151
      go_wp2
      go_ret
      exact ⟨by rw [HR.out]; rfl, rfl⟩
    · have HR : Hid (numB s.data.toList = s.data.toList.all digB) := by
        unfold Hid numB
        rw [hl]
        have : ((c :: r).headD 0 == 48 && decide (1 < (c :: r).length)) = false := by
          rw [Bool.and_eq_false_iff]
          by_cases h1 : c.toNat = 48
          · right
            rw [decide_eq_false_iff_not, List.length_cons]
            omega
          · left
            simp only [List.headD_cons, beq_eq_false_iff_ne]
            intro e
            subst e
            exact h1 rfl
        rw [this]
        rfl
      have body : ∀ W, (W = w) → True := fun _ _ => trivial
      have f0 : ¬ 1 < s.size → True := fun _ => trivial
      clear body f0
      have hcut : ((s[0].toNat : Int) == 48) = true ∧ ¬ (1 : Int) < (s.size : Int) ∨ ((s[0].toNat : Int) == 48) = false := by
        rw [hc0]
        by_cases h1 : c.toNat = 48
        · left; exact ⟨by rw [beq_iff_eq]; omega, by omega⟩
        · right; rw [beq_eq_false_iff_ne]; omega
      clear hl hc0 hz hrl
      rcases hcut with ⟨f0, f1⟩ | f0
      all_goals
        go_enter Tryz.func151, Tryz.ntmps151
        go_wp2
        clear f0
        go_loop [3, 18] (fun _ i => ∃ k : Nat, k ≤ s.size ∧ i = .int .i64 k ∧ Hid ((s.data.toList.take k).all digB = true)) (fun _ i => s.size - (intOf i).toNat)
        case atStart => exact ⟨0, Nat.zero_le _, rfl, rfl⟩
        case round =>
          obtain ⟨k, hk, rfl, HK⟩ := hrel
          by_cases hlt : k < s.size
          · have ht := bytes_take s k hlt
            have HT : Hid ((s.data.toList.take (k + 1)).all digB = digB s[k]) := by
              unfold Hid; rw [ht, List.all_append, HK.out]; simp
            have HD : Hid (digB s[k] = false → s.data.toList.all digB = false) := by
              intro hd
              rw [List.all_eq_false]
              refine ⟨s[k], ?_, by rw [hd]; simp⟩
              exact List.getElem_mem (l := s.data.toList) (by rw [bytes_len]; exact hlt)
            have HE : Hid (digB s[k] = (decide (48 ≤ s[k].toNat) && decide (s[k].toNat ≤ 57))) := rfl
            clear ht
            by_cases d1 : s[k].toNat < 48
            · have g1 : (s[k].toNat : Int) < 48 := by omega
              have HF := Lib.hid (HD.out (by rw [HE.out, decide_eq_false (by omega)]; rfl))
              clear d1
              go_wp2
              go_ret
              exact ⟨by rw [HR.out, HF.out]; rfl, rfl⟩
            · have g1 : ¬ (s[k].toNat : Int) < 48 := by omega
              by_cases d2 : 57 < s[k].toNat
              · have g2 : (57 : Int) < (s[k].toNat : Int) := by omega
                have HF := Lib.hid (HD.out (by rw [HE.out, decide_eq_false (p := s[k].toNat ≤ 57) (by omega), Bool.and_false]))
                clear d1 d2
                go_wp2
                go_ret
                exact ⟨by rw [HR.out, HF.out]; rfl, rfl⟩
              · have g2 : ¬ (57 : Int) < (s[k].toNat : Int) := by omega
                have HF := Lib.hid (show digB s[k] = true by rw [HE.out, decide_eq_true (by omega), decide_eq_true (by omega)]; rfl)
                clear d1 d2
                go_wp2
                go_round
                case rel => exact ⟨k + 1, by omega, by go_num, HT.out.trans HF.out⟩
                case measure => simp [intOf]; omega
          · have e : k = s.size := by omega
            subst e
            have HA : Hid (s.data.toList.all digB = true) := by have := HK.out; rw [bytes_all] at this; exact this
            go_wp2
            go_ret
            exact ⟨by rw [HR.out, HA.out]; rfl, rfl⟩

end Go.Proofs.YtnejcdjakjmklaaGreatDoor
end

section
set_option maxRecDepth 100000
namespace Go.Proofs.YtnejcdjakjmklaaGreatDoor
open Go.RowKit Go.Shelf
def laysM288_ren : Go.Shelf.Ren := ⟨fun | 288 => 141 | 283 => 162 | 284 => 163 | 285 => 164 | 286 => 165 | 129 => 193 | 317 => 192 | 318 => 194 | 319 => 195 | 320 => 196 | 337 => 211 | 338 => 212 | n => n, fun | 37 => 95 | 53 => 88 | 3 => 3 | 4 => 4 | 9 => 9 | 171 => 142 | 0 => 0 | 173 => 145 | 212 => 166 | 51 => 97 | 5 => 5 | 20 => 20 | 213 => 167 | 46 => 115 | 232 => 189 | 233 => 190 | n => n, fun | 17 => 1 | 18 => 4 | 19 => 5 | n => n⟩
theorem laysM288 : Go.Proofs.LaysM.n288 Tryz.prog laysM288_ren := {
  mixed := by kernel_rfl
  f129 := Tryz.func193.trans (congrArg some (by kernel_rfl))
  f283 := Tryz.func162.trans (congrArg some (by kernel_rfl))
  f284 := Tryz.func163.trans (congrArg some (by kernel_rfl))
  f285 := Tryz.func164.trans (congrArg some (by kernel_rfl))
  f286 := Tryz.func165.trans (congrArg some (by kernel_rfl))
  f288 := Tryz.func141.trans (congrArg some (by kernel_rfl))
  f317 := Tryz.func192.trans (congrArg some (by kernel_rfl))
  f318 := Tryz.func194.trans (congrArg some (by kernel_rfl))
  f319 := Tryz.func195.trans (congrArg some (by kernel_rfl))
  f320 := Tryz.func196.trans (congrArg some (by kernel_rfl))
  f337 := Tryz.func211.trans (congrArg some (by kernel_rfl))
  f338 := Tryz.func212.trans (congrArg some (by kernel_rfl))
  t0 := Tryz.underlying0
  a0 := Tryz.isAgg0
  z0 := Tryz.sizeOf0
  v0 := Tryz.zeroValue0
  t3 := Tryz.underlying3
  a3 := Tryz.isAgg3
  z3 := Tryz.sizeOf3
  v3 := Tryz.zeroValue3
  t4 := Tryz.underlying4
  a4 := Tryz.isAgg4
  z4 := Tryz.sizeOf4
  v4 := Tryz.zeroValue4
  t5 := Tryz.underlying5
  a5 := Tryz.isAgg5
  z5 := Tryz.sizeOf5
  v5 := Tryz.zeroValue5
  t9 := Tryz.underlying9
  a9 := Tryz.isAgg9
  z9 := Tryz.sizeOf9
  v9 := Tryz.zeroValue9
  t20 := Tryz.underlying20
  a20 := Tryz.isAgg20
  z20 := Tryz.sizeOf20
  v20 := Tryz.zeroValue20
  t37 := Tryz.underlying95
  a37 := Tryz.isAgg95
  z37 := Tryz.sizeOf95
  v37 := Tryz.zeroValue95
  t46 := Tryz.underlying115
  a46 := Tryz.isAgg115
  z46 := Tryz.sizeOf115
  v46 := Tryz.zeroValue115
  t51 := Tryz.underlying97
  a51 := Tryz.isAgg97
  z51 := Tryz.sizeOf97
  v51 := Tryz.zeroValue97
  t53 := Tryz.underlying88
  a53 := Tryz.isAgg88
  z53 := Tryz.sizeOf88
  v53 := Tryz.zeroValue88
  t171 := Tryz.underlying142
  a171 := Tryz.isAgg142
  z171 := Tryz.sizeOf142
  v171 := Tryz.zeroValue142
  t173 := Tryz.underlying145
  a173 := Tryz.isAgg145
  z173 := Tryz.sizeOf145
  v173 := Tryz.zeroValue145
  t212 := Tryz.underlying166
  a212 := Tryz.isAgg166
  z212 := Tryz.sizeOf166
  v212 := Tryz.zeroValue166
  t213 := Tryz.underlying167
  a213 := Tryz.isAgg167
  z213 := Tryz.sizeOf167
  t232 := Tryz.underlying189
  a232 := Tryz.isAgg189
  z232 := Tryz.sizeOf189
  v232 := Tryz.zeroValue189
  t233 := Tryz.underlying190
  a233 := Tryz.isAgg190
  z233 := Tryz.sizeOf190
  v233 := Tryz.zeroValue190
  g17 := by kernel_rfl
  g18 := by kernel_rfl
  g19 := by kernel_rfl
  i0 := by kernel_rfl
  i3 := by kernel_rfl
  i4 := by kernel_rfl
  i5 := by kernel_rfl
  i9 := by kernel_rfl
  i20 := by kernel_rfl
  i37 := by kernel_rfl
  i46 := by kernel_rfl
  i51 := by kernel_rfl
  i53 := by kernel_rfl
  i171 := by kernel_rfl
  i173 := by kernel_rfl
  i212 := by kernel_rfl
  i232 := by kernel_rfl
  i233 := by kernel_rfl
  m17 := by kernel_rfl
  m18 := by kernel_rfl
  m19 := by kernel_rfl }


def pad : Nat → Nat → List UInt8
  | 0, _ => []
  | k + 1, r => pad k (r / 10) ++ [UInt8.ofNat (48 + r % 10)]
theorem pad_length : ∀ (k r : Nat), (pad k r).length = k
  | 0, _ => rfl
  | k + 1, r => by simp [pad, pad_length k]
theorem dec_pad (q : Nat) (hq : 0 < q) : ∀ (k r : Nat), r < 10 ^ k → Lib.decDigits (q * 10 ^ k + r) = Lib.decDigits q ++ pad k r
  | 0, r, h => by
    have : r = 0 := by simpa using h
    subst this
    simp [pad]
  | k + 1, r, h => by
    have h10 : (10 : Nat) ^ (k + 1) = 10 * 10 ^ k := by rw [Nat.pow_succ, Nat.mul_comm]
    have hk : 0 < 10 ^ k := Nat.pow_pos (by omega)
    have e : q * 10 ^ (k + 1) + r = 10 * (q * 10 ^ k) + r := by rw [h10, Nat.mul_left_comm]
    have hge : 1 ≤ q * 10 ^ k := Nat.mul_pos hq hk
    rw [e, Lib.decDigits, dif_neg (by omega), show (10 * (q * 10 ^ k) + r) / 10 = q * 10 ^ k + r / 10 by omega, show (10 * (q * 10 ^ k) + r) % 10 = r % 10 by omega, dec_pad q hq k (r / 10) (by rw [h10] at h; omega)]
    rw [pad, List.append_assoc]
def groups : List Nat → List UInt8
  | [] => []
  | x :: xs => groups xs ++ pad 9 x
theorem dec_limbs (t : Nat) (ht : 0 < t) : ∀ (xs : List Nat), Dig xs → Lib.decDigits (val (xs ++ [t])) = Lib.decDigits t ++ groups xs
  | [], _ => by simp [val, groups]
  | x :: xs, h => by
    have hx := h.head
    have ih := dec_limbs t ht xs h.tail
    have hp : 0 < val (xs ++ [t]) := by
      have : 0 < val (xs ++ [t]) ∨ val (xs ++ [t]) = 0 := by omega
      rcases this with h | h
      · exact h
      · exfalso
        have h1 : val (xs ++ [t]) = val xs + 1000000000 ^ xs.length * val [t] := val_append xs [t]
        have h2 : 0 < 1000000000 ^ xs.length * val [t] := Nat.mul_pos (Nat.pow_pos (by omega)) (by simp [val]; omega)
        omega
    have e : val ((x :: xs) ++ [t]) = val (xs ++ [t]) * 10 ^ 9 + x := by
      show x + 1000000000 * val (xs ++ [t]) = _
      rw [show (10 : Nat) ^ 9 = 1000000000 from rfl]
      omega
    rw [e, dec_pad _ hp 9 x hx, ih, groups, List.append_assoc]
def WT (w : World) : Prop := Lib.TabIs Tryz.prog w "internal/strconv.uint64pow10" .u64 Lib.pow10Tab
theorem WT.ext {w w' : World} (h : WT w) (e : Ext w w') : WT w' := Lib.tabBelow_of_tabIs h w' e
theorem appendUint_calls (w : World) (hW : WT w) (B n u : Nat) (h0 : 0 < u) (hu : u < 1000000000) (sv : Value) (xs : List Value) (hown : w.ownsRow B 5 1 sv n xs) (hB : B ≤ w.heap.size) (hl : n + 20 ≤ 140737488355328) :
    Calls Tryz.prog 87 #[sv, .int .u64 u, .int .i64 10] w fun e w' => ∃ v', e = .returned v' ∧ w'.ownsRow B 5 1 v' (n + (Lib.decDigits u).length) (xs ++ Lib.byteCells (Lib.decDigits u)) ∧ Below B w w' := by
  have key : Calls Tryz.prog 141 #[sv, .int .u64 u, .int .i64 10] w fun e w' => ∃ v', e = .returned v' ∧ w'.ownsRow B 5 1 v' (n + (Lib.decDigits u).length) (xs ++ Lib.byteCells (Lib.decDigits u)) ∧ Below B w w' := by
    rcases Nat.lt_or_ge u 100 with h | h
    · refine (Any.internal_strconv_AppendUint_10_small laysM288 B n u h sv xs w hown hB hl).mono ?_
      rintro e w' ⟨v', h1, h2, h3, _⟩
      exact ⟨v', h1, h2, h3⟩
    · refine (Any.internal_strconv_AppendUint_10_big laysM288 B n u h (by omega) sv xs w hown hB hl hW).mono ?_
      rintro e w' ⟨v', h1, h2, h3, _⟩
      exact ⟨v', h1, h2, h3⟩
  have HK := Lib.hid key
  clear key
  go_enter Tryz.func87, Tryz.ntmps87
  go_wp2_with fail
  refine HK.out.mono ?_
  rintro e w' ⟨v', rfl, h1, h2⟩
  go_wp2
  go_ret
  exact ⟨v', rfl, h1, h2⟩

theorem info_u8 : (Tryz.prog.info? 5).map (fun i => (i.zero, i.size, i.bytes)) = some (some (.int .u8 0), 1, 1) := by kernel_rfl
theorem pad_cell (m : Nat) : Value.int .u8 (((UInt8.ofNat (48 + m % 10)).toNat : Nat) : Int) = .int .u8 (48 + (m : Int) % 10) := by
  rw [UInt8.toNat_ofNat', show (48 + m % 10) % 2 ^ 8 = 48 + m % 10 by omega]
  congr 1
theorem pad_cells (x : Nat) : (#[Value.int .u8 (48 + (x : Int) / 10 / 10 / 10 / 10 / 10 / 10 / 10 / 10 % 10), .int .u8 (48 + (x : Int) / 10 / 10 / 10 / 10 / 10 / 10 / 10 % 10), .int .u8 (48 + (x : Int) / 10 / 10 / 10 / 10 / 10 / 10 % 10), .int .u8 (48 + (x : Int) / 10 / 10 / 10 / 10 / 10 % 10), .int .u8 (48 + (x : Int) / 10 / 10 / 10 / 10 % 10), .int .u8 (48 + (x : Int) / 10 / 10 / 10 % 10), .int .u8 (48 + (x : Int) / 10 / 10 % 10), .int .u8 (48 + (x : Int) / 10 % 10), .int .u8 (48 + (x : Int) % 10)] : Array Value) = (Lib.byteCells (pad 9 x)).toArray := by
  simp only [pad, Lib.byteCells, List.map_cons, List.map_nil, pad_cell, List.nil_append, List.cons_append]
  rfl

set_option maxRecDepth 100000 in
set_option maxHeartbeats 6400000 in
theorem appendGroup_calls (w : World) (B n x : Nat) (hx : x < 1000000000) (sv : Value) (xs : List Value) (hown : w.ownsRow B 5 1 sv n xs) (hB : B ≤ w.heap.size) (hl : n + 20 ≤ 140737488355328) :
    Calls Tryz.prog 88 #[sv, .int .u32 x] w fun e w' => ∃ v', e = .returned v' ∧ w'.ownsRow B 5 1 v' (n + 9) (xs ++ Lib.byteCells (pad 9 x)) ∧ Below B w w' := by
  obtain ⟨i0, hi, hz0, hz1, hz2⟩ := info_parts info_u8
  have hown' := hown.alloc (.cells (Lib.byteCells (pad 9 x)).toArray 129)
  have hcl : (Lib.byteCells (pad 9 x)).length = 9 := by rw [Lib.byteCells_length, pad_length]
  have hc : ∀ j u, (Lib.byteCells (pad 9 x))[j]? = some u → (w.alloc (.cells (Lib.byteCells (pad 9 x)).toArray 129)).cell? ((⟨w.heap.size, 0, none⟩ : Addr).add j) = some u := by
    intro j u hj
    rw [Lib.add_plain, Nat.zero_add]
    have hh : (w.alloc (.cells (Lib.byteCells (pad 9 x)).toArray 129)).heap[w.heap.size]? = some (.cells (Lib.byteCells (pad 9 x)).toArray 129 (0, 0)) := heap_alloc_new w _
    simp only [World.cell?, hh]
    simpa using hj
  have HC := Lib.hid hc
  have HP := Lib.hid (pad_cells x)
  have HO := Lib.hid hown'
  have HL := Lib.hid hcl
  clear hown hown' hcl hc
  go_enter Tryz.func88, Tryz.ntmps88
  go_wp2
  refine wp_loop_rounds 10 ?_
  rw [rounds_succ]
  go_wp2
  rw [rounds_succ]
  go_wp2
  rw [rounds_succ]
  go_wp2
  rw [rounds_succ]
  go_wp2
  rw [rounds_succ]
  go_wp2
  rw [rounds_succ]
  go_wp2
  rw [rounds_succ]
  go_wp2
  rw [rounds_succ]
  go_wp2
  rw [rounds_succ]
  go_wp2
  rw [rounds_succ, HP.out]
  obtain ⟨W, hW⟩ : ∃ W, W = w.alloc (.cells (Lib.byteCells (pad 9 x)).toArray 129) := ⟨_, rfl⟩
  rw [← hW] at HC HO ⊢
  have hB2 : B ≤ W.heap.size := by rw [hW]; simp; omega
  have hbel : Below B w W := by rw [hW]; exact (Below.refl _ _).alloc hB _
  have HW := Lib.hid hW
  clear hW HP
  go_wp2_with (at_builtin; refine wpList_append_own _ rfl _ _ 95 rfl B 5 i0 (.int .u8 0) 1 1 Tryz.underlying95 hi hz0 hz1 hz2 rfl (by decide) _ _ _ rfl HO.out ⟨w.heap.size, 0, none⟩ 9 9 (Lib.byteCells (pad 9 x)) rfl HL.out HC.out ?c2 ?c3 ?c4 hB2 ?_)
  case c2 => intro u' hu'; simp only [Lib.byteCells, List.mem_map] at hu'; obtain ⟨b, _, rfl⟩ := hu'; rfl
  case c3 => unfold maxLen; omega
  case c4 => omega
  intro v' w1 hown1 hgrow _
  go_wp2
  go_ret
  exact ⟨v', rfl, hown1, hbel.grown hgrow hB2 (fun k hk => (HO.out.lt k hk).1)⟩

theorem run_mkb (c : Nat) (hc : c ≤ 1000000) (C : Int) (hC : C = c) (w : World) :
    (Instr.makeSlice 95 (.int .i64 0) (.int .i64 C)).run Tryz.prog w = .ok (.slice (some ⟨w.heap.size, 0, none⟩) 0 c) (w.alloc (.cells (madeCells #[Value.int .u8 0] c) 5)) := by
  subst hC
  obtain ⟨i, hi, hzz⟩ := Option.map_eq_some_iff.1 info_u8
  simp only [Prod.mk.injEq] at hzz
  obtain ⟨hz, hs, hb⟩ := hzz
  have hr := run_make (P := Tryz.prog) w 95 5 i (.int .u8 0) Tryz.underlying95 hi hz .i64 .i64 0 (c : Int) (by omega) (by omega) (by rw [hb]; omega) (by omega)
  have e : (Value.int .u8 0).cells = #[Value.int .u8 0] := rfl
  rw [e, hs] at hr
  simpa using hr
def FmtRel (B : Nat) (W : World) (k : Nat) (sv : Value) (l : List UInt8) (wr : World) : Prop :=
  wr.ownsRow B 5 1 sv l.length (Lib.byteCells l) ∧ Below B W wr ∧ B ≤ wr.heap.size ∧ Hid (l.length + 9 * k ≤ 1000000)
theorem groups_drop (xs : List Nat) (k : Nat) (h : k < xs.length) : groups (xs.drop k) = groups (xs.drop (k + 1)) ++ pad 9 (xs.getD k 0) := by
  rw [List.drop_eq_getElem_cons h, groups, List.getD_eq_getElem?_getD, List.getElem?_eq_getElem h]
  rfl
theorem FmtRel.step {B : Nat} {W wr w' : World} {k : Nat} {sv v' : Value} {l m : List UInt8} (h : FmtRel B W (k + 1) sv l wr) (hm : m.length = 9) (ho : w'.ownsRow B 5 1 v' (l.length + 9) (Lib.byteCells l ++ Lib.byteCells m)) (hb : Below B wr w') : FmtRel B W k v' (l ++ m) w' := by
  obtain ⟨h1, h2, h3, h4⟩ := h
  refine ⟨?_, h2.trans hb, Nat.le_trans h3 hb.size, ?_⟩
  · rw [Lib.byteCells_append, List.length_append, hm]; exact ho
  · unfold Hid; have := h4.out; rw [List.length_append, hm]; omega
theorem FmtRel.text {B : Nat} {W wr : World} {k : Nat} {sv : Value} {l : List UInt8} (h : FmtRel B W k sv l wr) (hl : 0 < l.length) : (convert 95 9 sv).run Tryz.prog wr = .ok (.string ⟨l.toArray⟩) wr := by
  obtain ⟨h1, _⟩ := h
  rcases h1.2 with ⟨rfl, h0⟩ | ⟨g, cap, cur, rfl, hg, hh, hnc, hcm, _, htk⟩
  · omega
  · refine run_convert_bytes_back wr 95 9 5 ⟨g, 0, none⟩ cap l Tryz.underlying95 Tryz.underlying5 Tryz.underlying9 (fun j hj => ?_)
    refine h1.cells rfl j _ ?_
    simp [Lib.byteCells, hj]

set_option maxRecDepth 100000 in
set_option maxHeartbeats 6400000 in
theorem format_calls (w : World) (hW : WT w) (v : Value) (z : Int) (h : IsInt w v z) (l : Lim 100000 z) :
    Calls Tryz.prog 40 #[v] w fun e w' => e = .returned (.string ⟨(Lib.itoa z).toArray⟩) ∧ Ext w w' := by
  obtain ⟨ao, cap, s, n, rfl, h1, h2, h3, H4, H5, H6⟩ := h.open_
  obtain ⟨W, hWW, eW, c0, c1⟩ := box1 w (.bool s) (.slice ao (limbs n).length cap) 24
  rcases Nat.eq_zero_or_pos n with h0 | h0
  · subst h0
    have hz : z = 0 := by have h5 := H5.out; cases s <;> simpa [sgn] using h5
    subst hz
    have HR : Hid (Lib.itoa 0 = [48]) := by unfold Hid; exact (Lib.itoa_nonneg 0).trans (Lib.decDigits_one (by omega))
    rw [limbs_zero] at h1 c1 hWW
    clear H4 H5 H6 l h h3
    go_enter Tryz.func40, Tryz.ntmps40
    go_wp2
    go_ret
    exact ⟨by rw [HR.out]; rfl, (Ext.refl w).alloc _⟩
  · have hl : (limbs n).length ≤ 100000 := by unfold Lim at l; rw [← H4.out] at l; exact l
    have hlp : 0 < (limbs n).length := limbs_pos h0
    obtain ⟨b, off, rfl, hcell⟩ := h3.at_ hlp
    obtain ⟨xs, hxs⟩ : ∃ xs, xs = limbs n := ⟨_, rfl⟩
    have hdig : Dig xs := by rw [hxs]; exact dig_limbs n
    have hlast : xs.getD (xs.length - 1) 0 ≠ 0 := by rw [hxs]; exact limbs_last n (fun e => by rw [e] at hlp; simp at hlp)
    have hval : val xs = n := by rw [hxs]; exact val_limbs n
    rw [← hxs] at hl hlp hcell h1 c1 hWW h3 ⊢
    obtain ⟨L, hL⟩ : ∃ L, L + 1 = xs.length := ⟨xs.length - 1, by omega⟩
    obtain ⟨t, ht⟩ : ∃ t, t = xs.getD L 0 := ⟨_, rfl⟩
    have ht0 : 0 < t := by rw [ht]; have := hlast; rw [show xs.length - 1 = L by omega] at this; omega
    have ht9 : t < 1000000000 := by
      rw [ht]
      exact hdig L
    obtain ⟨lows, hlows⟩ : ∃ lows, lows = xs.take L := ⟨_, rfl⟩
    have hll : lows.length = L := by rw [hlows, List.length_take]; omega
    have hsplit : xs = lows ++ [t] := by
      rw [hlows, ht]
      conv => lhs; rw [← List.take_append_drop L xs]
      congr 1
      rw [List.drop_eq_getElem_cons (by omega), List.getD_eq_getElem?_getD, List.getElem?_eq_getElem (by omega), List.drop_eq_nil_of_le (by omega)]
      rfl
    have hdl : Dig lows := by rw [hlows]; exact hdig.take L
    have hdec : Lib.decDigits n = Lib.decDigits t ++ groups lows := by rw [← hval, hsplit]; exact dec_limbs t ht0 lows hdl
    have htop : W.cell? ⟨b, off + L, none⟩ = some (.int .u32 (t : Int)) := by rw [ht]; exact eW.cell (hcell L (by omega))
    have hlow : ∀ k, k < L → W.cell? ⟨b, off + k, none⟩ = some (.int .u32 ((lows.getD k 0 : Nat) : Int)) := by
      intro k hk
      rw [hlows, List.getD_eq_getElem?_getD, List.getElem?_take, if_pos hk, ← List.getD_eq_getElem?_getD]
      exact eW.cell (hcell k (by omega))
    have HLow := Lib.hid hlow
    have HTop := Lib.hid htop
    have HDec := Lib.hid hdec
    have HDig : Hid (∀ k x, x = lows.getD k 0 → x < 1000000000) := fun k x hx => by rw [hx]; exact hdl k
    have HLL := Lib.hid hll
    have hln : (lows.getD 0 0 : Nat) = lows.getD 0 0 := rfl
    have hWs : W.heap.size = w.heap.size + 1 := by rw [← hWW]; simp
    have HZ : Hid (Lib.itoa z = (if s = true then [45] else []) ++ Lib.decDigits n) := by
      unfold Hid
      have h5 := H5.out
      cases s
      · have : z = (n : Int) := h5
        subst this
        rw [Lib.itoa_nonneg]; rfl
      · have : z = -(n : Int) := h5
        subst this
        rw [Lib.itoa_neg n h0]; rfl
    have hLI : (xs.length : Int) = (L : Int) + 1 := by omega
    have hlb : (L : Int) ≤ 100000 := by omega
    have hbig : ∀ (t' : Nat), t' < 1000000000 → (Lib.decDigits t').length ≤ 20 := by
      intro t' h'
      rw [Lib.decDigits_length]
      by_cases h1 : t' = 0
      · subst h1; rw [Lib.nDigits_small (by omega)]; omega
      · have := Lib.numDigits_eq t' (by omega) (by omega)
        split at this <;> omega
    have HDl := Lib.hid (hbig t ht9)
    have HWT : Hid (WT W) := hW.ext eW
    have hlen1 : xs.length = L + 1 := hL.symm
    rw [hlen1] at c1 hWW h1 ⊢
    have hmk := run_mkb (1 + (L + 1) * 9) (by omega) (1 + ((L : Int) + 1) * 9) (by omega)
    have HC := Lib.hid (And.intro c0 c1)
    have HWs := Lib.hid hWs
    have Ht9 := Lib.hid (And.intro ht0 ht9)
    clear H4 H5 H6 l h h3 hcell hlast hval hdig hdl hsplit hdec htop hlow hll hlows ht hxs hbig hWs hln hlen1 hLI hL hl hlp ht0 ht9
    have hp : 0 < L + 1 := by omega
    have hbt := HTop.out
    have hlt : w.heap.size < W.heap.size := by have := HWs.out; omega
    have hblt : b < W.heap.size := lt_of_cell hbt
    have htI : (t : Int) ≤ 999999999 := by have := Ht9.out.2; omega
    obtain ⟨i0, hi, hz0, hz1, hz2⟩ := info_parts info_u8
    have hHI := Lib.hid hi
    have hH0 := Lib.hid hz0
    have hH1 := Lib.hid hz1
    have hH2 := Lib.hid hz2
    clear hi hz0 hz1 hz2
    have hB := Nat.le_refl W.heap.size
    have hown0 := World.ownsRow_made (base := W.heap.size) (e := 5) (size := 1) W (madeCells #[Value.int .u8 0] (1 + (L + 1) * 9)) (1 + (L + 1) * 9) hB (by unfold maxLen; omega) (by rw [size_madeCells, Nat.mul_one])
    have HO := Lib.hid hown0
    clear hown0 hB
    have hwt1 : WT (W.alloc (.cells (madeCells #[Value.int .u8 0] (1 + (L + 1) * 9)) 5)) := HWT.out.ext ((Ext.refl W).alloc _)
    have HW1 := Lib.hid hwt1
    clear hwt1
    cases s
    · go_enter Tryz.func40, Tryz.ntmps40
      go_wp2_with fail
      have hHZ : Hid (Lib.itoa z = [] ++ Lib.decDigits n) := by unfold Hid; rw [HZ.out]; rfl
      refine (appendUint_calls _ HW1.out W.heap.size 0 t Ht9.out.1 Ht9.out.2 _ [] HO.out (by simp) (by omega)).mono ?_
      rintro e w1 ⟨v1, rfl, hown1, hb1⟩
      have hF : FmtRel W.heap.size W L v1 ([] ++ Lib.decDigits t) w1 := by
        refine ⟨by rw [Nat.zero_add] at hown1; exact hown1, ((Below.refl _ _).alloc (Nat.le_refl _) _).trans hb1, Nat.le_trans (by simp) hb1.size, ?_⟩
        unfold Hid
        have := HDl.out
        simp only [List.nil_append]
        omega
      have HF := Lib.hid hF
      clear hF hown1 hb1 HZ htI
      obtain ⟨pre, hpre⟩ : ∃ pre : List UInt8, pre = [] := ⟨_, rfl⟩
      rw [← hpre] at HF hHZ
      clear hpre
      go_wp2_with fail
      go_loopw [4, 5] (fun tx i wr => ∃ k : Nat, k ≤ L ∧ i = .int .i64 ((k : Int) - 1) ∧ FmtRel W.heap.size W k tx (pre ++ Lib.decDigits t ++ groups (lows.drop k)) wr) (fun _ i _ => (intOf i + 1).toNat)
      case atStart => exact ⟨L, Nat.le_refl _, by go_num, by rw [List.drop_of_length_le (by have := HLL.out; omega), groups, List.append_nil]; exact HF.out⟩
      case round =>
        obtain ⟨k, hk, rfl, hR⟩ := hrel
        rcases k with _ | k
        · have htx := hR.text (by rw [List.length_append, List.length_append, Lib.decDigits_length]; have := Lib.nDigits_pos t; omega)
          have HE : Hid (Ext w wr) := by
            unfold Hid
            exact eW.trans hR.2.1
          have HRR := Lib.hid hR
          clear hR
          go_wp2
          go_ret
          refine ⟨?_, HE.out⟩
          rw [hHZ.out, HDec.out, ← List.append_assoc]
          rfl
        · have hk2 : k < L := by omega
          have hcx := hR.2.1.cell (p := ⟨b, off + k, none⟩) hblt
          rw [HLow.out k hk2] at hcx
          have c02 := hR.2.1.cell (p := ⟨w.heap.size, 0, none⟩) hlt
          have c12 := hR.2.1.cell (p := ⟨w.heap.size, 1, none⟩) hlt
          rw [c0] at c02
          rw [c1] at c12
          obtain ⟨x, hx⟩ : ∃ x, x = lows.getD k 0 := ⟨_, rfl⟩
          rw [← hx] at hcx
          have hx9 : x < 1000000000 := HDig.out k x hx
          have hgr := groups_drop lows k (by have := HLL.out; omega)
          rw [← hx] at hgr
          have HG := Lib.hid hgr
          have HRR := Lib.hid hR
          have HX := Lib.hid hx9
          have hkb : k < L + 1 := by omega
          have hkI : ((k + 1 : Nat) : Int) - 1 = (k : Int) := by omega
          rw [hkI]
          clear hR hgr hx hx9 hkI
          go_wp2_with fail
          refine (appendGroup_calls _ W.heap.size _ x HX.out _ _ HRR.out.1 HRR.out.2.2.1 (by have := HRR.out.2.2.2.out; omega)).mono ?_
          rintro e w2 ⟨v2, rfl, hown2, hb2⟩
          have HS : Hid (FmtRel W.heap.size W k v2 (pre ++ Lib.decDigits t ++ groups (lows.drop k)) w2) := by
            unfold Hid
            rw [HG.out, ← List.append_assoc]
            exact HRR.out.step (pad_length _ _) hown2 hb2
          clear hown2 hb2 c02 c12 hcx
          go_wp2
          go_roundw
          case rel => exact ⟨k, by omega, by go_num, HS.out⟩
          case measure => simp [intOf]
    · go_enter Tryz.func40, Tryz.ntmps40
      have hHZ : Hid (Lib.itoa z = [45] ++ Lib.decDigits n) := by unfold Hid; rw [HZ.out]; rfl
      have hnews : ∀ j u, [Value.int .u8 45][j]? = some u → ((W.alloc (.cells (madeCells #[Value.int .u8 0] (1 + (L + 1) * 9)) 5)).alloc (.cells #[Value.int .u8 45] 5)).cell? ((⟨W.heap.size + 1, 0, none⟩ : Addr).add j) = some u := by
        intro j u hj
        match j, hj with
        | 0, hj => injection hj with hj; subst hj; simp [Addr.add]
      have HN := Lib.hid hnews
      clear hnews
      go_wp2_with (at_builtin; refine wpList_append_own _ rfl _ _ 95 rfl W.heap.size 5 i0 (.int .u8 0) 1 1 Tryz.underlying95 hHI.out hH0.out hH1.out hH2.out rfl (by decide) _ 0 [] rfl (HO.out.alloc _) ⟨W.heap.size + 1, 0, none⟩ 1 1 [.int .u8 45] rfl rfl HN.out (by intro u' hu'; simp only [List.mem_singleton] at hu'; subst hu'; rfl) (by unfold maxLen; omega) (by omega) (by simp; omega) ?_)
      intro v0 w0 hown1 hgrow _
      have hb0 : Below W.heap.size W w0 := (((Below.refl _ _).alloc (Nat.le_refl _) _).alloc (by simp) _).grown hgrow (by simp; omega) (fun k hk => by simp [Value.ownBlock] at hk; omega)
      have c02 := hb0.cell (p := ⟨w.heap.size, 0, none⟩) hlt
      have c12 := hb0.cell (p := ⟨w.heap.size, 1, none⟩) hlt
      have ct2 := hb0.cell (p := ⟨b, off + L, none⟩) hblt
      rw [c0] at c02
      rw [c1] at c12
      rw [hbt] at ct2
      have HB0 := Lib.hid hb0
      have HO1 := Lib.hid hown1
      have HW2 : Hid (WT w0) := Lib.tabBelow_of_tabIs HWT.out w0 hb0
      clear hown1 hgrow hb0
      go_wp2_with fail
      refine (appendUint_calls _ HW2.out W.heap.size 1 t Ht9.out.1 Ht9.out.2 _ [.int .u8 45] HO1.out HB0.out.size (by omega)).mono ?_
      rintro e w1 ⟨v1, rfl, hown1, hb1⟩
      have hF : FmtRel W.heap.size W L v1 ([45] ++ Lib.decDigits t) w1 := by
        refine ⟨?_, HB0.out.trans hb1, Nat.le_trans HB0.out.size hb1.size, ?_⟩
        · rw [Lib.byteCells_append, List.length_append]; exact hown1
        · unfold Hid
          have := HDl.out
          simp only [List.length_append, List.length_cons, List.length_nil]
          omega
      have HF := Lib.hid hF
      clear hF hown1 hb1 HZ htI
      obtain ⟨pre, hpre⟩ : ∃ pre : List UInt8, pre = [45] := ⟨_, rfl⟩
      rw [← hpre] at HF hHZ
      clear hpre c02 c12 ct2
      go_wp2_with fail
      go_loopw [4, 5] (fun tx i wr => ∃ k : Nat, k ≤ L ∧ i = .int .i64 ((k : Int) - 1) ∧ FmtRel W.heap.size W k tx (pre ++ Lib.decDigits t ++ groups (lows.drop k)) wr) (fun _ i _ => (intOf i + 1).toNat)
      case atStart => exact ⟨L, Nat.le_refl _, by go_num, by rw [List.drop_of_length_le (by have := HLL.out; omega), groups, List.append_nil]; exact HF.out⟩
      case round =>
        obtain ⟨k, hk, rfl, hR⟩ := hrel
        rcases k with _ | k
        · have htx := hR.text (by rw [List.length_append, List.length_append, Lib.decDigits_length]; have := Lib.nDigits_pos t; omega)
          have HE : Hid (Ext w wr) := by
            unfold Hid
            exact eW.trans hR.2.1
          have HRR := Lib.hid hR
          clear hR
          go_wp2
          go_ret
          refine ⟨?_, HE.out⟩
          rw [hHZ.out, HDec.out, ← List.append_assoc]
          rfl
        · have hk2 : k < L := by omega
          have hcx := hR.2.1.cell (p := ⟨b, off + k, none⟩) hblt
          rw [HLow.out k hk2] at hcx
          have c02 := hR.2.1.cell (p := ⟨w.heap.size, 0, none⟩) hlt
          have c12 := hR.2.1.cell (p := ⟨w.heap.size, 1, none⟩) hlt
          rw [c0] at c02
          rw [c1] at c12
          obtain ⟨x, hx⟩ : ∃ x, x = lows.getD k 0 := ⟨_, rfl⟩
          rw [← hx] at hcx
          have hx9 : x < 1000000000 := HDig.out k x hx
          have hgr := groups_drop lows k (by have := HLL.out; omega)
          rw [← hx] at hgr
          have HG := Lib.hid hgr
          have HRR := Lib.hid hR
          have HX := Lib.hid hx9
          have hkb : k < L + 1 := by omega
          have hkI : ((k + 1 : Nat) : Int) - 1 = (k : Int) := by omega
          rw [hkI]
          clear hR hgr hx hx9 hkI
          go_wp2_with fail
          refine (appendGroup_calls _ W.heap.size _ x HX.out _ _ HRR.out.1 HRR.out.2.2.1 (by have := HRR.out.2.2.2.out; omega)).mono ?_
          rintro e w2 ⟨v2, rfl, hown2, hb2⟩
          have HS : Hid (FmtRel W.heap.size W k v2 (pre ++ Lib.decDigits t ++ groups (lows.drop k)) w2) := by
            unfold Hid
            rw [HG.out, ← List.append_assoc]
            exact HRR.out.step (pad_length _ _) hown2 hb2
          clear hown2 hb2 c02 c12 hcx
          go_wp2
          go_roundw
          case rel => exact ⟨k, by omega, by go_num, HS.out⟩
          case measure => simp [intOf]

end Go.Proofs.YtnejcdjakjmklaaGreatDoor
end

section
set_option maxRecDepth 100000
namespace Go.Proofs.YtnejcdjakjmklaaGreatDoor
open Go.RowKit Go.Shelf
def ren103 : Go.Shelf.Ren := ⟨fun | 103 => 45 | 210 => 92 | 206 => 145 | n => n, fun | 9 => 9 | 4 => 4 | 24 => 39 | 3 => 3 | n => n, fun | n => n⟩
theorem lays103 : Go.Proofs.Lays.n103 Tryz.prog ren103 := {
  mixed := by kernel_rfl
  f103 := Tryz.func45.trans (congrArg some (by kernel_rfl))
  f206 := Tryz.func145.trans (congrArg some (by kernel_rfl))
  f210 := Tryz.func92.trans (congrArg some (by kernel_rfl))
  t3 := Tryz.underlying3
  a3 := Tryz.isAgg3
  z3 := Tryz.sizeOf3
  v3 := Tryz.zeroValue3
  t4 := Tryz.underlying4
  a4 := Tryz.isAgg4
  z4 := Tryz.sizeOf4
  v4 := Tryz.zeroValue4
  t9 := Tryz.underlying9
  a9 := Tryz.isAgg9
  z9 := Tryz.sizeOf9
  v9 := Tryz.zeroValue9
  t24 := Tryz.underlying39
  a24 := Tryz.isAgg39
  z24 := Tryz.sizeOf39
  v24 := Tryz.zeroValue39 }
def negL (l : List UInt8) : Bool := Lib.hasPrefix l [45]
def digL (l : List UInt8) : List UInt8 := Lib.trimPrefix l [45]
theorem cut_calls (w : World) (s : ByteArray) : Calls Tryz.prog 45 #[.string s, .string ⟨#[45]⟩] w fun e w' => ∃ D : ByteArray, e = .returned (.tuple #[.string D, .bool (negL s.data.toList)]) ∧ D.data.toList = digL s.data.toList ∧ w = w' := by
  refine (Any.strings_CutPrefix lays103 s ⟨#[45]⟩ w).mono ?_
  rintro e w' ⟨h1, h2⟩
  exact ⟨_, h1, rfl, h2.symm⟩
theorem digL_len (l : List UInt8) : (digL l).length ≤ l.length := by
  unfold digL Lib.trimPrefix
  split
  · rw [List.length_drop]; omega
  · exact Nat.le_refl _
def parseOK (l : List UInt8) : Bool := decide (l.length ≤ 65536) && (numB (digL l) && !(negL l && digL l == [48]))
def parseV (l : List UInt8) : Int := sgn (negL l) (dv (digL l))
def RetParse (l : List UInt8) (w : World) (e : Ending) (w' : World) : Prop :=
  ∃ v, e = .returned (.tuple #[v, .int .i64 (if parseOK l then 0 else 2)]) ∧ IsInt w' v (if parseOK l then parseV l else 0) ∧ Ext w w'

set_option maxRecDepth 100000 in
set_option maxHeartbeats 1600000 in
theorem parse_bad (w : World) (s : ByteArray) (hs : s.size ≤ 9223372036854775807) (hb : parseOK s.data.toList = false) : Calls Tryz.prog 96 #[.string s] w (RetParse s.data.toList w) := by
  have fin : ∀ (W w1 : World), Ext w W → W.heap.size = w.heap.size + 1 → W.cell? ⟨w.heap.size, 0, none⟩ = some (.bool false) → W.cell? ⟨w.heap.size, 1, none⟩ = some (.slice none 0 0) → True := fun _ _ _ _ _ _ => trivial
  clear fin
  obtain ⟨W, hW, eW, _, r0, r1, f0, f1⟩ := res_new w 24
  have HB := Lib.hid hb
  have hl := bytes_len s
  have hcase : 65536 < s.size ∨ (¬ 65536 < s.size ∧ (numB (digL s.data.toList) = false ∨ (numB (digL s.data.toList) = true ∧ negL s.data.toList = true ∧ digL s.data.toList = [48]))) := by
    unfold parseOK at hb
    by_cases h1 : 65536 < s.size
    · exact .inl h1
    · refine .inr ⟨h1, ?_⟩
      rw [decide_eq_true (by omega), Bool.true_and] at hb
      cases h2 : numB (digL s.data.toList)
      · exact .inl rfl
      · right
        rw [h2, Bool.true_and] at hb
        simp at hb
        exact ⟨rfl, hb.1, hb.2⟩
  clear hb hl
  go_enter Tryz.func96, Tryz.ntmps96
  go_wp2_with fail
  clear hW
  refine (cut_calls _ s).mono ?_
  rintro e w1 ⟨D, rfl, hD, rfl⟩
  have hfin : Ext w ((W.setCell ⟨w.heap.size, 0, none⟩ (.bool false)).setCell ⟨w.heap.size, 1, none⟩ (.slice none 0 0)) := (eW.setCell (p := ⟨w.heap.size, 0, none⟩) (Nat.le_refl _) _).setCell (p := ⟨w.heap.size, 1, none⟩) (Nat.le_refl _) _
  have HF := Lib.hid hfin
  have hDs : D.size ≤ s.size := by rw [← bytes_len, hD, ← bytes_len]; exact digL_len _
  have HD := Lib.hid hD
  have HN := Lib.hid (isNumeral_calls W D (by omega))
  clear hfin hD
  rcases hcase with h1 | ⟨h1, h2 | ⟨h2, h3, h4⟩⟩
  · have g1 : (65536 : Int) < (s.size : Int) := by omega
    clear h1
    go_wp2
    exact bodyPost_ret (v := .tuple #[.agg #[.bool false, .slice none 0 0], .int .i64 2]) (by simp [results, Tryz.results96, go_sem, r0, r1]) rfl ⟨_, by rw [HB.out]; rfl, by rw [HB.out]; exact isInt_zero _, HF.out⟩
  · have g1 : ¬ (65536 : Int) < (s.size : Int) := by omega
    clear h1
    go_wp2_with fail
    refine HN.out.mono ?_
    rintro e w1 ⟨rfl, rfl⟩
    rw [HD.out, h2]
    go_wp2
    exact bodyPost_ret (v := .tuple #[.agg #[.bool false, .slice none 0 0], .int .i64 2]) (by simp [results, Tryz.results96, go_sem, r0, r1]) rfl ⟨_, by rw [HB.out]; rfl, by rw [HB.out]; exact isInt_zero _, HF.out⟩
  · have g1 : ¬ (65536 : Int) < (s.size : Int) := by omega
    have hd : D.toList = [48] := by rw [ByteArray.toList_eq, HD.out, h4]
    have hd2 : (D.toList == [48]) = true := by rw [hd]; rfl
    clear h1
    rw [h3]
    go_wp2_with fail
    refine HN.out.mono ?_
    rintro e w1 ⟨rfl, rfl⟩
    rw [HD.out, h2]
    go_wp2
    exact bodyPost_ret (v := .tuple #[.agg #[.bool false, .slice none 0 0], .int .i64 2]) (by simp [results, Tryz.results96, go_sem, r0, r1]) rfl ⟨_, by rw [HB.out]; rfl, by rw [HB.out]; exact isInt_zero _, HF.out⟩

theorem extract_list (D : ByteArray) (a b : Nat) : (D.extract a b).data.toList = (D.data.toList.take b).drop a := by
  rw [List.drop_take, ByteArray.data_extract, Array.toList_extract]
def ParseRel (w : World) (g : Nat) (D : List UInt8) (k : Nat) (zs : List Nat) (wr : World) : Prop :=
  zs.length = (D.length + 8) / 9 ∧ Dig zs ∧ Blk wr g zs ∧ Ext w wr ∧ val (zs.take k) = dv (D.drop (D.length - 9 * k))
theorem ParseRel.step {w : World} {g : Nat} {D : List UInt8} {k : Nat} {zs : List Nat} {wr : World} (h : ParseRel w g D k zs wr) (hg : w.heap.size ≤ g) (hk : k < zs.length) (hd : D.all digB = true) (x : Nat)
    (hx : x = dv ((D.take (D.length - 9 * k)).drop (D.length - 9 * k - 9))) : ParseRel w g D (k + 1) (zs.set k x) (wr.setCell ⟨g, k, none⟩ (.int .u32 (x : Int))) ∧ x < 1000000000 := by
  obtain ⟨h1, h2, h3, h4, h5⟩ := h
  have hL : 9 * k < D.length := by omega
  obtain ⟨e, he⟩ : ∃ e, e = D.length - 9 * k := ⟨_, rfl⟩
  rw [← he] at hx h5
  have hall : ((D.take e).drop (e - 9)).all digB = true := by
    rw [List.all_eq_true] at hd ⊢
    exact fun y hy => hd y (List.mem_of_mem_take (List.mem_of_mem_drop hy))
  have hxl : ((D.take e).drop (e - 9)).length ≤ 9 := by rw [List.length_drop, List.length_take]; omega
  have hxb : x < 1000000000 := by
    have := dv_lt hall
    rw [← hx] at this
    have h10 := Nat.pow_le_pow_right (n := 10) (by omega) hxl
    omega
  refine ⟨⟨by simpa using h1, h2.set k hxb, h3.set k x hk, h4.setCell (p := ⟨g, k, none⟩) hg _, ?_⟩, hxb⟩
  rw [val_take_set zs k x hk, h5]
  have hsplit : D.drop (D.length - 9 * (k + 1)) = (D.take e).drop (e - 9) ++ D.drop e := by
    rw [show D.length - 9 * (k + 1) = e - 9 by omega]
    rw [← List.drop_append_of_le_length (by rw [List.length_take]; omega), List.take_append_drop]
  rw [hsplit, dv_append, ← hx, List.length_drop, show D.length - e = 9 * k by omega, Nat.pow_mul, show (10 : Nat) ^ 9 = 1000000000 from rfl, Nat.mul_comm x]
  omega

set_option maxRecDepth 100000 in
set_option maxHeartbeats 3200000 in
theorem parse_good (w : World) (s : ByteArray) (hs : s.size ≤ 9223372036854775807) (hb : parseOK s.data.toList = true) : Calls Tryz.prog 96 #[.string s] w (RetParse s.data.toList w) := by
  obtain ⟨W, hW, eW, hz, r0, r1, f0, f1⟩ := res_new w 24
  have HB := Lib.hid hb
  have hl := bytes_len s
  have hcase : ¬ 65536 < s.size ∧ numB (digL s.data.toList) = true ∧ (negL s.data.toList = false ∨ digL s.data.toList ≠ [48]) := by
    unfold parseOK at hb
    simp only [Bool.and_eq_true, decide_eq_true_iff, Bool.not_eq_true', Bool.and_eq_false_iff, beq_eq_false_iff_ne] at hb
    exact ⟨by omega, hb.2.1, hb.2.2⟩
  clear hb hl
  go_enter Tryz.func96, Tryz.ntmps96
  go_wp2_with fail
  clear hW
  refine (cut_calls _ s).mono ?_
  rintro e w1 ⟨D, rfl, hD, rfl⟩
  have hDs : D.size ≤ s.size := by rw [← bytes_len, hD, ← bytes_len]; exact digL_len _
  have HD := Lib.hid hD
  have HN := Lib.hid (isNumeral_calls W D (by omega))
  obtain ⟨h1, h2, h3⟩ := hcase
  have g1 : ¬ (65536 : Int) < (s.size : Int) := by omega
  have hDb : D.size ≤ 65536 := by omega
  have HNum := Lib.hid h2
  rw [← hD] at h2 h3
  have HAll : Hid (D.data.toList.all digB = true) := by
    unfold Hid
    unfold numB at h2
    simp only [Bool.and_eq_true] at h2
    exact h2.2.2
  have hne : negL s.data.toList = true → (D.toList == [48]) = false := by
    intro hn
    rcases h3 with h3 | h3
    · rw [h3] at hn; cases hn
    · rw [ByteArray.toList_eq, beq_eq_false_iff_ne]; exact h3
  have HV : Hid (parseV s.data.toList = sgn (negL s.data.toList) (dv D.data.toList)) := by unfold Hid parseV; rw [hD]
  clear hD h1 h2 h3 hDs
  generalize negL s.data.toList = neg at *
  have hcs : neg = false ∨ neg = true ∧ (D.toList == [48]) = false := by
    cases hn : neg
    · exact .inl rfl
    · exact .inr ⟨rfl, hne hn⟩
  clear hne
  obtain ⟨K, hK⟩ : ∃ K, K = (D.size + 8) / 9 := ⟨_, rfl⟩
  have hKI : ((D.size : Int) + 9 - 1).tdiv 9 = (K : Int) := by rw [Int.tdiv_eq_ediv_of_nonneg (by omega)]; omega
  have hKI2 : ((D.size : Int) + 8).tdiv 9 = (K : Int) := by rw [Int.tdiv_eq_ediv_of_nonneg (by omega)]; omega
  have hmk := run_mk K (by omega) ↑K rfl
  have hKb : K ≤ 8000 := by omega
  have HK := Lib.hid hK
  clear hK
  rcases hcs with rfl | ⟨rfl, hq⟩
  all_goals
    go_wp2_with fail
    refine HN.out.mono ?_
    rintro e w1 ⟨rfl, rfl⟩
    rw [HD.out, HNum.out]
    go_wp2_with fail
    clear hmk hKI hKI2
    have hDL := bytes_len D
    have h0 : ParseRel W (w.heap.size + 1) D.data.toList 0 (List.replicate K 0) (W.alloc (.cells (u32s (List.replicate K 0)) 97)) := by
      refine ⟨by rw [List.length_replicate, HK.out, hDL], Dig.replicate _, ?_, (Ext.refl W).alloc _, ?_⟩
      · have := Blk.new W (List.replicate K 0)
        rwa [hz] at this
      · rw [List.drop_of_length_le (by omega)]; rfl
    go_loopw [38] (fun i wr => ∃ (k : Nat) (zs : List Nat), k ≤ K ∧ i = .int .i64 k ∧ ParseRel W (w.heap.size + 1) D.data.toList k zs wr) (fun i _ => K - (intOf i).toNat)
    case atStart => exact ⟨0, _, Nat.zero_le _, rfl, h0⟩
    case round =>
      obtain ⟨k, zs, hk, rfl, hR⟩ := hrel
      clear h0
      by_cases hlt : k < K
      · have hzl : zs.length = K := by rw [hR.1, hDL, ← HK.out]
        have hzc := hR.2.2.1.cell k (by omega)
        have hzf := hR.2.2.1.frozen k
        have h9k : 9 * k < D.size := by have := HK.out; omega
        obtain ⟨e, he⟩ : ∃ e, e = D.size - 9 * k := ⟨_, rfl⟩
        have heI : (D.size : Int) - (k : Int) * 9 = (e : Int) := by omega
        have hst := fun x hx => hR.step (by omega) (by omega) HAll.out x hx
        rw [hDL, ← he] at hst
        have HST := Lib.hid hst
        have HRR := Lib.hid hR
        clear hst hR
        obtain ⟨lo, hlo⟩ : ∃ lo, lo = e - 9 := ⟨_, rfl⟩
        have hmx : max (0 : Int) ((e : Int) - 9) = (lo : Int) := by omega
        rw [← hlo] at HST
        have he1 : (lo : Int) ≤ (e : Int) := by omega
        have he2 : (e : Int) ≤ (D.size : Int) := by omega
        have heb : (e : Int) ≤ 65536 := by omega
        have hlN : lo ≤ e := by omega
        have heN : e ≤ D.size := by omega
        have hel : e - lo ≤ 9 := by omega
        have HE := Lib.hid (And.intro he (And.intro hlo (And.intro h9k hel)))
        clear he hlo h9k hel
        have hgv := groupValue_calls wr (D.extract lo e) (by rw [ByteArray.size_extract, Nat.min_eq_left heN]; exact HE.out.2.2.2) (by
          rw [extract_list]
          have ha := HAll.out
          rw [List.all_eq_true] at ha ⊢
          exact fun y hy => ha y (List.mem_of_mem_take (List.mem_of_mem_drop hy)))
        rw [extract_list] at hgv
        obtain ⟨x, hx⟩ : ∃ x, x = dv (List.drop lo (List.take e D.data.toList)) := ⟨_, rfl⟩
        rw [← hx] at hgv
        have HGV := Lib.hid hgv
        have HX := Lib.hid (HST.out x hx)
        have hxb : (x : Int) < 1000000000 := by have := HX.out.2; omega
        clear hgv hx HST
        go_wp2_with fail
        refine HGV.out.mono ?_
        rintro e' w1 ⟨rfl, rfl⟩
        go_wp2
        go_roundw
        case rel => exact ⟨k + 1, _, by omega, by go_num, HX.out.1⟩
        case measure => simp [intOf]; omega
      · have e : k = K := by omega
        subst e
        have HRR := Lib.hid hR
        have hzl : zs.length = k := by rw [hR.1, hDL, ← HK.out]
        have HZV : Hid (val zs = dv D.data.toList) := by
          have h5 := hR.2.2.2.2
          rw [List.take_of_length_le (by omega), hDL, show D.size - 9 * k = 0 by have := HK.out; omega, List.drop_zero] at h5
          exact h5
        have hsg : ∀ neg, Calls Tryz.prog 97 #[.bool neg, .slice (some ⟨w.heap.size + 1, 0, none⟩) k k] wr (Ret (fun v w' => IsInt w' v (sgn neg (val zs))) wr) := fun neg => by
          have := signed_calls wr neg (some ⟨w.heap.size + 1, 0, none⟩) zs k (by omega) (by omega) hR.2.2.1.cells hR.2.1
          rwa [hzl] at this
        have HSG := Lib.hid hsg
        have HZL := Lib.hid hzl
        clear hzl hsg
        have eR := hR.2.2.2.1
        replace r0 := eR.cell r0
        replace r1 := eR.cell r1
        replace f0 := eR.frozen (p := ⟨w.heap.size, 0, none⟩) (by show w.heap.size < W.heap.size; omega) f0
        replace f1 := eR.frozen (p := ⟨w.heap.size, 1, none⟩) (by show w.heap.size < W.heap.size; omega) f1
        replace eW := eW.trans eR
        clear hR eR
        go_wp2_with fail
        refine (HSG.out _).mono ?_
        rintro e' w1 ⟨v3, rfl, hI, e3⟩
        obtain ⟨ao3, cap3, s3, n3, rfl, _⟩ := IsInt.open_ hI
        replace f0 := e3.frozen (lt_of_cell r0) f0
        replace f1 := e3.frozen (lt_of_cell r1) f1
        replace r0 := e3.cell r0
        replace r1 := e3.cell r1
        go_wp2
        obtain ⟨u, hu, hu2, hu3⟩ := fin_int hI r0 r1 (Nat.le_refl _) (eW.trans e3)
        injection hu with hu
        subst hu
        exact bodyPost_ret (v := .tuple #[.agg #[.bool s3, .slice ao3 (limbs n3).length cap3], .int .i64 0]) (by simp [results, Tryz.results96, go_sem, r0, r1]) rfl ⟨_, by rw [HB.out]; rfl, by rw [HB.out, if_pos rfl, HV.out, ← HZV.out]; exact hu2, hu3⟩

theorem parse_calls (w : World) (s : ByteArray) (hs : s.size ≤ 9223372036854775807) : Calls Tryz.prog 96 #[.string s] w (RetParse s.data.toList w) := by
  cases hb : parseOK s.data.toList
  · exact parse_bad w s hs hb
  · exact parse_good w s hs hb

end Go.Proofs.YtnejcdjakjmklaaGreatDoor
end

section
set_option maxRecDepth 100000
namespace Go.Proofs.YtnejcdjakjmklaaGreatDoor
open Go.RowKit Go.Shelf
def pZ (l : List UInt8) : Int := if parseOK l then parseV l else 0
def pE (l : List UInt8) : Int := if parseOK l then 0 else 2
theorem digL_all {l : List UInt8} (h : parseOK l = true) : (digL l).all digB = true := by
  unfold parseOK at h
  simp only [Bool.and_eq_true] at h
  have := h.2.1
  unfold numB at this
  simp only [Bool.and_eq_true] at this
  exact this.2.2
theorem pZ_lim {l : List UInt8} {m : Nat} (h : l.length ≤ m) : Lim (m / 9 + 1) (pZ l) := by
  unfold pZ
  split
  · rename_i hok
    have h1 := dv_lt (digL_all hok)
    have h2 := digL_len l
    have h3 : (parseV l).natAbs = dv (digL l) := by
      unfold parseV sgn
      split <;> omega
    refine limbs_len_le ?_
    rw [h3]
    refine Nat.lt_of_lt_of_le h1 ?_
    rw [show (1000000000 : Nat) = 10 ^ 9 from rfl, ← Nat.pow_mul]
    exact Nat.pow_le_pow_right (by omega) (by omega)
  · exact lim_zero
theorem parse_list (w : World) (l : List UInt8) (hl : l.length ≤ 65536) : Calls Tryz.prog 96 #[.string ⟨l.toArray⟩] w fun e w' => ∃ v, e = .returned (.tuple #[v, .int .i64 (pE l)]) ∧ IsInt w' v (pZ l) ∧ Ext w w' := by
  have hs : (⟨l.toArray⟩ : ByteArray).size = l.length := by simp [ByteArray.size]
  refine (parse_calls w ⟨l.toArray⟩ (by rw [hs]; omega)).mono ?_
  rintro e w' ⟨v, h1, h2, h3⟩
  exact ⟨v, h1, h2, h3⟩
def sE (ls : List (List UInt8)) (zs : List Int) (bs : List Bool) : Env := ⟨fun i => zs.getD i 0, fun i => bs.getD i false, fun _ => (false, []), fun i => ls.getD i []⟩
theorem one_str {E : Env} {w : World} {t : ST} {m : Nat} {v : Value} : one E w (false, [.str t m]) v ↔ v = .string ⟨(t.den E).toArray⟩ ∧ (t.den E).length ≤ m := by
  constructor
  · rintro ⟨⟨x, y, e1, ⟨e2, e3⟩, e4⟩, _⟩
    simp only [chunks] at e4
    subst e2 e4
    injection e1 with e1
    exact ⟨e1, e3⟩
  · rintro ⟨rfl, h⟩
    exact ⟨⟨[_], [], rfl, ⟨rfl, h⟩, rfl⟩, rfl⟩
def qDT (l : List UInt8) : List UInt8 := (Lib.cut l [47]).2.1
def qSl (l : List UInt8) : Bool := (Lib.cut l [47]).2.2
end Go.Proofs.YtnejcdjakjmklaaGreatDoor
end

section
set_option maxRecDepth 100000
namespace Go.Proofs.YtnejcdjakjmklaaGreatDoor
open Go.RowKit Go.Shelf
def WQ (w : World) : Prop := WM w ∧ WT w
theorem WQ.ext {w w' : World} (h : WQ w) (e : Ext w w') : WQ w' := ⟨h.1.ext e, h.2.ext e⟩
theorem nDigits_le : ∀ (k u : Nat), u < 10 ^ (k + 1) → Lib.nDigits u ≤ k + 1
  | 0, u, h => by rw [Lib.nDigits_small (by simpa using h)]; exact Nat.le_refl _
  | k + 1, u, h => by
    by_cases h1 : u < 10
    · rw [Lib.nDigits_small h1]; omega
    · rw [Lib.nDigits_big h1]
      have := nDigits_le k (u / 10) (by rw [Nat.pow_succ] at h; omega)
      omega
theorem itoa_len {l : Nat} {z : Int} (h : Lim l z) : (Lib.itoa z).length ≤ 9 * l + 2 := by
  have h1 := lt_of_limbs_len h
  have h2 : (Lib.decDigits z.natAbs).length ≤ 9 * l + 1 := by
    rw [Lib.decDigits_length]
    refine nDigits_le (9 * l) _ (Nat.lt_of_lt_of_le h1 ?_)
    rw [show (1000000000 : Nat) = 10 ^ 9 from rfl, ← Nat.pow_mul]
    exact Nat.pow_le_pow_right (by omega) (by omega)
  unfold Lib.itoa
  split
  · simp only [List.length_cons]; omega
  · rename_i hz
    rw [show z.toNat = z.natAbs by omega]; omega
def kFmt : Con
  | [.val true [.int x l]], _ => if decide (l ≤ 100000) then some (.val false [.str (.fmt x) (9 * l + 2)]) else none
  | _, _ => none
theorem kFmt_ok {E : Env} : ConW Tryz.prog WQ E 40 kFmt := by
  refine ⟨?_, ?_, ⟨_, Tryz.func40, by decide +kernel, by kernel_rfl⟩⟩
  · intro args As r h hG β w vs hW hv hlen
    unfold kFmt at h
    split at h
    · split at h
      · rename_i hm
        have hm' := of_decide_eq_true hm
        injection h with h
        subst h
        obtain ⟨v, rfl, h1⟩ := args1 hv hlen
        obtain ⟨i1, l1⟩ := one_int.1 h1
        refine (format_calls w hW.2 v _ i1 (l1.mono hm')).mono ?_
        rintro e w' ⟨rfl, ex⟩
        exact ⟨_, rfl, one_str.2 ⟨rfl, itoa_len l1⟩, ex⟩
      · cases h
    · cases h
  · intro args As r h x off
    unfold kFmt at h
    split at h
    · split at h
      · injection h with h; subst h; intro e; cases e
      · cases h
    · cases h
def dgC (z : Int) : List UInt8 := (if z < 0 then [45] else []) ++ [UInt8.ofNat (48 + z.natAbs)]
def fmtC (n d : Int) : List UInt8 := if d == 1 then dgC n else dgC n ++ [47] ++ dgC d
def kFmtL : Con
  | [.val true [.int x l, .int y m]], _ => match x.cl, y.cl with
    | some n, some d => if decide (n.natAbs < 10) && (decide (d.natAbs < 10) && (decide (l ≤ 100000) && decide (m ≤ 100000))) then some (.val false [.str (.lit (fmtC n d)) (fmtC n d).length]) else none
    | _, _ => none
  | _, _ => none
def sqN (n d : Int) (z : Int) : Int := if sqB n && sqB d then isq z else 0
def tSq : Tree := .ite (.and (.eq (.a1 3 (.var 0)) (.lit 0)) (.eq (.a2 3 (.a2 2 (.a1 2 (.var 0)) (.a1 2 (.var 0))) (.var 0)) (.lit 0)))
  (.ite (.and (.eq (.a1 3 (.var 1)) (.lit 0)) (.eq (.a2 3 (.a2 2 (.a1 2 (.var 1)) (.a1 2 (.var 1))) (.var 1)) (.lit 0))) (.leaf [(true, [.int (.a1 2 (.var 0)) 100000, .int (.a1 2 (.var 1)) 100000]), (false, [.b (.lit true)])])
    (.leaf [(true, [.int (.lit 0) 0, .int (.lit 0) 0]), (false, [.b (.lit false)])]))
  (.leaf [(true, [.int (.lit 0) 0, .int (.lit 0) 0]), (false, [.b (.lit false)])])
def RetSqQ (n d : Int) (w : World) (e : Ending) (w' : World) : Prop := ∃ v, e = .returned (.tuple #[v, .bool (sqB n && sqB d)]) ∧ IsPair w' v (sqN n d n) (sqN n d d) ∧ Ext w w'
theorem open_qb {E : Env} {β : Nat → Nat} {w : World} {v : Value} {x y : IT} {k m : Nat} {t : BT} (hx : (AV.tup [(true, [.int x k, .int y m]), (false, [.b t])]).holds E β w v) : ∃ p, v = .tuple #[p, .bool (t.den E)] ∧ IsPair w p (x.den E) (y.den E) := by
  obtain ⟨vs, rfl, u1, r1, rfl, k1, u2, r2, rfl, k2, hn⟩ := hx
  simp only [tupAll] at hn
  subst hn
  have k2' := one_bool.1 k2
  subst k2'
  exact ⟨u1, rfl, (one_pair.1 k1).1⟩
def kFlQ : Con
  | [.val true [.int x l, .int y m]], _ => if canon x y && (ql l && ql m) then some (.val true [.int (.a2 4 x y) l]) else none
  | _, _ => none
theorem kFlQ_ok {E : Env} (hE : QEnv E) : ConOK Tryz.prog E 35 kFlQ := by
  refine ⟨?_, ?_, ⟨_, Tryz.func35, by decide +kernel, by kernel_rfl⟩⟩
  · intro args As r h hG β w vs hv hlen
    unfold kFlQ at h
    split at h
    · split at h
      · rename_i hm
        simp only [ql, Bool.and_eq_true, decide_eq_true_iff] at hm
        obtain ⟨c1, b1, b2⟩ := hm
        injection h with h
        subst h
        obtain ⟨v, rfl, h1⟩ := args1 hv hlen
        obtain ⟨q, _, e1, e2, hq, m1, m2⟩ := one_ratQ hE c1 h1
        refine (floor_rat_calls w v q hq ⟨m1.mono b1, m2.mono b2⟩).mono ?_
        rintro e w' ⟨u, rfl, hI, ex⟩
        refine ⟨_, rfl, one_int.2 ⟨?_, ?_⟩, ex⟩
        · show IsInt w' u (dq _ _)
          rw [e1, e2]; exact hI
        · show Lim _ (dq _ _)
          rw [e1, e2]; exact m1.natAbs_le (dq_abs _ _)
      · cases h
    · cases h
  · intro args As r h x off
    unfold kFlQ at h
    split at h
    · split at h
      · injection h with h; subst h; intro e; cases e
      · cases h
    · cases h
end Go.Proofs.YtnejcdjakjmklaaGreatDoor
end

section
set_option maxRecDepth 100000
namespace Go.Proofs.YtnejcdjakjmklaaGreatDoor
open Go.ChangeShapes Go.WideShapes Go.ChangeAt Go.RowKit Go.Joins
theorem open_two {H : Type} {enc : TypeId × Value → H} {W : World} {base : Nat} {spare : Nat → Bool} {held : Bool} {v0 v1 : Value} {y : DataW H × List MemPlace} {n : Nat}
    (h : DataW.trod enc Tryz.prog W base spare held n 24 [v0, v1] = some y) : ∃ neg xs, Raw W (.agg #[v0, v1]) neg xs := by
  obtain ⟨y0, y1, n, hx, _, h0, h1⟩ := trod_struct2 Tryz.underlying24 h
  have cb : Tryz.prog.cellsOf 4 = 1 := by kernel_rfl
  have cs : Tryz.prog.cellsOf 22 = 1 := by kernel_rfl
  exact open_cells (v0 := v0) (v1 := v1) (by simpa [cb] using h0) (by simpa [cs] using h1)
theorem open_q {H : Type} {enc : TypeId × Value → H} {W : World} {b0 base : Nat} {spare : Nat → Bool} {held : Bool} {r : Reach} {v : Value} {d : DataW H} {p : List MemPlace}
    (hv : Value.okWide Tryz.prog W r b0 26 v) (h : DataW.Trod enc Tryz.prog W base spare held 26 v d p) : ∃ s1 xs1 s2 xs2, RawQ W v s1 xs1 s2 xs2 := by
  obtain ⟨cs, rfl, hsz⟩ := okWide_struct Tryz.underlying26 hv
  have c4 : Tryz.prog.cellsOf 26 = 4 := by kernel_rfl
  have c2 : Tryz.prog.cellsOf 24 = 2 := by kernel_rfl
  obtain ⟨c0, c1, c2', c3, rfl⟩ := array4 (hsz.trans c4)
  obtain ⟨fuel, hf⟩ := h
  obtain ⟨y0, y1, n, hx, _, h0, h1⟩ := trod_struct2 Tryz.underlying26 hf
  obtain ⟨s1, xs1, w1⟩ := open_two (v0 := c0) (v1 := c1) (by simpa [Value.cells, c2] using h0)
  obtain ⟨s2, xs2, w2⟩ := open_two (v0 := c2') (v1 := c3) (by simpa [Value.cells, c2] using h1)
  exact ⟨s1, xs1, s2, xs2, c0, c1, c2', c3, rfl, w1, w2⟩

theorem handed_laid {H : Type} {enc : TypeId × Value → H} {a : Assume} {C : Checked} {os : Os} {f : FuncId} {fn : Func} {s : ChangeSpec} {conds : List PathCond} {apart fresh handsOn again : Bool} {L : List (String × DataW Unit)}
    (own : ownKnob C.prog.godebug = none) (started : os.Started) (noInit : C.prog.inits.idxOf? f = none) (hfn : C.prog.funcs[f]? = some fn)
    (witness : ∃ (w : World) (tape : Tape) (i : Input), w.os = os ∧ (w.forCall tape i).Shaped C.prog ∧ i.vars = [] ∧ Input.okWide C.prog (w.forCall tape i) .any w.heap.size f i ∧
      ((s.pre enc C.prog fn conds apart (w.forCall tape i).memory i.args ∧ laidMetH C.prog L (w.forCall tape i).memory) ∧ sizedMet enc C.prog fn (OpenSpec.ofChange s) apart (w.forCall tape i).memory i.args) ∧ a.holds C.prog (lone (Frame.enter C.prog f i.args .normal) [] (w.forCall tape i)))
    (contract : ∀ (W : World) (base : Nat) (args : Array Value) (ds gs : List (DataW H)) (before : List MemPlace),
      (∀ (j : Nat) t v, fn.params[j]? = some t → args[j]? = some v → Value.okWide C.prog W .any base t v) →
      DataW.Whole enc C.prog fn.params.toList s.vars apart W args.toList ds gs before →
      conds.all (PathCond.test C.prog ⟨fn.params.toList, ds, s.plain.varTypes C.prog, gs⟩) = true →
      laidMetH C.prog L W → W.ShapedOpen C.prog →
      Calls C.prog f args W fun e W' => ∃ v, e = .returned v ∧ s.post enc C.prog fn apart fresh handsOn again W args v W') :
    ReturnsInHanded a C os f .any (fun w args => (s.pre enc C.prog fn conds apart w args ∧ laidMetH C.prog L w) ∧ sizedMet enc C.prog fn (OpenSpec.ofChange s) apart w args) (s.post enc C.prog fn apart fresh handsOn again) := by
  refine returnsInHanded_of_calls own started noInit witness ?_
  intro w tape i _ hsh _ hok hpre _
  obtain ⟨_, _, _, fn', hfn', _, _, _, _, hval⟩ := hok
  have e : fn' = fn := Option.some.inj (hfn'.symm.trans hfn)
  subst e
  obtain ⟨⟨⟨ds, gs, before, hw, hc⟩, hx⟩, _⟩ := hpre
  have hw' := DataW.Whole.of_heap (w' := w.forCall tape i) (by rfl) hw
  refine (contract (w.forCall tape i) w.heap.size i.args ds gs before hval hw' hc (hx.of_heap (by rfl)) hsh).mono fun e W' ⟨v, he, hp⟩ => ?_
  subst he
  exact ChangeSpec.post_blind hp

theorem pow10_eq {H : Type} : (Rows.laid_internal_strconv_uint64pow10 : DataW H) = Lib.tabData .u64 Lib.pow10Tab := by rfl
end Go.Proofs.YtnejcdjakjmklaaGreatDoor
end

section
set_option maxRecDepth 100000
namespace Go.Proofs.YtnejcdjakjmklaaGreatDoor
open Go.RowKit Go.Shelf
def lays162_ren : Go.Shelf.Ren := ⟨fun | 162 => 108 | 232 => 159 | 227 => 148 | 234 => 160 | 236 => 161 | 228 => 184 | 271 => 191 | 151 => 186 | 120 => 210 | 197 => 185 | 152 => 207 | 260 => 206 | 137 => 217 | 119 => 218 | 224 => 182 | 225 => 181 | 217 => 180 | 266 => 204 | n => n, fun | 9 => 9 | 4 => 4 | 3 => 3 | 5 => 5 | 117 => 134 | 116 => 133 | 0 => 0 | 124 => 137 | 21 => 21 | 105 => 160 | 46 => 115 | 119 => 184 | 139 => 187 | 138 => 186 | n => n, fun | 3 => 2 | 4 => 3 | n => n⟩
theorem lays162 : Go.Proofs.Lays.n162 Tryz.prog lays162_ren := {
  mixed := by kernel_rfl
  f119 := Tryz.func218.trans (congrArg some (by kernel_rfl))
  f120 := Tryz.func210.trans (congrArg some (by kernel_rfl))
  f137 := Tryz.func217.trans (congrArg some (by kernel_rfl))
  f151 := Tryz.func186.trans (congrArg some (by kernel_rfl))
  f152 := Tryz.func207.trans (congrArg some (by kernel_rfl))
  f162 := Tryz.func108.trans (congrArg some (by kernel_rfl))
  f197 := Tryz.func185.trans (congrArg some (by kernel_rfl))
  f217 := Tryz.func180.trans (congrArg some (by kernel_rfl))
  f224 := Tryz.func182.trans (congrArg some (by kernel_rfl))
  f225 := Tryz.func181.trans (congrArg some (by kernel_rfl))
  f227 := Tryz.func148.trans (congrArg some (by kernel_rfl))
  f228 := Tryz.func184.trans (congrArg some (by kernel_rfl))
  f232 := Tryz.func159.trans (congrArg some (by kernel_rfl))
  f234 := Tryz.func160.trans (congrArg some (by kernel_rfl))
  f236 := Tryz.func161.trans (congrArg some (by kernel_rfl))
  f260 := Tryz.func206.trans (congrArg some (by kernel_rfl))
  f266 := Tryz.func204.trans (congrArg some (by kernel_rfl))
  f271 := Tryz.func191.trans (congrArg some (by kernel_rfl))
  t0 := Tryz.underlying0
  a0 := Tryz.isAgg0
  z0 := Tryz.sizeOf0
  v0 := Tryz.zeroValue0
  t3 := Tryz.underlying3
  a3 := Tryz.isAgg3
  z3 := Tryz.sizeOf3
  v3 := Tryz.zeroValue3
  t4 := Tryz.underlying4
  a4 := Tryz.isAgg4
  z4 := Tryz.sizeOf4
  v4 := Tryz.zeroValue4
  t5 := Tryz.underlying5
  a5 := Tryz.isAgg5
  z5 := Tryz.sizeOf5
  v5 := Tryz.zeroValue5
  t9 := Tryz.underlying9
  a9 := Tryz.isAgg9
  z9 := Tryz.sizeOf9
  v9 := Tryz.zeroValue9
  t21 := Tryz.underlying21
  a21 := Tryz.isAgg21
  z21 := Tryz.sizeOf21
  v21 := Tryz.zeroValue21
  t46 := Tryz.underlying115
  a46 := Tryz.isAgg115
  z46 := Tryz.sizeOf115
  v46 := Tryz.zeroValue115
  t105 := Tryz.underlying160
  a105 := Tryz.isAgg160
  z105 := Tryz.sizeOf160
  v105 := Tryz.zeroValue160
  t116 := Tryz.underlying133
  a116 := Tryz.isAgg133
  z116 := Tryz.sizeOf133
  t117 := Tryz.underlying134
  a117 := Tryz.isAgg134
  z117 := Tryz.sizeOf134
  v117 := Tryz.zeroValue134
  t119 := Tryz.underlying184
  a119 := Tryz.isAgg184
  z119 := Tryz.sizeOf184
  t124 := Tryz.underlying137
  a124 := Tryz.isAgg137
  z124 := Tryz.sizeOf137
  v124 := Tryz.zeroValue137
  t138 := Tryz.underlying186
  a138 := Tryz.isAgg186
  z138 := Tryz.sizeOf186
  v138 := Tryz.zeroValue186
  t139 := Tryz.underlying187
  a139 := Tryz.isAgg187
  z139 := Tryz.sizeOf187
  v139 := Tryz.zeroValue187
  g3 := by kernel_rfl
  g4 := by kernel_rfl }

def lays102_ren : Go.Shelf.Ren := ⟨fun | 102 => 107 | 209 => 158 | 207 => 190 | n => n, fun | 9 => 9 | 4 => 4 | 3 => 3 | n => n, fun | n => n⟩
theorem lays102 : Go.Proofs.Lays.n102 Tryz.prog lays102_ren := {
  mixed := by kernel_rfl
  f102 := Tryz.func107.trans (congrArg some (by kernel_rfl))
  f207 := Tryz.func190.trans (congrArg some (by kernel_rfl))
  f209 := Tryz.func158.trans (congrArg some (by kernel_rfl))
  t3 := Tryz.underlying3
  a3 := Tryz.isAgg3
  z3 := Tryz.sizeOf3
  v3 := Tryz.zeroValue3
  t4 := Tryz.underlying4
  a4 := Tryz.isAgg4
  z4 := Tryz.sizeOf4
  v4 := Tryz.zeroValue4
  t9 := Tryz.underlying9
  a9 := Tryz.isAgg9
  z9 := Tryz.sizeOf9
  v9 := Tryz.zeroValue9 }

def lays105_ren : Go.Shelf.Ren := ⟨fun | 105 => 86 | 212 => 135 | 99 => 136 | 165 => 137 | 166 => 138 | 170 => 139 | 169 => 140 | 263 => 176 | 264 => 177 | 206 => 145 | 240 => 178 | 241 => 179 | 276 => 202 | 277 => 203 | n => n, fun | 9 => 9 | 3 => 3 | 4 => 4 | 20 => 20 | 0 => 0 | 46 => 115 | 109 => 116 | 5 => 5 | 72 => 121 | 76 => 125 | 51 => 97 | 146 => 152 | 53 => 88 | 148 => 154 | 70 => 119 | 37 => 95 | 75 => 124 | 127 => 156 | 164 => 172 | 80 => 128 | n => n, fun | n => n⟩
theorem lays105 : Go.Proofs.Lays.n105 Tryz.prog lays105_ren := {
  mixed := by kernel_rfl
  f99 := Tryz.func136.trans (congrArg some (by kernel_rfl))
  f105 := Tryz.func86.trans (congrArg some (by kernel_rfl))
  f165 := Tryz.func137.trans (congrArg some (by kernel_rfl))
  f166 := Tryz.func138.trans (congrArg some (by kernel_rfl))
  f169 := Tryz.func140.trans (congrArg some (by kernel_rfl))
  f170 := Tryz.func139.trans (congrArg some (by kernel_rfl))
  f206 := Tryz.func145.trans (congrArg some (by kernel_rfl))
  f212 := Tryz.func135.trans (congrArg some (by kernel_rfl))
  f240 := Tryz.func178.trans (congrArg some (by kernel_rfl))
  f241 := Tryz.func179.trans (congrArg some (by kernel_rfl))
  f263 := Tryz.func176.trans (congrArg some (by kernel_rfl))
  f264 := Tryz.func177.trans (congrArg some (by kernel_rfl))
  f276 := Tryz.func202.trans (congrArg some (by kernel_rfl))
  f277 := Tryz.func203.trans (congrArg some (by kernel_rfl))
  t0 := Tryz.underlying0
  a0 := Tryz.isAgg0
  z0 := Tryz.sizeOf0
  v0 := Tryz.zeroValue0
  t3 := Tryz.underlying3
  a3 := Tryz.isAgg3
  z3 := Tryz.sizeOf3
  v3 := Tryz.zeroValue3
  t4 := Tryz.underlying4
  a4 := Tryz.isAgg4
  z4 := Tryz.sizeOf4
  v4 := Tryz.zeroValue4
  t5 := Tryz.underlying5
  a5 := Tryz.isAgg5
  z5 := Tryz.sizeOf5
  v5 := Tryz.zeroValue5
  t9 := Tryz.underlying9
  a9 := Tryz.isAgg9
  z9 := Tryz.sizeOf9
  v9 := Tryz.zeroValue9
  t20 := Tryz.underlying20
  a20 := Tryz.isAgg20
  z20 := Tryz.sizeOf20
  v20 := Tryz.zeroValue20
  t37 := Tryz.underlying95
  a37 := Tryz.isAgg95
  z37 := Tryz.sizeOf95
  v37 := Tryz.zeroValue95
  t46 := Tryz.underlying115
  a46 := Tryz.isAgg115
  z46 := Tryz.sizeOf115
  v46 := Tryz.zeroValue115
  t51 := Tryz.underlying97
  a51 := Tryz.isAgg97
  z51 := Tryz.sizeOf97
  v51 := Tryz.zeroValue97
  t53 := Tryz.underlying88
  a53 := Tryz.isAgg88
  z53 := Tryz.sizeOf88
  v53 := Tryz.zeroValue88
  t70 := Tryz.underlying119
  a70 := Tryz.isAgg119
  z70 := Tryz.sizeOf119
  v70 := Tryz.zeroValue119
  t72 := Tryz.underlying121
  a72 := Tryz.isAgg121
  z72 := Tryz.sizeOf121
  v72 := Tryz.zeroValue121
  t75 := Tryz.underlying124
  a75 := Tryz.isAgg124
  z75 := Tryz.sizeOf124
  v75 := Tryz.zeroValue124
  t76 := Tryz.underlying125
  a76 := Tryz.isAgg125
  z76 := Tryz.sizeOf125
  v76 := Tryz.zeroValue125
  t109 := Tryz.underlying116
  a109 := Tryz.isAgg116
  z109 := Tryz.sizeOf116
  v109 := Tryz.zeroValue116
  t127 := Tryz.underlying156
  a127 := Tryz.isAgg156
  z127 := Tryz.sizeOf156
  v127 := Tryz.zeroValue156
  t146 := Tryz.underlying152
  a146 := Tryz.isAgg152
  z146 := Tryz.sizeOf152
  v146 := Tryz.zeroValue152
  t148 := Tryz.underlying154
  a148 := Tryz.isAgg154
  z148 := Tryz.sizeOf154
  v148 := Tryz.zeroValue154
  t164 := Tryz.underlying172
  a164 := Tryz.isAgg172
  z164 := Tryz.sizeOf172
  v164 := Tryz.zeroValue172 }

def laysM173_ren : Go.Shelf.Ren := ⟨fun | 173 => 61 | 246 => 109 | 283 => 162 | 284 => 163 | 285 => 164 | 286 => 165 | 129 => 193 | 317 => 192 | 318 => 194 | 319 => 195 | 320 => 196 | 337 => 211 | 338 => 212 | n => n, fun | 2 => 2 | 3 => 3 | 9 => 9 | 4 => 4 | 171 => 142 | 0 => 0 | 53 => 88 | 37 => 95 | 5 => 5 | 173 => 145 | 212 => 166 | 51 => 97 | 20 => 20 | 213 => 167 | 46 => 115 | 232 => 189 | 233 => 190 | n => n, fun | 17 => 1 | 18 => 4 | 19 => 5 | n => n⟩
theorem laysM173 : Go.Proofs.LaysM.n173 Tryz.prog laysM173_ren := {
  mixed := by kernel_rfl
  f129 := Tryz.func193.trans (congrArg some (by kernel_rfl))
  f173 := Tryz.func61.trans (congrArg some (by kernel_rfl))
  f246 := Tryz.func109.trans (congrArg some (by kernel_rfl))
  f283 := Tryz.func162.trans (congrArg some (by kernel_rfl))
  f284 := Tryz.func163.trans (congrArg some (by kernel_rfl))
  f285 := Tryz.func164.trans (congrArg some (by kernel_rfl))
  f286 := Tryz.func165.trans (congrArg some (by kernel_rfl))
  f317 := Tryz.func192.trans (congrArg some (by kernel_rfl))
  f318 := Tryz.func194.trans (congrArg some (by kernel_rfl))
  f319 := Tryz.func195.trans (congrArg some (by kernel_rfl))
  f320 := Tryz.func196.trans (congrArg some (by kernel_rfl))
  f337 := Tryz.func211.trans (congrArg some (by kernel_rfl))
  f338 := Tryz.func212.trans (congrArg some (by kernel_rfl))
  t0 := Tryz.underlying0
  a0 := Tryz.isAgg0
  z0 := Tryz.sizeOf0
  v0 := Tryz.zeroValue0
  t2 := Tryz.underlying2
  a2 := Tryz.isAgg2
  z2 := Tryz.sizeOf2
  v2 := Tryz.zeroValue2
  t3 := Tryz.underlying3
  a3 := Tryz.isAgg3
  z3 := Tryz.sizeOf3
  v3 := Tryz.zeroValue3
  t4 := Tryz.underlying4
  a4 := Tryz.isAgg4
  z4 := Tryz.sizeOf4
  v4 := Tryz.zeroValue4
  t5 := Tryz.underlying5
  a5 := Tryz.isAgg5
  z5 := Tryz.sizeOf5
  v5 := Tryz.zeroValue5
  t9 := Tryz.underlying9
  a9 := Tryz.isAgg9
  z9 := Tryz.sizeOf9
  v9 := Tryz.zeroValue9
  t20 := Tryz.underlying20
  a20 := Tryz.isAgg20
  z20 := Tryz.sizeOf20
  v20 := Tryz.zeroValue20
  t37 := Tryz.underlying95
  a37 := Tryz.isAgg95
  z37 := Tryz.sizeOf95
  v37 := Tryz.zeroValue95
  t46 := Tryz.underlying115
  a46 := Tryz.isAgg115
  z46 := Tryz.sizeOf115
  v46 := Tryz.zeroValue115
  t51 := Tryz.underlying97
  a51 := Tryz.isAgg97
  z51 := Tryz.sizeOf97
  v51 := Tryz.zeroValue97
  t53 := Tryz.underlying88
  a53 := Tryz.isAgg88
  z53 := Tryz.sizeOf88
  v53 := Tryz.zeroValue88
  t171 := Tryz.underlying142
  a171 := Tryz.isAgg142
  z171 := Tryz.sizeOf142
  v171 := Tryz.zeroValue142
  t173 := Tryz.underlying145
  a173 := Tryz.isAgg145
  z173 := Tryz.sizeOf145
  v173 := Tryz.zeroValue145
  t212 := Tryz.underlying166
  a212 := Tryz.isAgg166
  z212 := Tryz.sizeOf166
  v212 := Tryz.zeroValue166
  t213 := Tryz.underlying167
  a213 := Tryz.isAgg167
  z213 := Tryz.sizeOf167
  t232 := Tryz.underlying189
  a232 := Tryz.isAgg189
  z232 := Tryz.sizeOf189
  v232 := Tryz.zeroValue189
  t233 := Tryz.underlying190
  a233 := Tryz.isAgg190
  z233 := Tryz.sizeOf190
  v233 := Tryz.zeroValue190
  g17 := by kernel_rfl
  g18 := by kernel_rfl
  g19 := by kernel_rfl
  i0 := by kernel_rfl
  i2 := by kernel_rfl
  i3 := by kernel_rfl
  i4 := by kernel_rfl
  i5 := by kernel_rfl
  i9 := by kernel_rfl
  i20 := by kernel_rfl
  i37 := by kernel_rfl
  i46 := by kernel_rfl
  i51 := by kernel_rfl
  i53 := by kernel_rfl
  i171 := by kernel_rfl
  i173 := by kernel_rfl
  i212 := by kernel_rfl
  i232 := by kernel_rfl
  i233 := by kernel_rfl
  m17 := by kernel_rfl
  m18 := by kernel_rfl
  m19 := by kernel_rfl }

theorem Builder_Extra_105 : Builder.Extra Tryz.prog lays105_ren := {
  sizeBuilder := by kernel_rfl
  liesBuilder := by kernel_rfl
  t5 := Tryz.underlying5
  a5 := Tryz.isAgg5
  z5 := Tryz.sizeOf5
  v5 := Tryz.zeroValue5
  infoByte := by kernel_rfl
  cellsByte := by kernel_rfl
  sizeByte := by kernel_rfl
  neB5 := by decide }
theorem repeat_calls (w : World) (c : Int) (hc : 0 ≤ c) (hl : c ≤ 1000000) : Calls Tryz.prog 86 #[.string ⟨#[48]⟩, .int .i64 c] w fun e w' => ∃ R : ByteArray, e = .returned (.string R) ∧ R.data.toList = List.replicate c.toNat 48 ∧ Ext w w' := by
  obtain ⟨n, rfl⟩ : ∃ n : Nat, c = (n : Int) := ⟨c.toNat, by omega⟩
  refine (Any.strings_Repeat lays105 Builder_Extra_105 ⟨#[48]⟩ n w (by omega) (by show 1 * n ≤ _; omega)).mono ?_
  rintro e w' ⟨rfl, h⟩
  refine ⟨_, rfl, ?_, h⟩
  show Lib.repeatL [48] n = _
  rw [show ([48] : List UInt8) = List.replicate 1 48 from rfl, Lib.repeatL_replicate, Nat.mul_one, Int.toNat_natCast]
theorem trimRight_calls (w : World) (s : ByteArray) (hs : s.size ≤ 1000000) : Calls Tryz.prog 108 #[.string s, .string ⟨#[48]⟩] w fun e w' => e = .returned (.string ⟨(Lib.trimRightB s.data.toList 48).toArray⟩) ∧ w' = w :=
  Any.strings_TrimRight_one lays162 s 48 (by decide) w (by omega)
theorem trimSuffix_calls (w : World) (s : ByteArray) (hs : s.size ≤ 1000000) : Calls Tryz.prog 107 #[.string s, .string ⟨#[46]⟩] w fun e w' => e = .returned (.string ⟨(Lib.trimSuffix s.data.toList [46]).toArray⟩) ∧ w' = w :=
  Any.strings_TrimSuffix lays102 s ⟨#[46]⟩ w (by omega)
theorem formatInt_calls (w : World) (hW : WT w) (n : Int) (h0 : -9223372036854775808 ≤ n) (h1 : n ≤ 9223372036854775807) : Calls Tryz.prog 61 #[.int .i64 n, .int .i64 10] w fun e w' => e = .returned (.string ⟨(Lib.itoa n).toArray⟩) ∧ Ext w w' := by
  refine (Any.strconv_FormatInt_10 laysM173 n h0 h1 w hW).mono ?_
  rintro e w' ⟨rfl, k, os, rfl⟩
  exact ⟨rfl, ⟨rfl, rfl, rfl, by first | (simp [Go.Sort.grow]; done) | (simp [Go.Sort.grow]; omega), fun i hi => by
    show ((w.drewN k).heap ++ os)[i]? = _
    rw [Array.getElem?_append_left (by show i < w.heap.size; omega)]
    rfl⟩⟩
def pointL (l : List UInt8) (d : Nat) : List UInt8 := l.take (l.length - d) ++ [46] ++ l.drop (l.length - d)
def padL (l : List UInt8) (d : Nat) : List UInt8 := List.replicate (d + 1 - l.length) 48 ++ l
def wpL (l : List UInt8) (d : Nat) : List UInt8 := if d = 0 then l else (if negL l then [45] else []) ++ pointL (padL (digL l) d) d
theorem dropWhile_len {α : Type} (p : α → Bool) : ∀ l : List α, (l.dropWhile p).length ≤ l.length
  | [] => Nat.le_refl _
  | x :: l => by
    have := dropWhile_len p l
    rw [List.dropWhile_cons]
    split
    · simp only [List.length_cons]; omega
    · exact Nat.le_refl _
theorem trimRight_len (l : List UInt8) (c : UInt8) : (Lib.trimRightB l c).length ≤ l.length := by
  unfold Lib.trimRightB
  rw [List.length_reverse]
  have := dropWhile_len (· == c) l.reverse
  rwa [List.length_reverse] at this
def shL (l : List UInt8) : List UInt8 := Lib.trimSuffix (Lib.trimRightB l 48) [46]
theorem shortest_calls (w : World) (s : ByteArray) (hs : s.size ≤ 1000000) : Calls Tryz.prog 60 #[.string s] w fun e w' => e = .returned (.string ⟨(shL s.data.toList).toArray⟩) ∧ w' = w := by
  go_enter Tryz.func60, Tryz.ntmps60
  go_wp2_with fail
  refine (trimRight_calls w s hs).mono ?_
  rintro e w' ⟨rfl, rfl⟩
  go_wp2_with fail
  refine (trimSuffix_calls w' _ ?_).mono ?_
  · show (Lib.trimRightB s.data.toList 48).toArray.size ≤ 1000000
    rw [List.size_toArray]
    have h1 := trimRight_len s.data.toList 48
    have h2 : s.data.toList.length = s.size := by rw [Array.length_toList]; rfl
    omega
  rintro e w' ⟨rfl, rfl⟩
  go_wp2
  go_ret
  exact ⟨rfl, rfl⟩
theorem point_eq (A T : ByteArray) (n m : Nat) (hm : m = T.size) : A ++ T.extract 0 n ++ ⟨#[46]⟩ ++ T.extract n m = ⟨(A.data.toList ++ (T.data.toList.take n ++ [46] ++ T.data.toList.drop n)).toArray⟩ := by
  subst hm
  refine ByteArray.ext (Array.toList_inj.1 ?_)
  have hs : T.size = T.data.toList.length := (bytes_len T).symm
  simp only [ByteArray.data_append, ByteArray.data_extract, Array.toList_append, Array.toList_extract, List.extract_eq_take_drop, List.drop_zero, Nat.sub_zero, hs, List.append_assoc]
  rw [List.take_of_length_le (i := T.data.toList.length - n) (by rw [List.length_drop]; exact Nat.le_refl _)]
theorem withPoint_calls (w : World) (s : ByteArray) (d : Nat) (hd : d ≤ 1000) (hs : s.size ≤ 100000) : Calls Tryz.prog 39 #[.string s, .int .i64 (d : Int)] w fun e w' => e = .returned (.string ⟨(wpL s.data.toList d).toArray⟩) ∧ Ext w w' := by
  rcases Nat.eq_zero_or_pos d with h0 | h0
  · subst h0
    go_enter Tryz.func39, Tryz.ntmps39
    go_wp2
    go_ret
    exact ⟨rfl, Ext.refl w⟩
  · go_enter Tryz.func39, Tryz.ntmps39
    go_wp2_with fail
    refine (cut_calls w s).mono ?_
    rintro e w' ⟨D, rfl, hD, rfl⟩
    have hDs : D.size ≤ s.size := by
      have h1 := digL_len s.data.toList
      rw [← hD] at h1
      have h2 : s.data.toList.length = s.size := by rw [Array.length_toList]; rfl
      have h3 : D.data.toList.length = D.size := by rw [Array.length_toList]; rfl
      omega
    go_wp2_with fail
    refine (repeat_calls w _ (by omega) (by omega)).mono ?_
    rintro e w' ⟨R, rfl, hR, ex⟩
    have hRs : R.size = (max 0 ((d : Int) + 1 - (D.size : Int))).toNat := by
      have h2 : R.data.toList.length = R.size := by rw [Array.length_toList]; rfl
      rw [← h2, hR, List.length_replicate]
    obtain ⟨T, hT⟩ : ∃ T, T = R ++ D := ⟨_, rfl⟩
    have hTs : T.size = R.size + D.size := by rw [hT]; exact ByteArray.size_append
    have hTd : d < T.size := by omega
    have hTm : T.size ≤ 200000 := by omega
    have hl : T.data.toList = padL (digL s.data.toList) d := by
      unfold padL
      rw [hT, ByteArray.data_append, Array.toList_append, hR, hD, ← hD, bytes_len, show (max 0 ((d : Int) + 1 - (D.size : Int))).toNat = d + 1 - D.size by omega]
    have hn : (max 0 ((d : Int) + 1 - (D.size : Int)) + (D.size : Int)).toNat = T.size := by omega
    have fin : ∀ (b : Bool) (A : ByteArray), negL s.data.toList = b → A.data.toList = (if b then [45] else []) → ∀ m, m = T.size → A ++ T.extract 0 ((max 0 ((d : Int) + 1 - (D.size : Int)) + (D.size : Int)).toNat - d) ++ ⟨#[46]⟩ ++ T.extract ((max 0 ((d : Int) + 1 - (D.size : Int)) + (D.size : Int)).toNat - d) m = ⟨(wpL s.data.toList d).toArray⟩ := by
      intro b A hb hA m hm
      rw [point_eq A T _ _ hm, hA, hn, hl]
      have hd0 : ¬ d = 0 := by omega
      unfold wpL pointL
      rw [if_neg hd0, hb, ← hl, bytes_len]
    have HF := Lib.hid fin
    clear hn hl fin
    go_wp2
    · go_quiet (fail)
      go_wp2
      go_ret
      have hb : negL s.data.toList = true := by assumption
      exact ⟨congrArg (fun x => Ending.returned (.string x)) (by rw [← hT]; exact HF.out true ⟨#[45]⟩ hb rfl _ (by omega)), Ext.drewN ex _⟩
    · go_quiet (fail)
      go_wp2
      go_ret
      have hb : negL s.data.toList = false := by assumption
      exact ⟨congrArg (fun x => Ending.returned (.string x)) (by rw [← hT]; exact HF.out false ⟨#[]⟩ hb rfl _ (by omega)), Ext.drewN ex _⟩
end Go.Proofs.YtnejcdjakjmklaaGreatDoor
end

section
set_option maxRecDepth 100000
namespace Go.Proofs.YtnejcdjakjmklaaGreatDoor
open Go.RowKit
theorem rsign_rat_calls (w : World) (v1 : Value) (n d : Int) (h1 : IsPair w v1 n d) (l1 : Lim 100000 n) (l1' : Lim 100000 d) : Calls Tryz.prog 66 #[v1] w fun e w' => e = .returned (.int .i64 (cmpZ n 0)) ∧ Ext w w' := by
  refine (fun_sound (E := zE [n, d]) (args := [argQ 0]) (T := .leaf [(false, [.n .i64 (.a2 3 (.var 0) (.lit 0))])])
    mixed (cfg_ok (.cons (kIn_ok (f := 79) (g := fun x => .a2 3 x (.lit 0)) (fun x => cmpZ x 0) (fun _ => rfl) (fun w v z h => rsign_calls w v z h) ⟨_, Tryz.func79, by decide +kernel, by kernel_rfl⟩) .nil))
    no_asm Tryz.func66 (by decide +kernel) (by kernel_rfl) (by decide +kernel) rfl w [v1] rfl ?_).mono ?_
  · intro i x hx
    match i, hx with
    | 0, hx => injection hx with hx; subst hx; exact ⟨fun _ => 0, v1, rfl, argP_holds h1 l1 l1' rfl rfl⟩
  · rintro e w' ⟨β, v, rfl, hh, ex⟩
    have := one_num.1 hh
    subst this
    exact ⟨rfl, ex⟩
theorem kSgF_ok {E : Env} {f : Nat} (hc : ∀ (w : World) (v1 : Value) (n d : Int), IsPair w v1 n d → Lim 100000 n → Lim 100000 d → Calls Tryz.prog f #[v1] w fun e w' => e = .returned (.int .i64 (cmpZ n 0)) ∧ Ext w w')
    (hb : ∃ fn, Tryz.prog.funcs[f]? = some fn ∧ fn.name ≠ "runtime.NumGoroutine" ∧ fn.body.isNone = false) : ConOK Tryz.prog E f kSg := by
  refine ⟨?_, ?_, hb⟩
  · intro args As r h hG β w vs hv hlen
    unfold kSg at h
    split at h
    · split at h
      · rename_i hlo
        injection h with h
        subst h
        simp only [Bool.and_eq_true, decide_eq_true_iff] at hlo
        obtain ⟨v, rfl, h1⟩ := args1 hv hlen
        obtain ⟨p1, a1, a2⟩ := one_pair.1 h1
        refine (hc w v _ _ p1 (a1.mono hlo.1) (a2.mono hlo.2)).mono ?_
        rintro e w' ⟨rfl, ex⟩
        exact ⟨_, rfl, one_num.2 rfl, ex⟩
      · cases h
    · cases h
  · intro args As r h x off
    unfold kSg at h
    split at h
    · split at h
      · injection h with h; subst h; intro e; cases e
      · cases h
    · cases h
theorem rcmp_rat_calls (w : World) (v1 v2 : Value) (a b : Rat) (h1 : IsRat w v1 a) (h2 : IsRat w v2 b) (l1 : LimQ 100000 a) (l2 : LimQ 100000 b) :
    Calls Tryz.prog 16 #[v1, v2] w fun e w' => e = .returned (.int .i64 (cmpZ (a.num * (b.den : Int)) (b.num * (a.den : Int)))) ∧ Ext w w' := by
  refine (walkQ2 (T := .leaf [(false, [.n .i64 (.a2 3 (.a2 2 (.var 0) (.var 3)) (.a2 2 (.var 2) (.var 1)))])])
    (tab := (56, kIIn (.a2 3)) :: tabR3 true)
    (.cons (kIIn_ok cmpZ (fun _ _ => rfl) (fun w v1 v2 z1 z2 h1 h2 => rcmp_calls w v1 v2 z1 z2 h1 h2) ⟨_, Tryz.func56, by decide +kernel, by kernel_rfl⟩) (tabR3_ok (q := true) (fun _ => qE_ok _)))
    Tryz.func16 (by kernel_rfl) (by decide +kernel) (by decide +kernel) h1 h2 l1 l2).mono ?_
  rintro e w' ⟨β, v, rfl, hh, ex⟩
  have := one_num.1 hh
  subst this
  exact ⟨rfl, ex⟩
def tabT : List (Nat × Con) :=
  (66, kSg)  ::
  (124, kSg)  ::
  (16, kCmpQ)  ::
  
  tabQ
theorem tabT_ok {E : Env} (hE : QEnv E) : TabOK Tryz.prog E tabT := by
  refine .cons (kSgF_ok (fun w v1 n d h l m => rsign_rat_calls w v1 n d h l m) ⟨_, Tryz.func66, by decide +kernel, by kernel_rfl⟩) ?_ 
  refine .cons kSg_ok ?_ 
  refine .cons (kCmpQ_ok hE (fun w v1 v2 a b h1 h2 l1 l2 => rcmp_rat_calls w v1 v2 a b h1 h2 l1 l2) ⟨_, Tryz.func16, by decide +kernel, by kernel_rfl⟩) ?_
  
  exact tabQ_ok hE

abbrev IT2 := IT × IT
def qv (i : Nat) : IT2 := (.var (2 * i), .var (2 * i + 1))
def qop (f : Nat) (p q : IT2) : IT2 := (.a4 (2 * f) p.1 p.2 q.1 q.2, .a4 (2 * f + 1) p.1 p.2 q.1 q.2)
def RepQ (E : Env) (p : IT2) (q : Rat) : Prop := p.1.den E = q.num ∧ p.2.den E = (q.den : Int)
theorem rep_op {E : Env} {f : Nat} {p q : IT2} {a b : Rat} (hf : f ≠ 4) (hp : RepQ E p a) (hq : RepQ E q b) : RepQ E (qop f p q) (ratF f a b) := by
  constructor
  · show fn4 (2 * f) (p.1.den E) (p.2.den E) (q.1.den E) (q.2.den E) = _
    rw [hp.1, hp.2, hq.1, hq.2, fn4_num (by omega), show 2 * f / 2 = f by omega]
  · show fn4 (2 * f + 1) (p.1.den E) (p.2.den E) (q.1.den E) (q.2.den E) = _
    rw [hp.1, hp.2, hq.1, hq.2, fn4_den (by omega) (by omega), show (2 * f + 1) / 2 = f by omega]
theorem rep_div {E : Env} {p q : IT2} {a b : Rat} (hb : b ≠ 0) (hp : RepQ E p a) (hq : RepQ E q b) : RepQ E (qop 4 p q) (a / b) := by
  constructor
  · show fn4 8 (p.1.den E) (p.2.den E) (q.1.den E) (q.2.den E) = _
    rw [hp.1, hp.2, hq.1, hq.2, fn4_num rfl]; rfl
  · show fn4 9 (p.1.den E) (p.2.den E) (q.1.den E) (q.2.den E) = _
    rw [hp.1, hp.2, hq.1, hq.2]
    unfold fn4
    rw [if_neg (by decide), divInt_parts, divInt_parts, if_neg (fun e => hb e.2)]
    rfl
theorem rep_v {l : List Rat} {i : Nat} : RepQ (qE l) (qv i) (l.getD i 0) := by
  constructor
  · show (if 2 * i % 2 = 0 then _ else _) = _
    rw [if_pos (by omega), show 2 * i / 2 = i by omega]
  · show (if (2 * i + 1) % 2 = 0 then _ else _) = _
    rw [if_neg (by omega), show (2 * i + 1) / 2 = i by omega]
end Go.Proofs.YtnejcdjakjmklaaGreatDoor
end

section
set_option maxRecDepth 100000
namespace Go.Proofs.YtnejcdjakjmklaaGreatDoor
open Go.RowKit
end Go.Proofs.YtnejcdjakjmklaaGreatDoor
end

section
set_option maxRecDepth 100000
namespace Go.Proofs.YtnejcdjakjmklaaGreatDoor
open Go.RowKit
def sgQ (q : Rat) : Int := cmpZ q.num 0
theorem num_pos_iff (q : Rat) : 0 < q.num ↔ 0 < q := by
  have h1 : 0 ≤ q.num ↔ 0 ≤ q := Rat.num_nonneg
  have h2 : q.num = 0 ↔ q = 0 := Rat.num_eq_zero
  constructor
  · intro h
    have a := h1.1 (by omega)
    have b : q ≠ 0 := fun e => by have := h2.2 e; omega
    grind
  · intro h
    have a := h1.2 (by grind)
    have b : q.num ≠ 0 := fun e => by have := h2.1 e; grind
    omega
theorem sgQ_cases (q : Rat) : (q < 0 ∧ sgQ q = -1) ∨ (q = 0 ∧ sgQ q = 0) ∨ (0 < q ∧ sgQ q = 1) := by
  have h1 := num_pos_iff q
  have h2 : q.num = 0 ↔ q = 0 := Rat.num_eq_zero
  unfold sgQ
  rcases cmpZ_cases q.num 0 with ⟨h, e⟩ | ⟨h, e⟩ | ⟨h, e⟩
  · refine .inl ⟨?_, e⟩
    have a : ¬ 0 < q := fun k => by have := h1.2 k; omega
    have b : q ≠ 0 := fun k => by have := h2.2 k; omega
    grind
  · exact .inr (.inl ⟨h2.1 h, e⟩)
  · exact .inr (.inr ⟨h1.1 h, e⟩)
theorem sgQ_pos {q : Rat} (h : 0 < q) : sgQ q = 1 := by rcases sgQ_cases q with ⟨k, e⟩ | ⟨k, e⟩ | ⟨k, e⟩ <;> grind
theorem sgQ_neg' {q : Rat} (h : q < 0) : sgQ q = -1 := by rcases sgQ_cases q with ⟨k, e⟩ | ⟨k, e⟩ | ⟨k, e⟩ <;> grind
theorem sgQ_opp (q : Rat) : sgQ (-q) = - sgQ q := by
  rcases sgQ_cases q with ⟨k, e⟩ | ⟨k, e⟩ | ⟨k, e⟩
  · rw [e, sgQ_pos (by grind)]; rfl
  · rw [e, k]; rfl
  · rw [e, sgQ_neg' (by grind)]
theorem sgQ_mul (a b : Rat) : sgQ (a * b) = sgQ a * sgQ b := by
  rcases sgQ_cases a with ⟨k, e⟩ | ⟨k, e⟩ | ⟨k, e⟩ <;> rcases sgQ_cases b with ⟨j, f⟩ | ⟨j, f⟩ | ⟨j, f⟩ <;> rw [e, f]
  · have := Rat.mul_pos (a := -a) (b := -b) (by grind) (by grind)
    rw [sgQ_pos (by grind)]; rfl
  · rw [j, Rat.mul_zero]; rfl
  · have := Rat.mul_pos (a := -a) (b := b) (by grind) (by grind)
    rw [sgQ_neg' (by grind)]; rfl
  · rw [k, Rat.zero_mul]; rfl
  · rw [k, Rat.zero_mul]; rfl
  · rw [k, Rat.zero_mul]; rfl
  · have := Rat.mul_pos (a := a) (b := -b) (by grind) (by grind)
    rw [sgQ_neg' (by grind)]; rfl
  · rw [j, Rat.mul_zero]; rfl
  · rw [sgQ_pos (Rat.mul_pos k j)]; rfl
theorem cmpQ_sub (a b : Rat) : cmpZ (a.num * (b.den : Int)) (b.num * (a.den : Int)) = sgQ (a - b) := by
  have h1 := Rat.lt_iff a b
  have h2 := Rat.lt_iff b a
  rcases cmpZ_cases (a.num * (b.den : Int)) (b.num * (a.den : Int)) with ⟨h, e⟩ | ⟨h, e⟩ | ⟨h, e⟩
  · have := h1.2 h
    rw [e, sgQ_neg' (by grind)]
  · have k1 : ¬ a < b := fun k => by have := h1.1 k; omega
    have k2 : ¬ b < a := fun k => by have := h2.1 k; omega
    have : a - b = 0 := by grind
    rw [e, this]; rfl
  · have := h2.2 h
    rw [e, sgQ_pos (by grind)]
def qcmp (p q : IT2) : IT := .a2 3 (.a2 2 p.1 q.2) (.a2 2 q.1 p.2)
theorem rep_cmp {E : Env} {p q : IT2} {a b : Rat} (hp : RepQ E p a) (hq : RepQ E q b) : (qcmp p q).den E = sgQ (a - b) := by
  show cmpZ (p.1.den E * q.2.den E) (q.1.den E * p.2.den E) = _
  rw [hp.1, hp.2, hq.1, hq.2, cmpQ_sub]
theorem rfromInt_calls (w : World) (v : Value) (z : Int) (h : IsInt w v z) (l : Lim 400000 z) : Calls Tryz.prog 113 #[v] w (Ret (fun v w' => IsPair w' v z 1) w) := by
  refine (walkZ1 (T := .leaf [(true, [.int (.var 0) 400000, .int (.lit 1) 3])]) (tabR3_ok (q := false) (fun h => by cases h)) Tryz.func113 (by kernel_rfl) (by decide +kernel) (by decide +kernel) h l).mono ?_
  rintro e w' ⟨β, v, rfl, hh, ex⟩
  exact ⟨v, rfl, (one_pair.1 hh).1, ex⟩
end Go.Proofs.YtnejcdjakjmklaaGreatDoor
end
