/-
  The division of a list of limbs by one limb.
-/
import Derived.Test.YtfjaboolfjgleaaDiv
namespace Go.Proofs.Ytfjaboolfjgleaa
open Go.RowKit

/-- What the loop of divideShort keeps: what has been divided so far, its quotient and its rest. -/
def ShortRel (w : World) (g : Nat) (xs : List Nat) (y k rr : Nat) (qs : List Nat) (wr : World) : Prop :=
  qs.length = xs.length ∧ Dig qs ∧ Blk wr g qs ∧ Ext w wr ∧ val (xs.drop k) = y * val (qs.drop k) + rr ∧ rr < y
theorem ShortRel.step {w : World} {g : Nat} {xs : List Nat} {y k rr : Nat} {qs : List Nat} {wr : World} (h : ShortRel w g xs y (k + 1) rr qs wr) (hg : w.heap.size ≤ g) (hk : k < xs.length) (dx : Dig xs)
    (cur q r : Nat) (hc : cur = rr * 1000000000 + xs.getD k 0) (hq : q = cur / y) (hr : r = cur % y) {V : Int} (hV : V = q) :
    ShortRel w g xs y k r (qs.set k q) (wr.setCell ⟨g, k, none⟩ (.int .u32 V)) ∧ q < 1000000000 ∧ r < y := by
  obtain ⟨h1, h2, h3, h4, h5, h6⟩ := h
  have hx := dx k
  have hlt : cur < y * 1000000000 := by omega
  have hq1 : q < 1000000000 := by rw [hq]; exact Nat.div_lt_of_lt_mul hlt
  have hr1 : r < y := by rw [hr]; exact Nat.mod_lt _ (by omega)
  refine ⟨⟨by simpa using h1, h2.set k hq1, h3.set' k q (by omega) hV, h4.setCell (p := ⟨g, k, none⟩) hg _, ?_, hr1⟩, hq1, hr1⟩
  have e1 := val_drop xs k hk
  have e2 := val_drop (qs.set k q) k (by simpa [h1] using hk)
  have e3 : (qs.set k q).getD k 0 = q := by simp [List.getD_eq_getElem?_getD, h1, hk]
  have e4 : (qs.set k q).drop (k + 1) = qs.drop (k + 1) := by rw [List.drop_set_of_lt (by omega)]
  have e5 := Nat.div_add_mod cur y
  rw [← hq, ← hr] at e5
  rw [e3, e4] at e2
  rw [e1, e2, h5]
  generalize val (qs.drop (k + 1)) = D
  generalize xs.getD k 0 = x at *
  have e6 : y * (q + 1000000000 * D) = 1000000000 * (y * D) + y * q := by rw [Nat.mul_add, Nat.mul_left_comm]; omega
  omega

set_option maxRecDepth 100000 in
set_option maxHeartbeats 800000 in
theorem divideShort_calls (w : World) (ax : Option Addr) (xs : List Nat) (cx y : Nat) (lx : xs.length ≤ 1048576) (l0 : 0 < xs.length) (hx : Cells w ax xs) (dx : Dig xs) (hy0 : 0 < y) (hy : y < 1000000000) :
    Calls Try.prog 70 #[.slice ax xs.length cx, .int .u32 (y : Int)] w
      (Ret2 (IsLimbs (val xs / y)) (fun v _ => v = .int .u32 ((val xs % y : Nat) : Int)) w) := by
  have hmk := run_mk xs.length (by omega) ↑xs.length (by omega)
  go_enter Try.func70, Try.ntmps70
  go_wp2
  clear hmk
  have h0 : ShortRel w w.heap.size xs y xs.length 0 (List.replicate xs.length 0) (w.alloc (.cells (u32s (List.replicate xs.length 0)) 46)) :=
    ⟨by simp, Dig.replicate _, Blk.new _ _, (Ext.refl w).alloc _, by rw [val_drop_len]; simp [val], hy0⟩
  go_loopw [7, 8] (fun r i wr => ∃ (k rr : Nat) (qs : List Nat), k ≤ xs.length ∧ i = .int .i64 ((k : Int) - 1) ∧ r = .int .u64 rr ∧ ShortRel w w.heap.size xs y k rr qs wr) (fun _ i _ => (intOf i + 1).toNat)
  case atStart => exact ⟨xs.length, 0, _, Nat.le_refl _, by go_num, rfl, h0⟩
  case round =>
    obtain ⟨k, rr, qs, hk, rfl, rfl, hR⟩ := hrel
    clear h0
    rcases k with _ | k
    · obtain ⟨h1, h2, h3, h4, h5, h6⟩ := hR
      have HD := Lib.hid ((Nat.div_mod_unique (a := val xs) (d := val qs) (c := rr) hy0).2 ⟨by rw [List.drop_zero, List.drop_zero] at h5; omega, h6⟩)
      have br : (rr : Int) < 1000000000 := by omega
      have H1 := Lib.hid h1
      have T := Lib.hid (trim_calls wr (some ⟨w.heap.size, 0, none⟩) qs qs.length (Nat.le_refl _) (by omega) h3.cells h2)
      clear h5 h6 h1
      go_wp2_with fail
      rw [← H1.out]
      refine T.out.mono ?_
      rintro e w' ⟨rfl, rfl⟩
      go_wp2
      go_ret2
      exact ⟨_, _, rfl, by rw [HD.out.1]; exact ⟨_, _, rfl, by rw [← trimN_length h2]; exact trimN_le _ _, by rw [H1.out]; omega, h3.cells.trim h2⟩, by rw [HD.out.2]; rfl, h4⟩
    · have hk2 : k < xs.length := by omega
      have hzc := hR.2.2.1.cell k (by have := hR.1; omega)
      have hzf := hR.2.2.1.frozen k
      obtain ⟨b, off, rfl, hx1⟩ := hx.at_ (by omega)
      have hcx := hR.2.2.2.1.cell (hx1 k hk2)
      have bx0 := dx k
      have br0 := hR.2.2.2.2.2
      have hst := fun cur q r hc hq hr V hV => hR.step (Nat.le_refl _) hk2 dx cur q r hc hq hr (V := V) hV
      generalize xs.getD k 0 = x at *
      have bx : (x : Int) < 1000000000 := by omega
      have br : (rr : Int) < 1000000000 := by omega
      obtain ⟨cur, hc⟩ : ∃ cur, cur = rr * 1000000000 + x := ⟨_, rfl⟩
      obtain ⟨q, hq⟩ : ∃ q, q = cur / y := ⟨_, rfl⟩
      obtain ⟨r, hr⟩ : ∃ r, r = cur % y := ⟨_, rfl⟩
      have HST := Lib.hid (hst cur q r hc hq hr q rfl)
      have hcI : (rr : Int) * 1000000000 + (x : Int) = (cur : Int) := by omega
      have f0 := wrap_quo cur y q (by omega) hq
      obtain ⟨f1, f2⟩ := rem_nat cur y r hr
      have f3 : ¬ y = 0 := by omega
      have f4 : (q : Int) < 1000000000 := by have := HST.out.2.1; omega
      have ek : ((k + 1 : Nat) : Int) - 1 = (k : Int) := by omega
      rw [ek]
      clear hst hx1 bx0 br0 hc hq hr ek
      go_wp2
      go_roundw
      case rel => exact ⟨k, r, _, by omega, by go_num, by go_num, HST.out.1⟩
      case measure => simp [intOf]

set_option maxRecDepth 100000 in
set_option maxHeartbeats 800000 in
theorem divOK_short (m n : Nat) (lx : (limbs m).length ≤ 1048576) (h : 2 < (limbs m).length) (hn : (limbs n).length = 1) : DivOK m n := by
  intro w ax ay cx cy kx ky bx by_ hx hy
  obtain ⟨b, off, rfl, hy1⟩ := hy.at_ (by omega)
  have hc := hy1 0 (by omega)
  rw [Nat.add_zero] at hc
  have hd := dig_limbs n 0
  have hv : (limbs n).getD 0 0 = n := by
    have h1 := val_limbs n
    have h2 := val_drop (limbs n) 0 (by omega)
    rw [List.drop_zero, h1, List.drop_of_length_le (by omega)] at h2
    simp only [val] at h2
    omega
  have hn0 : 0 < n := by
    rcases Nat.eq_zero_or_pos n with h0 | h0
    · subst h0; rw [limbs_zero] at hn; simp at hn
    · exact h0
  rw [hv] at hc hd
  have hcall := divideShort_calls w ax (limbs m) cx n lx (by omega) hx (dig_limbs m) hn0 hd
  rw [val_limbs] at hcall
  have HS := Lib.hid hcall
  have HB := Lib.hid (show n < 1000000000 from hd)
  have HN := Lib.hid hn0
  have l1 : decide (((limbs m).length : Int) ≤ 2) = false := decide_eq_false (by omega)
  have l2 : (1 : Int) ≤ ((limbs m).length : Int) := by omega
  clear hcall hv hy1 hd hn0 h
  rw [hn]
  clear hn
  go_enter Try.func57, Try.ntmps57
  go_wp2_with fail
  refine HS.out.mono ?_
  rintro e w1 ⟨v1, v2, rfl, hv1, rfl, e1⟩
  have hr : m % n < 1000000000 := Nat.lt_trans (Nat.mod_lt m HN.out) HB.out
  generalize m % n = r at *
  have hrI : (r : Int) < 1000000000 := by omega
  have HR := Lib.hid hr
  clear hr
  go_wp2_with fail
  refine (limbsOf_calls w1 r (by have := HR.out; omega)).mono ?_
  rintro e w2 ⟨v2, rfl, hv2, e2⟩
  go_wp2
  go_ret2
  exact ⟨_, _, rfl, hv1.ext e2, hv2, e1.trans e2⟩

end Go.Proofs.Ytfjaboolfjgleaa
