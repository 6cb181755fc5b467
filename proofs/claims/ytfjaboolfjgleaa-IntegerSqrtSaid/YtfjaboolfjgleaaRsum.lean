/-
  The reference's sums and differences of lists of limbs.
-/
import Derived.Test.YtfjaboolfjgleaaSum
namespace Go.Proofs.Ytfjaboolfjgleaa
open Go.RowKit

set_option maxRecDepth 100000 in
set_option maxHeartbeats 800000 in
theorem plus_calls (w : World) (ax ay : Option Addr) (xs ys : List Nat) (cx cy : Nat) (lx : xs.length ≤ 1099511627776) (ly : ys.length ≤ 1099511627776) (hx : Cells w ax xs) (hy : Cells w ay ys) (dx : Dig xs) (dy : Dig ys) :
    Calls Try.prog 49 #[.slice ax xs.length cx, .slice ay ys.length cy] w (Ret (IsLimbs (val xs + val ys)) w) := by
  by_cases hlt : xs.length < ys.length
  · have hmk := run_mk (ys.length + 1) (by omega) (↑ys.length + 1) (by omega)
    go_enter Try.func49, Try.ntmps49
    go_wp2
    clear hmk
    have h0 : AddRel w w.heap.size ys xs 0 0 (List.replicate (ys.length + 1) 0) (w.alloc (.cells (u32s (List.replicate (ys.length + 1) 0)) 46)) :=
      ⟨by simp, Dig.replicate _, Blk.new _ _, (Ext.refl w).alloc _, by simp [val]⟩
    go_loopw [6, 7] (fun c n wr => ∃ (k cv : Nat) (zs : List Nat), k ≤ ys.length ∧ n = .int .i64 k ∧ c = .int .u32 cv ∧ cv ≤ 1 ∧ AddRel w w.heap.size ys xs k cv zs wr) (fun _ n _ => ys.length - (intOf n).toNat)
    case atStart => exact ⟨0, 0, _, Nat.zero_le _, rfl, rfl, by omega, h0⟩
    case round =>
      obtain ⟨k, cv, zs, hk, rfl, rfl, hcv, hR⟩ := hrel
      clear h0
      by_cases hk2 : k < ys.length
      · have hzc := hR.2.2.1.cell k (by have := hR.1; omega)
        have hzf := hR.2.2.1.frozen k
        obtain ⟨b1, o1, rfl, hx1⟩ := hy.at_ (by omega)
        have hcx := hR.2.2.2.1.cell (hx1 k hk2)
        have bx0 := dy k
        have by0 := dx k
        have hst := fun d cv' hd he V hV => hR.step (Nat.le_refl _) hk2 d cv' hd he (V := V) hV
        have HST := Lib.hid hst
        clear hst hx1
        by_cases hk3 : k < xs.length
        · obtain ⟨b2, o2, rfl, hy1⟩ := hx.at_ (by omega)
          have hcy := hR.2.2.2.1.cell (hy1 k hk3)
          clear hy1
          generalize ys.getD k 0 = x at *
          generalize xs.getD k 0 = y at *
          have bx : (x : Int) < 1000000000 := by omega
          have by_ : (y : Int) < 1000000000 := by omega
          clear bx0 by0
          go_wp2
          go_roundw
          case rel => exact ⟨k + 1, (cv + x + y) / 1000000000, _, by omega, by go_num, by go_num, by omega, HST.out ((cv + x + y) % 1000000000) _ (by omega) (by omega) _ (by omega)⟩
          case measure => simp [intOf]; omega
        · have hy0 : xs.getD k 0 = 0 := by rw [List.getD_eq_getElem?_getD, List.getElem?_eq_none (by omega)]; rfl
          rw [hy0] at HST
          clear hy0 by0
          generalize ys.getD k 0 = x at *
          have bx : (x : Int) < 1000000000 := by omega
          clear bx0
          go_wp2
          go_roundw
          case rel => exact ⟨k + 1, (cv + x) / 1000000000, _, by omega, by go_num, by go_num, by omega, HST.out ((cv + x) % 1000000000) _ (by omega) (by omega) _ (by omega)⟩
          case measure => simp [intOf]; omega
      · obtain ⟨rs, r1, r2, r3, r4, r5⟩ := hR.done (Nat.le_refl _) (by omega) (by omega) hcv
        have hzc := hR.2.2.1.cell ys.length (by have := hR.1; omega)
        have hzf := hR.2.2.1.frozen ys.length
        have R1 := Lib.hid r1
        have R5 := Lib.hid r5
        clear r1 r5
        go_wp2_with fail
        rw [← R1.out]
        refine (rtrim_calls _ _ _ _ (Nat.le_refl _) (by rw [R1.out]; omega) r3.cells r2).mono ?_
        rintro e w' ⟨rfl, rfl⟩
        go_wp2
        go_ret
        exact ⟨_, rfl, by rw [Nat.add_comm, ← R5.out]; exact ⟨_, _, rfl, by rw [R1.out, ← trimN_length r2, ← R1.out]; exact trimN_le _ _, by rw [R1.out]; omega, r3.cells.trim r2⟩, r4⟩
  · have hmk := run_mk (xs.length + 1) (by omega) (↑xs.length + 1) (by omega)
    go_enter Try.func49, Try.ntmps49
    go_wp2
    clear hmk
    have h0 : AddRel w w.heap.size xs ys 0 0 (List.replicate (xs.length + 1) 0) (w.alloc (.cells (u32s (List.replicate (xs.length + 1) 0)) 46)) :=
      ⟨by simp, Dig.replicate _, Blk.new _ _, (Ext.refl w).alloc _, by simp [val]⟩
    go_loopw [6, 7] (fun c n wr => ∃ (k cv : Nat) (zs : List Nat), k ≤ xs.length ∧ n = .int .i64 k ∧ c = .int .u32 cv ∧ cv ≤ 1 ∧ AddRel w w.heap.size xs ys k cv zs wr) (fun _ n _ => xs.length - (intOf n).toNat)
    case atStart => exact ⟨0, 0, _, Nat.zero_le _, rfl, rfl, by omega, h0⟩
    case round =>
      obtain ⟨k, cv, zs, hk, rfl, rfl, hcv, hR⟩ := hrel
      clear h0
      by_cases hk2 : k < xs.length
      · have hzc := hR.2.2.1.cell k (by have := hR.1; omega)
        have hzf := hR.2.2.1.frozen k
        obtain ⟨b1, o1, rfl, hx1⟩ := hx.at_ (by omega)
        have hcx := hR.2.2.2.1.cell (hx1 k hk2)
        have bx0 := dx k
        have by0 := dy k
        have hst := fun d cv' hd he V hV => hR.step (Nat.le_refl _) hk2 d cv' hd he (V := V) hV
        have HST := Lib.hid hst
        clear hst hx1
        by_cases hk3 : k < ys.length
        · obtain ⟨b2, o2, rfl, hy1⟩ := hy.at_ (by omega)
          have hcy := hR.2.2.2.1.cell (hy1 k hk3)
          clear hy1
          generalize xs.getD k 0 = x at *
          generalize ys.getD k 0 = y at *
          have bx : (x : Int) < 1000000000 := by omega
          have by_ : (y : Int) < 1000000000 := by omega
          clear bx0 by0
          go_wp2
          go_roundw
          case rel => exact ⟨k + 1, (cv + x + y) / 1000000000, _, by omega, by go_num, by go_num, by omega, HST.out ((cv + x + y) % 1000000000) _ (by omega) (by omega) _ (by omega)⟩
          case measure => simp [intOf]; omega
        · have hy0 : ys.getD k 0 = 0 := by rw [List.getD_eq_getElem?_getD, List.getElem?_eq_none (by omega)]; rfl
          rw [hy0] at HST
          clear hy0 by0
          generalize xs.getD k 0 = x at *
          have bx : (x : Int) < 1000000000 := by omega
          clear bx0
          go_wp2
          go_roundw
          case rel => exact ⟨k + 1, (cv + x) / 1000000000, _, by omega, by go_num, by go_num, by omega, HST.out ((cv + x) % 1000000000) _ (by omega) (by omega) _ (by omega)⟩
          case measure => simp [intOf]; omega
      · obtain ⟨rs, r1, r2, r3, r4, r5⟩ := hR.done (Nat.le_refl _) (by omega) (by omega) hcv
        have hzc := hR.2.2.1.cell xs.length (by have := hR.1; omega)
        have hzf := hR.2.2.1.frozen xs.length
        have R1 := Lib.hid r1
        have R5 := Lib.hid r5
        clear r1 r5
        go_wp2_with fail
        rw [← R1.out]
        refine (rtrim_calls _ _ _ _ (Nat.le_refl _) (by rw [R1.out]; omega) r3.cells r2).mono ?_
        rintro e w' ⟨rfl, rfl⟩
        go_wp2
        go_ret
        exact ⟨_, rfl, by rw [← R5.out]; exact ⟨_, _, rfl, by rw [R1.out, ← trimN_length r2, ← R1.out]; exact trimN_le _ _, by rw [R1.out]; omega, r3.cells.trim r2⟩, r4⟩

/-- What holds after k rounds of a subtraction. -/
def SubRel (w : World) (g : Nat) (xs ys : List Nat) (k bv : Nat) (zs : List Nat) (wr : World) : Prop :=
  zs.length = xs.length ∧ Dig zs ∧ Blk wr g zs ∧ Ext w wr ∧ val (zs.take k) + val (ys.take k) = val (xs.take k) + 1000000000 ^ k * bv
theorem SubRel.step {w : World} {g : Nat} {xs ys : List Nat} {k bv : Nat} {zs : List Nat} {wr : World} (h : SubRel w g xs ys k bv zs wr) (hg : w.heap.size ≤ g) (hk : k < xs.length)
    (d bv' : Nat) (hd : d < 1000000000) (he : d + bv + ys.getD k 0 = xs.getD k 0 + 1000000000 * bv') {V : Int} (hV : V = d) :
    SubRel w g xs ys (k + 1) bv' (zs.set k d) (wr.setCell ⟨g, k, none⟩ (.int .u32 V)) := by
  obtain ⟨h1, h2, h3, h4, h5⟩ := h
  refine ⟨by simpa using h1, h2.set k hd, h3.set' k d (by omega) hV, h4.setCell (p := ⟨g, k, none⟩) hg _, ?_⟩
  rw [val_take_set _ _ _ (by omega), val_take_succ', val_take_succ' xs, Nat.pow_succ]
  generalize 1000000000 ^ k = p at *
  have e : p * d + p * bv + p * (ys.getD k 0) = p * (xs.getD k 0) + p * 1000000000 * bv' := by
    rw [← Nat.mul_add, ← Nat.mul_add, he, Nat.mul_add, Nat.mul_assoc]
  omega
/-- At the end nothing is borrowed, if the first number is not less. -/
theorem SubRel.val_eq {w : World} {g : Nat} {xs ys : List Nat} {k bv : Nat} {zs : List Nat} {wr : World} (h : SubRel w g xs ys k bv zs wr) (hk : k = xs.length) (hy : ys.length ≤ xs.length) (hb : bv ≤ 1) (hle : val ys ≤ val xs) :
    val zs = val xs - val ys := by
  subst hk
  obtain ⟨h1, h2, h3, h4, h5⟩ := h
  rw [List.take_of_length_le (by omega), List.take_of_length_le hy, List.take_of_length_le (Nat.le_refl _)] at h5
  have := val_lt h2
  rw [h1] at this
  rcases Nat.eq_zero_or_pos bv with h0 | h0
  · rw [h0] at h5; omega
  · obtain rfl : bv = 1 := by omega
    omega

set_option maxRecDepth 100000 in
set_option maxHeartbeats 800000 in
theorem minus_calls (w : World) (ax ay : Option Addr) (m n : Nat) (cx cy : Nat) (lx : (limbs m).length ≤ 1099511627776) (hmn : n ≤ m) (hx : Cells w ax (limbs m)) (hy : Cells w ay (limbs n)) :
    Calls Try.prog 51 #[.slice ax (limbs m).length cx, .slice ay (limbs n).length cy] w (Ret (IsLimbs (m - n)) w) := by
  have hle := limbs_len_mono hmn
  have dx := dig_limbs m
  have dy := dig_limbs n
  have HV : Hid (val (limbs n) ≤ val (limbs m)) := by unfold Hid; rw [val_limbs, val_limbs]; exact hmn
  have HE : Hid (val (limbs m) - val (limbs n) = m - n) := by unfold Hid; rw [val_limbs, val_limbs]
  clear hmn
  generalize limbs m = xs at *
  generalize limbs n = ys at *
  have hmk := run_mk xs.length (by omega) (↑xs.length) (by omega)
  go_enter Try.func51, Try.ntmps51
  go_wp2
  clear hmk
  have h0 : SubRel w w.heap.size xs ys 0 0 (List.replicate xs.length 0) (w.alloc (.cells (u32s (List.replicate xs.length 0)) 46)) :=
    ⟨by simp, Dig.replicate _, Blk.new _ _, (Ext.refl w).alloc _, by simp [val]⟩
  go_loopw [6, 7, 8] (fun c n _ wr => ∃ (k bv : Nat) (zs : List Nat), k ≤ xs.length ∧ n = .int .i64 k ∧ c = .int .u32 bv ∧ bv ≤ 1 ∧ SubRel w w.heap.size xs ys k bv zs wr) (fun _ n _ _ => xs.length - (intOf n).toNat)
  case atStart => exact ⟨0, 0, _, Nat.zero_le _, rfl, rfl, by omega, h0⟩
  case round =>
    obtain ⟨k, bv, zs, hk, rfl, rfl, hbv, hR⟩ := hrel
    clear h0
    by_cases hk2 : k < xs.length
    · have hzc := hR.2.2.1.cell k (by have := hR.1; omega)
      have hzf := hR.2.2.1.frozen k
      obtain ⟨b1, o1, rfl, hx1⟩ := hx.at_ (by omega)
      have hcx := hR.2.2.2.1.cell (hx1 k hk2)
      have bx0 := dx k
      have by0 := dy k
      have hst := fun d bv' hd he V hV => hR.step (Nat.le_refl _) hk2 d bv' hd he (V := V) hV
      have HST := Lib.hid hst
      clear hst hx1
      by_cases hk3 : k < ys.length
      · obtain ⟨b2, o2, rfl, hy1⟩ := hy.at_ (by omega)
        have hcy := hR.2.2.2.1.cell (hy1 k hk3)
        clear hy1
        generalize xs.getD k 0 = x at *
        generalize ys.getD k 0 = y at *
        have bx : (x : Int) < 1000000000 := by omega
        have by_ : (y : Int) < 1000000000 := by omega
        clear bx0 by0
        by_cases hb : (1000000000 : Int) ≤ x + 1000000000 - bv - y
        · go_wp2
          go_roundw
          case rel => exact ⟨k + 1, 0, _, by omega, by go_num, by go_num, by omega, HST.out (x - bv - y) 0 (by omega) (by omega) _ (by omega)⟩
          case measure => simp [intOf]; omega
        · go_wp2
          go_roundw
          case rel => exact ⟨k + 1, 1, _, by omega, by go_num, by go_num, by omega, HST.out (x + 1000000000 - bv - y) 1 (by omega) (by omega) _ (by omega)⟩
          case measure => simp [intOf]; omega
      · have hy0 : ys.getD k 0 = 0 := by rw [List.getD_eq_getElem?_getD, List.getElem?_eq_none (by omega)]; rfl
        rw [hy0] at HST
        clear hy0 by0
        generalize xs.getD k 0 = x at *
        have bx : (x : Int) < 1000000000 := by omega
        clear bx0
        by_cases hb : (1000000000 : Int) ≤ x + 1000000000 - bv
        · go_wp2
          go_roundw
          case rel => exact ⟨k + 1, 0, _, by omega, by go_num, by go_num, by omega, HST.out (x - bv) 0 (by omega) (by omega) _ (by omega)⟩
          case measure => simp [intOf]; omega
        · go_wp2
          go_roundw
          case rel => exact ⟨k + 1, 1, _, by omega, by go_num, by go_num, by omega, HST.out (x + 1000000000 - bv) 1 (by omega) (by omega) _ (by omega)⟩
          case measure => simp [intOf]; omega
    · have r5 := hR.val_eq (by omega) hle hbv HV.out
      obtain ⟨r1, r2, r3, r4, _⟩ := hR
      rw [HE.out] at r5
      have R1 := Lib.hid r1
      have R5 := Lib.hid r5
      clear r1 r5
      go_wp2_with fail
      rw [← R1.out]
      refine (rtrim_calls _ _ _ _ (Nat.le_refl _) (by rw [R1.out]; omega) r3.cells r2).mono ?_
      rintro e w' ⟨rfl, rfl⟩
      go_wp2
      go_ret
      exact ⟨_, rfl, by rw [← R5.out]; exact ⟨_, _, rfl, by rw [← trimN_length r2]; exact trimN_le _ _, by rw [R1.out]; omega, r3.cells.trim r2⟩, r4⟩

end Go.Proofs.Ytfjaboolfjgleaa
