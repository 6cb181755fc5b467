/-
  Sums and differences of lists of limbs, of the program and of the reference.
-/
import Derived.Test.YtfjaboolfjgleaaSign
namespace Go.Proofs.Ytfjaboolfjgleaa
open Go.RowKit

theorem info_u32 : (Try.prog.info? 46).map (fun i => (i.zero, i.size, i.bytes)) = some (some (.int .u32 0), 1, 4) := by kernel_rfl
theorem run_mk (n : Nat) (hn : n ≤ 70368744177664) (N : Int) (hN : N = n) (w : World) :
    (Instr.makeSlice 22 (.int .i64 N) (.int .i64 N)).run Try.prog w = .ok (.slice (some ⟨w.heap.size, 0, none⟩) n n) (w.alloc (.cells (u32s (List.replicate n 0)) 46)) := by
  subst hN
  rw [← madeCells_u32]
  exact run_make_row' 22 46 (.int .u32 0) 4 Try.underlying22 info_u32 rfl .i64 .i64 n (by omega) (by omega) w

theorem val_take_succ' (xs : List Nat) (k : Nat) : val (xs.take (k + 1)) = val (xs.take k) + 1000000000 ^ k * xs.getD k 0 := by
  by_cases h : k < xs.length
  · exact val_take_succ xs k h
  · rw [List.take_of_length_le (by omega), List.take_of_length_le (by omega), List.getD_eq_getElem?_getD, List.getElem?_eq_none (by omega)]; simp
theorem take_set (zs : List Nat) (k d : Nat) (h : k < zs.length) : (zs.set k d).take (k + 1) = zs.take k ++ [d] := by
  rw [take_succ_getD _ _ (by simpa using h)]
  congr 1
  · rw [List.take_set_of_le (Nat.le_refl k)]
  · simp [List.getD_eq_getElem?_getD, h]
theorem val_take_set (zs : List Nat) (k d : Nat) (h : k < zs.length) : val ((zs.set k d).take (k + 1)) = val (zs.take k) + 1000000000 ^ k * d := by
  rw [take_set zs k d h, val_append, List.length_take, Nat.min_eq_left (by omega)]
  simp [val]

theorem Blk.set' {w : World} {g : Nat} {xs : List Nat} (h : Blk w g xs) (i d : Nat) (hi : i < xs.length) {V : Int} (hV : V = d) : Blk (w.setCell ⟨g, i, none⟩ (.int .u32 V)) g (xs.set i d) := by
  subst hV; exact h.set i d hi

/-- What holds after k rounds of an addition. -/
def AddRel (w : World) (g : Nat) (xs ys : List Nat) (k cv : Nat) (zs : List Nat) (wr : World) : Prop :=
  zs.length = xs.length + 1 ∧ Dig zs ∧ Blk wr g zs ∧ Ext w wr ∧ val (zs.take k) + 1000000000 ^ k * cv = val (xs.take k) + val (ys.take k)
theorem AddRel.step {w : World} {g : Nat} {xs ys : List Nat} {k cv : Nat} {zs : List Nat} {wr : World} (h : AddRel w g xs ys k cv zs wr) (hg : w.heap.size ≤ g) (hk : k < xs.length)
    (d cv' : Nat) (hd : d < 1000000000) (he : xs.getD k 0 + cv + ys.getD k 0 = d + 1000000000 * cv') {V : Int} (hV : V = d) :
    AddRel w g xs ys (k + 1) cv' (zs.set k d) (wr.setCell ⟨g, k, none⟩ (.int .u32 V)) := by
  obtain ⟨h1, h2, h3, h4, h5⟩ := h
  refine ⟨by simpa using h1, h2.set k hd, h3.set' k d (by omega) hV, h4.setCell (p := ⟨g, k, none⟩) hg _, ?_⟩
  rw [val_take_set _ _ _ (by omega), val_take_succ', val_take_succ' ys, Nat.pow_succ]
  generalize 1000000000 ^ k = p at *
  have e : p * (xs.getD k 0) + p * cv + p * (ys.getD k 0) = p * d + p * 1000000000 * cv' := by
    rw [← Nat.mul_add, ← Nat.mul_add, he, Nat.mul_add, Nat.mul_assoc]
  omega
theorem AddRel.done {w : World} {g : Nat} {xs ys : List Nat} {k cv : Nat} {zs : List Nat} {wr : World} (h : AddRel w g xs ys k cv zs wr) (hg : w.heap.size ≤ g) (hk : k = xs.length) (hy : ys.length ≤ xs.length) (hc : cv ≤ 1) :
    ∃ rs : List Nat, rs.length = xs.length + 1 ∧ Dig rs ∧ Blk (wr.setCell ⟨g, xs.length, none⟩ (.int .u32 cv)) g rs ∧ Ext w (wr.setCell ⟨g, xs.length, none⟩ (.int .u32 cv)) ∧ val rs = val xs + val ys := by
  subst hk
  obtain ⟨h1, h2, h3, h4, h5⟩ := h
  refine ⟨zs.set xs.length cv, by simpa using h1, h2.set _ (by omega), h3.set' _ cv (by omega) rfl, h4.setCell (p := ⟨g, xs.length, none⟩) hg _, ?_⟩
  have := val_take_set zs xs.length cv (by omega)
  rw [List.take_of_length_le (by simp; omega)] at this
  rw [this, h5, List.take_of_length_le (Nat.le_refl _), List.take_of_length_le hy]

set_option maxRecDepth 100000 in
set_option maxHeartbeats 800000 in
theorem addLimbs_calls (w : World) (ax ay : Option Addr) (xs ys : List Nat) (cx cy : Nat) (lx : xs.length ≤ 1099511627776) (ly : ys.length ≤ 1099511627776) (hx : Cells w ax xs) (hy : Cells w ay ys) (dx : Dig xs) (dy : Dig ys) :
    Calls Try.prog 58 #[.slice ax xs.length cx, .slice ay ys.length cy] w (Ret (IsLimbs (val xs + val ys)) w) := by
  by_cases hlt : xs.length < ys.length
  · have hmk := run_mk (ys.length + 1) (by omega) (↑ys.length + 1) (by omega)
    go_enter Try.func58, Try.ntmps58
    go_wp2
    clear hmk
    have h0 : AddRel w w.heap.size ys xs 0 0 (List.replicate (ys.length + 1) 0) (w.alloc (.cells (u32s (List.replicate (ys.length + 1) 0)) 46)) :=
      ⟨by simp, Dig.replicate _, Blk.new _ _, (Ext.refl w).alloc _, by simp [val]⟩
    go_loopw [6, 7, 8, 22] (fun c _ _ n wr => ∃ (k cv : Nat) (zs : List Nat), k ≤ ys.length ∧ n = .int .i64 k ∧ c = .int .u32 cv ∧ cv ≤ 1 ∧ AddRel w w.heap.size ys xs k cv zs wr) (fun _ _ _ n _ => ys.length - (intOf n).toNat)
    case atStart => exact ⟨0, 0, _, Nat.zero_le _, rfl, rfl, by omega, h0⟩
    case round =>
      obtain ⟨k, cv, zs, hk, rfl, rfl, hcv, hR⟩ := hrel
      clear h0
      by_cases hk2 : k < ys.length
      · have hzc := hR.2.2.1.cell k (by have := hR.1; omega)
        have hzf := hR.2.2.1.frozen k
        obtain ⟨b1, o1, rfl, hx1⟩ := hy.at_ (by omega)
        have hcx := hR.2.2.2.1.cell (hx1 k hk2)
        have bx0 := dy k
        have by0 := dx k
        have hst := fun d cv' hd he V hV => hR.step (Nat.le_refl _) hk2 d cv' hd he (V := V) hV
        have HST := Lib.hid hst
        clear hst hx1
        by_cases hk3 : k < xs.length
        · obtain ⟨b2, o2, rfl, hy1⟩ := hx.at_ (by omega)
          have hcy := hR.2.2.2.1.cell (hy1 k hk3)
          clear hy1
          generalize ys.getD k 0 = x at *
          generalize xs.getD k 0 = y at *
          have bx : (x : Int) < 1000000000 := by omega
          have by_ : (y : Int) < 1000000000 := by omega
          clear bx0 by0
          by_cases hb : (1000000000 : Int) ≤ x + cv + y
          · go_wp2
            go_roundw
            case rel => exact ⟨k + 1, 1, _, by omega, by go_num, by go_num, by omega, HST.out (x + cv + y - 1000000000) 1 (by omega) (by omega) _ (by omega)⟩
            case measure => simp [intOf]; omega
          · go_wp2
            go_roundw
            case rel => exact ⟨k + 1, 0, _, by omega, by go_num, by go_num, by omega, HST.out (x + cv + y) 0 (by omega) (by omega) _ (by omega)⟩
            case measure => simp [intOf]; omega
        · have hy0 : xs.getD k 0 = 0 := by rw [List.getD_eq_getElem?_getD, List.getElem?_eq_none (by omega)]; rfl
          rw [hy0] at HST
          clear hy0 by0
          generalize ys.getD k 0 = x at *
          have bx : (x : Int) < 1000000000 := by omega
          clear bx0
          by_cases hb : (1000000000 : Int) ≤ x + cv
          · go_wp2
            go_roundw
            case rel => exact ⟨k + 1, 1, _, by omega, by go_num, by go_num, by omega, HST.out (x + cv - 1000000000) 1 (by omega) (by omega) _ (by omega)⟩
            case measure => simp [intOf]; omega
          · go_wp2
            go_roundw
            case rel => exact ⟨k + 1, 0, _, by omega, by go_num, by go_num, by omega, HST.out (x + cv) 0 (by omega) (by omega) _ (by omega)⟩
            case measure => simp [intOf]; omega
      · obtain ⟨rs, r1, r2, r3, r4, r5⟩ := hR.done (Nat.le_refl _) (by omega) (by omega) hcv
        have hzc := hR.2.2.1.cell ys.length (by have := hR.1; omega)
        have hzf := hR.2.2.1.frozen ys.length
        have R1 := Lib.hid r1
        have R5 := Lib.hid r5
        clear r1 r5
        go_wp2_with fail
        rw [← R1.out]
        refine (trim_calls _ _ _ _ (Nat.le_refl _) (by rw [R1.out]; omega) r3.cells r2).mono ?_
        rintro e w' ⟨rfl, rfl⟩
        go_wp2
        go_ret
        exact ⟨_, rfl, by rw [Nat.add_comm, ← R5.out]; exact ⟨_, _, rfl, by rw [R1.out, ← trimN_length r2, ← R1.out]; exact trimN_le _ _, by rw [R1.out]; omega, r3.cells.trim r2⟩, r4⟩
  · have hmk := run_mk (xs.length + 1) (by omega) (↑xs.length + 1) (by omega)
    go_enter Try.func58, Try.ntmps58
    go_wp2
    clear hmk
    have h0 : AddRel w w.heap.size xs ys 0 0 (List.replicate (xs.length + 1) 0) (w.alloc (.cells (u32s (List.replicate (xs.length + 1) 0)) 46)) :=
      ⟨by simp, Dig.replicate _, Blk.new _ _, (Ext.refl w).alloc _, by simp [val]⟩
    go_loopw [6, 7, 8, 22] (fun c _ _ n wr => ∃ (k cv : Nat) (zs : List Nat), k ≤ xs.length ∧ n = .int .i64 k ∧ c = .int .u32 cv ∧ cv ≤ 1 ∧ AddRel w w.heap.size xs ys k cv zs wr) (fun _ _ _ n _ => xs.length - (intOf n).toNat)
    case atStart => exact ⟨0, 0, _, Nat.zero_le _, rfl, rfl, by omega, h0⟩
    case round =>
      obtain ⟨k, cv, zs, hk, rfl, rfl, hcv, hR⟩ := hrel
      clear h0
      by_cases hk2 : k < xs.length
      · have hzc := hR.2.2.1.cell k (by have := hR.1; omega)
        have hzf := hR.2.2.1.frozen k
        obtain ⟨b1, o1, rfl, hx1⟩ := hx.at_ (by omega)
        have hcx := hR.2.2.2.1.cell (hx1 k hk2)
        have bx0 := dx k
        have by0 := dy k
        have hst := fun d cv' hd he V hV => hR.step (Nat.le_refl _) hk2 d cv' hd he (V := V) hV
        have HST := Lib.hid hst
        clear hst hx1
        by_cases hk3 : k < ys.length
        · obtain ⟨b2, o2, rfl, hy1⟩ := hy.at_ (by omega)
          have hcy := hR.2.2.2.1.cell (hy1 k hk3)
          clear hy1
          generalize xs.getD k 0 = x at *
          generalize ys.getD k 0 = y at *
          have bx : (x : Int) < 1000000000 := by omega
          have by_ : (y : Int) < 1000000000 := by omega
          clear bx0 by0
          by_cases hb : (1000000000 : Int) ≤ x + cv + y
          · go_wp2
            go_roundw
            case rel => exact ⟨k + 1, 1, _, by omega, by go_num, by go_num, by omega, HST.out (x + cv + y - 1000000000) 1 (by omega) (by omega) _ (by omega)⟩
            case measure => simp [intOf]; omega
          · go_wp2
            go_roundw
            case rel => exact ⟨k + 1, 0, _, by omega, by go_num, by go_num, by omega, HST.out (x + cv + y) 0 (by omega) (by omega) _ (by omega)⟩
            case measure => simp [intOf]; omega
        · have hy0 : ys.getD k 0 = 0 := by rw [List.getD_eq_getElem?_getD, List.getElem?_eq_none (by omega)]; rfl
          rw [hy0] at HST
          clear hy0 by0
          generalize xs.getD k 0 = x at *
          have bx : (x : Int) < 1000000000 := by omega
          clear bx0
          by_cases hb : (1000000000 : Int) ≤ x + cv
          · go_wp2
            go_roundw
            case rel => exact ⟨k + 1, 1, _, by omega, by go_num, by go_num, by omega, HST.out (x + cv - 1000000000) 1 (by omega) (by omega) _ (by omega)⟩
            case measure => simp [intOf]; omega
          · go_wp2
            go_roundw
            case rel => exact ⟨k + 1, 0, _, by omega, by go_num, by go_num, by omega, HST.out (x + cv) 0 (by omega) (by omega) _ (by omega)⟩
            case measure => simp [intOf]; omega
      · obtain ⟨rs, r1, r2, r3, r4, r5⟩ := hR.done (Nat.le_refl _) (by omega) (by omega) hcv
        have hzc := hR.2.2.1.cell xs.length (by have := hR.1; omega)
        have hzf := hR.2.2.1.frozen xs.length
        have R1 := Lib.hid r1
        have R5 := Lib.hid r5
        clear r1 r5
        go_wp2_with fail
        rw [← R1.out]
        refine (trim_calls _ _ _ _ (Nat.le_refl _) (by rw [R1.out]; omega) r3.cells r2).mono ?_
        rintro e w' ⟨rfl, rfl⟩
        go_wp2
        go_ret
        exact ⟨_, rfl, by rw [← R5.out]; exact ⟨_, _, rfl, by rw [R1.out, ← trimN_length r2, ← R1.out]; exact trimN_le _ _, by rw [R1.out]; omega, r3.cells.trim r2⟩, r4⟩

end Go.Proofs.Ytfjaboolfjgleaa
