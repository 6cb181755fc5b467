/-
  by, of the reference; and an append to a slice of one limb.
-/
import Derived.Test.YtfjaboolfjgleaaTimes
import Derived.Test.YtfjaboolfjgleaaSub
import Derived.Test.YtfjaboolfjgleaaRsum
import Derived.Laws.AppendOwnNone
namespace Go.Proofs.Ytfjaboolfjgleaa
open Go.RowKit

theorem run_append_nil' {P : Program} {w : World} (base : Nat) (t ty e : TypeId) (i : TypeInfo) (size : Nat) (ht : P.underlying t = some (.slice e)) (hi : P.info? e = some i)
    (v : Value) (n : Nat) (xs : List Value) (hown : w.ownsRow base e size v n xs) (c : Nat) : (Builtin.append_ #[t, t] ty #[v, .slice none 0 c]).run P w = .ok v w := by
  rcases hown.2 with ⟨rfl, rfl⟩ | ⟨g, cap, cur, rfl, _, _, hnc, _⟩
  · simp [Builtin.append_, run_underlying ht, sizeOf, typeInfo, hi, Builtin.lenOf, Builtin.firstCells]
  · simp [Builtin.append_, run_underlying ht, sizeOf, typeInfo, hi, Builtin.lenOf, Builtin.firstCells, hnc, storeCells]
/-- What an append of limbs to a slice of one limb leaves. -/
theorem run_append_cons (w : World) (ty : TypeId) (x : Nat) (X : Int) (hX : X = x) (ao : Option Addr) (xs : List Nat) (c : Nat) (lx : xs.length ≤ 1099511627776) (h : Cells w ao xs) :
    ∃ ao' cap w1, (Builtin.append_ #[22, 22] ty #[.slice (some ⟨w.heap.size, 0, none⟩) 1 1, .slice ao xs.length c]).run Try.prog (w.alloc (.cells #[.int .u32 X] 46)) = .ok (.slice ao' (xs.length + 1) cap) w1 ∧
      xs.length + 1 ≤ cap ∧ cap ≤ 9223372036854775807 ∧ Ext w w1 ∧ Cells w1 ao' (x :: xs) := by
  subst hX
  obtain ⟨i0, hi, hz0, hz1, hz2⟩ := info_parts info_u32
  have hown : (w.alloc (.cells #[.int .u32 (x : Int)] 46)).ownsRow w.heap.size 46 1 (.slice (some ⟨w.heap.size, 0, none⟩) 1 1) 1 [.int .u32 (x : Int)] :=
    ⟨by simp, .inr ⟨w.heap.size, 1, #[.int .u32 (x : Int)], rfl, Nat.le_refl _, heap_alloc_new w _, Nat.le_refl _, by unfold maxLen; omega, by simp, by simp⟩⟩
  rcases ao with _ | a
  · obtain rfl : xs = [] := by
      rcases h with h | ⟨b, off, hh, _⟩
      · exact h
      · cases hh
    exact ⟨_, 1, _, run_append_nil' (P := Try.prog) w.heap.size 22 ty 46 i0 1 Try.underlying22 hi _ 1 _ hown c, by simp, by omega, (Ext.refl w).alloc _, (Blk.new w [x]).cells⟩
  · have hnews : ∀ j u, (xs.map fun x => Value.int .u32 ((x : Nat) : Int))[j]? = some u → (w.alloc (.cells #[.int .u32 (x : Int)] 46)).cell? (a.add j) = some u := by
      intro j u hu
      refine ((Ext.refl w).alloc _).cell ?_
      rcases h with h | ⟨b, off, hh, hx⟩
      · subst h; simp at hu
      · injection hh with hh
        subst hh
        rw [List.getElem?_map] at hu
        obtain ⟨x, hx1, rfl⟩ := Option.map_eq_some_iff.1 hu
        have hj : j < xs.length := (List.getElem?_eq_some_iff.1 hx1).1
        have := hx j hj
        rw [List.getD_eq_getElem?_getD, hx1] at this
        by_cases h0 : j = 0
        · subst h0; simpa [Addr.add] using this
        · simpa [Addr.add, h0] using this
    obtain ⟨v', w1, hrun, hown1, hgrow, hnil⟩ := run_append_own (P := Try.prog) (w.alloc (.cells #[.int .u32 (x : Int)] 46)) w.heap.size 22 ty 46 i0 (.int .u32 0) 1 4 Try.underlying22 hi hz0 hz1 hz2 rfl (by decide) _ 1 _ hown a xs.length c (xs.map fun x => Value.int .u32 ((x : Nat) : Int)) (by simp) hnews
      (by intro u hu; obtain ⟨x, _, rfl⟩ := List.mem_map.1 hu; rfl) (by unfold maxLen; omega) (by omega) (by simp)
    have hown2 : w1.ownsRow w.heap.size 46 1 v' (x :: xs).length ((x :: xs).map fun x => Value.int .u32 ((x : Nat) : Int)) := by
      rw [List.length_cons, Nat.add_comm xs.length 1]
      exact hown1
    have hE : Ext w w1 := Below.grown ((Ext.refl w).alloc _) hgrow (by simp) (fun k hk => by simp [Value.ownBlock] at hk; omega)
    rcases hown2.2 with ⟨rfl, h0⟩ | ⟨g, cap, cur, rfl, hg, _, hnc, hcm, _, _⟩
    · simp at h0
    · exact ⟨_, cap, w1, hrun, hnc, by unfold maxLen at hcm; omega, hE, (Blk.of_owns hown2).cells⟩

theorem limbs_one (n : Nat) : limbs (val [n]) = limbs n := by simp [val]

theorem Blk.take {w : World} {g : Nat} {zs : List Nat} (h : Blk w g zs) (k : Nat) : Blk w g (zs.take k) := by
  obtain ⟨sp, h⟩ := h
  refine ⟨u32s (zs.drop k) ++ sp, ?_⟩
  rw [h, ← Array.append_assoc]
  congr 2
  congr 1
  apply Array.toList_inj.1
  simp only [u32s, Array.toList_append]
  rw [← List.map_append, List.take_append_drop]
theorem Blk.trim {w : World} {g : Nat} {zs : List Nat} (h : Blk w g zs) (hd : Dig zs) : Blk w g (limbs (val zs)) := by
  rw [← take_trimN hd]; exact h.take _
/-- The limbs of a number, at the beginning of a block from B on. -/
def FreshLimbs (B n : Nat) (v : Value) (w : World) : Prop := ∃ g cap, v = .slice (some ⟨g, 0, none⟩) (limbs n).length cap ∧ B ≤ g ∧ (limbs n).length ≤ cap ∧ cap ≤ 9223372036854775807 ∧ Blk w g (limbs n)
theorem FreshLimbs.is {B n : Nat} {v : Value} {w : World} (h : FreshLimbs B n v w) : IsLimbs n v w := by
  obtain ⟨g, cap, h1, _, h3, h4, h5⟩ := h
  exact ⟨some ⟨g, 0, none⟩, cap, h1, h3, h4, h5.cells⟩

set_option maxRecDepth 100000 in
set_option maxHeartbeats 1600000 in
theorem times_fresh (w : World) (ax ay : Option Addr) (xs ys : List Nat) (cx cy : Nat) (lx : xs.length ≤ 1099511627776) (ly : ys.length ≤ 1099511627776) (hx : Cells w ax xs) (hy : Cells w ay ys) (dx : Dig xs) (dy : Dig ys) :
    Calls Try.prog 56 #[.slice ax xs.length cx, .slice ay ys.length cy] w (Ret (FreshLimbs w.heap.size (val xs * val ys)) w) := by
  have hmk := run_mk (xs.length + ys.length) (by omega) (↑xs.length + ↑ys.length) (by omega)
  go_enter Try.func56, Try.ntmps56
  go_wp2
  clear hmk
  have h0 : TimesOut w w.heap.size xs ys 0 (w.alloc (.cells (u32s (List.replicate (xs.length + ys.length) 0)) 46)) := by
    refine ⟨List.replicate (xs.length + ys.length) 0, by simp, Dig.replicate _, Blk.new _ _, (Ext.refl w).alloc _, ?_, ?_⟩
    · have : ∀ n, val (List.replicate n 0) = 0 := by
        intro n; induction n with
        | zero => rfl
        | succ n ih => rw [List.replicate_succ, val, ih]
      rw [this]; simp [val]
    · intro j _; simp only [List.getD_eq_getElem?_getD, List.getElem?_replicate]; split <;> rfl
  go_loopw [6, 7, 8] (fun i _ _ wr => ∃ k : Nat, k ≤ xs.length ∧ i = .int .i64 k ∧ TimesOut w w.heap.size xs ys k wr) (fun i _ _ _ => xs.length - (intOf i).toNat)
  case atStart => exact ⟨0, Nat.zero_le _, rfl, h0⟩
  case round =>
    obtain ⟨i, hi, rfl, hR⟩ := hrel
    clear h0
    by_cases hi2 : i < xs.length
    · have hR0 := hR.begin_
      clear hR
      obtain ⟨b1, o1, rfl, hx1⟩ := hx.at_ (by omega)
      have bx0 := dx i
      go_wp2
      obtain ⟨wo, rfl⟩ : ∃ wo : World, wo = wr := ⟨_, rfl⟩
      go_loopw [7, 8] (fun c n wr => ∃ k cv : Nat, k ≤ ys.length ∧ n = .int .i64 k ∧ c = .int .u64 cv ∧ (cv : Int) < 1000000000 ∧ TimesIn w w.heap.size xs ys i k cv wr) (fun _ n _ => ys.length - (intOf n).toNat)
      case atStart => exact ⟨0, 0, Nat.zero_le _, rfl, rfl, by omega, hR0⟩
      case round =>
        obtain ⟨k, cv, hk, rfl, rfl, hcv, hR⟩ := hrel
        clear hR0
        by_cases hk2 : k < ys.length
        · obtain ⟨b2, o2, rfl, hy1⟩ := hy.at_ (by omega)
          obtain ⟨z, bz, hzc, hzf, hE, HST⟩ := hR.at_ (Nat.le_refl _) hi2 hk2
          have hcx := hE.cell (hx1 i hi2)
          have hcy := hE.cell (hy1 k hk2)
          have by0 := dy k
          clear hR hx1 hy1 dx dy hx hy
          generalize xs.getD i 0 = x at *
          generalize ys.getD k 0 = y at *
          have hm := mul_lt x y bx0 by0
          have bm : (x : Int) * (y : Int) ≤ 999999998000000001 := by rw [← Int.natCast_mul]; omega
          have bm0 : 0 ≤ (x : Int) * (y : Int) := by rw [← Int.natCast_mul]; omega
          have bx : (x : Int) < 1000000000 := by omega
          have by_ : (y : Int) < 1000000000 := by omega
          clear bx0 by0 hm
          have hi3 : (i : Int) < (xs.length : Int) := by omega
          have hk3 : (k : Int) < (ys.length : Int) := by omega
          go_wp2
          go_quiet (fail)
          go_wp2
          go_roundw
          case rel => exact ⟨k + 1, (cv + z + x * y) / 1000000000, by omega, by go_num, by rw [Int.natCast_ediv]; simp, by rw [Int.natCast_ediv]; simp; omega, HST.out _ _ _ rfl (by rw [Int.natCast_emod]; simp)⟩
          case measure => simp [intOf]; omega
        · obtain ⟨hzc, hzf, HST⟩ := hR.end_ (Nat.le_refl _) hi2 (by omega) (by omega)
          clear hx1 hR dx dy hx hy bx0
          go_wp2
          go_roundw
          case rel => exact ⟨i + 1, by omega, by go_num, HST.out _ (by omega)⟩
          case measure => simp [intOf]; omega
    · obtain ⟨zs, h1, h2, h3, h4, h5, _⟩ := hR
      rw [List.take_of_length_le (by omega)] at h5
      have R1 := Lib.hid h1
      have R5 := Lib.hid h5
      clear h1 h5 dx dy
      go_wp2_with fail
      rw [← R1.out]
      refine (rtrim_calls _ _ _ _ (Nat.le_refl _) (by rw [R1.out]; omega) h3.cells h2).mono ?_
      rintro e w' ⟨rfl, rfl⟩
      go_wp2
      go_ret
      exact ⟨_, rfl, by rw [← R5.out]; exact ⟨_, _, rfl, Nat.le_refl _, by rw [← trimN_length h2]; exact trimN_le _ _, by rw [R1.out]; omega, h3.trim h2⟩, h4⟩

set_option maxRecDepth 100000 in
set_option maxHeartbeats 800000 in
theorem minus_fresh (w : World) (ax ay : Option Addr) (m n : Nat) (cx cy : Nat) (lx : (limbs m).length ≤ 1099511627776) (hmn : n ≤ m) (hx : Cells w ax (limbs m)) (hy : Cells w ay (limbs n)) :
    Calls Try.prog 51 #[.slice ax (limbs m).length cx, .slice ay (limbs n).length cy] w (Ret (FreshLimbs w.heap.size (m - n)) w) := by
  have hle := limbs_len_mono hmn
  have dx := dig_limbs m
  have dy := dig_limbs n
  have HV : Hid (val (limbs n) ≤ val (limbs m)) := by unfold Hid; rw [val_limbs, val_limbs]; exact hmn
  have HE : Hid (val (limbs m) - val (limbs n) = m - n) := by unfold Hid; rw [val_limbs, val_limbs]
  clear hmn
  generalize limbs m = xs at *
  generalize limbs n = ys at *
  have hmk := run_mk xs.length (by omega) (↑xs.length) (by omega)
  go_enter Try.func51, Try.ntmps51
  go_wp2
  clear hmk
  have h0 : SubRel w w.heap.size xs ys 0 0 (List.replicate xs.length 0) (w.alloc (.cells (u32s (List.replicate xs.length 0)) 46)) :=
    ⟨by simp, Dig.replicate _, Blk.new _ _, (Ext.refl w).alloc _, by simp [val]⟩
  go_loopw [6, 7, 8] (fun c n _ wr => ∃ (k bv : Nat) (zs : List Nat), k ≤ xs.length ∧ n = .int .i64 k ∧ c = .int .u32 bv ∧ bv ≤ 1 ∧ SubRel w w.heap.size xs ys k bv zs wr) (fun _ n _ _ => xs.length - (intOf n).toNat)
  case atStart => exact ⟨0, 0, _, Nat.zero_le _, rfl, rfl, by omega, h0⟩
  case round =>
    obtain ⟨k, bv, zs, hk, rfl, rfl, hbv, hR⟩ := hrel
    clear h0
    by_cases hk2 : k < xs.length
    · have hzc := hR.2.2.1.cell k (by have := hR.1; omega)
      have hzf := hR.2.2.1.frozen k
      obtain ⟨b1, o1, rfl, hx1⟩ := hx.at_ (by omega)
      have hcx := hR.2.2.2.1.cell (hx1 k hk2)
      have bx0 := dx k
      have by0 := dy k
      have hst := fun d bv' hd he V hV => hR.step (Nat.le_refl _) hk2 d bv' hd he (V := V) hV
      have HST := Lib.hid hst
      clear hst hx1
      by_cases hk3 : k < ys.length
      · obtain ⟨b2, o2, rfl, hy1⟩ := hy.at_ (by omega)
        have hcy := hR.2.2.2.1.cell (hy1 k hk3)
        clear hy1
        generalize xs.getD k 0 = x at *
        generalize ys.getD k 0 = y at *
        have bx : (x : Int) < 1000000000 := by omega
        have by_ : (y : Int) < 1000000000 := by omega
        clear bx0 by0
        by_cases hb : (1000000000 : Int) ≤ x + 1000000000 - bv - y
        · go_wp2
          go_roundw
          case rel => exact ⟨k + 1, 0, _, by omega, by go_num, by go_num, by omega, HST.out (x - bv - y) 0 (by omega) (by omega) _ (by omega)⟩
          case measure => simp [intOf]; omega
        · go_wp2
          go_roundw
          case rel => exact ⟨k + 1, 1, _, by omega, by go_num, by go_num, by omega, HST.out (x + 1000000000 - bv - y) 1 (by omega) (by omega) _ (by omega)⟩
          case measure => simp [intOf]; omega
      · have hy0 : ys.getD k 0 = 0 := by rw [List.getD_eq_getElem?_getD, List.getElem?_eq_none (by omega)]; rfl
        rw [hy0] at HST
        clear hy0 by0
        generalize xs.getD k 0 = x at *
        have bx : (x : Int) < 1000000000 := by omega
        clear bx0
        by_cases hb : (1000000000 : Int) ≤ x + 1000000000 - bv
        · go_wp2
          go_roundw
          case rel => exact ⟨k + 1, 0, _, by omega, by go_num, by go_num, by omega, HST.out (x - bv) 0 (by omega) (by omega) _ (by omega)⟩
          case measure => simp [intOf]; omega
        · go_wp2
          go_roundw
          case rel => exact ⟨k + 1, 1, _, by omega, by go_num, by go_num, by omega, HST.out (x + 1000000000 - bv) 1 (by omega) (by omega) _ (by omega)⟩
          case measure => simp [intOf]; omega
    · have r5 := hR.val_eq (by omega) hle hbv HV.out
      obtain ⟨r1, r2, r3, r4, _⟩ := hR
      rw [HE.out] at r5
      have R1 := Lib.hid r1
      have R5 := Lib.hid r5
      clear r1 r5
      go_wp2_with fail
      rw [← R1.out]
      refine (rtrim_calls _ _ _ _ (Nat.le_refl _) (by rw [R1.out]; omega) r3.cells r2).mono ?_
      rintro e w' ⟨rfl, rfl⟩
      go_wp2
      go_ret
      exact ⟨_, rfl, by rw [← R5.out]; exact ⟨_, _, rfl, Nat.le_refl _, by rw [← trimN_length r2]; exact trimN_le _ _, by rw [R1.out]; omega, r3.trim r2⟩, r4⟩

set_option maxHeartbeats 800000 in
theorem rby_fresh (w : World) (ax : Option Addr) (m n cx : Nat) (lx : (limbs m).length ≤ 1099511627776) (hn : n < 1000000000) (hx : Cells w ax (limbs m)) :
    Calls Try.prog 74 #[.slice ax (limbs m).length cx, .int .u32 (n : Int)] w (Ret (FreshLimbs w.heap.size (m * n)) w) := by
  have hb := Blk.new w [n]
  have hd : Dig [n] := Dig.cons hn Dig.nil
  have ht := rtrim_calls (w.alloc (.cells (u32s [n]) 46)) (some ⟨w.heap.size, 0, none⟩) [n] 1 (by simp) (by omega) hb.cells hd
  have hc := (hb.cells).trim hd
  rw [limbs_one n] at ht hc
  have hl : (limbs n).length ≤ 1 := limbs_len_le (by omega)
  have hE : Ext w (w.alloc (.cells (u32s [n]) 46)) := (Ext.refl w).alloc _
  have htimes := times_fresh (w.alloc (.cells (u32s [n]) 46)) ax (some ⟨w.heap.size, 0, none⟩) (limbs m) (limbs n) cx 1 lx (by omega) (hx.ext hE) hc (dig_limbs m) (dig_limbs n)
  rw [val_limbs, val_limbs] at htimes
  have HT := Lib.hid ht
  have HM := Lib.hid htimes
  clear hb hd ht hc hl htimes lx hn hx
  go_enter Try.func74, Try.ntmps74
  go_wp2_with fail
  refine HT.out.mono ?_
  rintro e w' ⟨rfl, rfl⟩
  go_wp2_with fail
  refine HM.out.mono ?_
  rintro e w1 ⟨v, rfl, ⟨g1, c1, rfl, k0, k1, k2, k3⟩, e1⟩
  replace k0 : w.heap.size ≤ g1 := Nat.le_trans (by simp) k0
  go_wp2
  go_ret
  exact ⟨_, rfl, ⟨g1, c1, rfl, k0, k1, k2, k3⟩, hE.trans e1⟩

end Go.Proofs.Ytfjaboolfjgleaa
