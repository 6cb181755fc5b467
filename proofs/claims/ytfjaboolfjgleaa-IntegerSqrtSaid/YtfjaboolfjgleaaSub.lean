/-
  slices.Clone and the program's differences of lists of limbs.
-/
import Derived.Test.YtfjaboolfjgleaaRsum
import Derived.Laws.AppendOwnNone
namespace Go.Proofs.Ytfjaboolfjgleaa
open Go.RowKit

/-- What slices.Clone leaves: nil for nil, else a block of the call's own. -/
def Cloned (xs : List Nat) (w : World) (e : Ending) (w' : World) : Prop :=
  ∃ ao cap, e = .returned (.slice ao xs.length cap) ∧ xs.length ≤ cap ∧ cap ≤ 9223372036854775807 ∧ Ext w w' ∧ (0 < xs.length → ∃ g, ao = some ⟨g, 0, none⟩ ∧ w.heap.size ≤ g ∧ Blk w' g xs)
theorem Cloned.cells {xs : List Nat} {ao : Option Addr} {w w' : World} (h : 0 < xs.length → ∃ g, ao = some ⟨g, 0, none⟩ ∧ w.heap.size ≤ g ∧ Blk w' g xs) : Cells w' ao xs := by
  rcases xs with _ | ⟨x, r⟩
  · exact Cells.nil _ _
  · obtain ⟨g, rfl, _, hb⟩ := h (by simp)
    exact hb.cells

set_option maxHeartbeats 400000 in
theorem clone_calls (w : World) (ao : Option Addr) (xs : List Nat) (c : Nat) (lx : xs.length ≤ 1099511627776) (h : Cells w ao xs) (hc : xs.length ≤ c) :
    Calls Try.prog 52 #[.slice ao xs.length c] w (Cloned xs w) := by
  rcases ao with _ | a
  · obtain rfl : xs = [] := by
      rcases h with h | ⟨b, off, hh, _⟩
      · exact h
      · cases hh
    have heq := fun w => Lib.run_eql_slice_nil (P := Try.prog) w 22 46 none 0 c 0 0 Try.underlying22
    go_enter Try.func52, Try.ntmps52
    go_wp2
    go_ret
    exact ⟨none, 0, rfl, by simp, by omega, Ext.refl w, fun h => absurd h (by simp)⟩
  · have heq := fun w => Lib.run_eql_slice_nil (P := Try.prog) w 22 46 (some a) xs.length c 0 0 Try.underlying22
    obtain ⟨i0, hi, hz0, hz1, hz2⟩ := info_parts info_u32
    have hnews : ∀ j u, (xs.map fun x => Value.int .u32 ((x : Nat) : Int))[j]? = some u → w.cell? (a.add j) = some u := by
      intro j u hu
      rcases h with h | ⟨b, off, hh, hx⟩
      · subst h; simp at hu
      · injection hh with hh
        subst hh
        rw [List.getElem?_map] at hu
        obtain ⟨x, hx1, rfl⟩ := Option.map_eq_some_iff.1 hu
        have hj : j < xs.length := (List.getElem?_eq_some_iff.1 hx1).1
        have := hx j hj
        rw [List.getD_eq_getElem?_getD, hx1] at this
        by_cases h0 : j = 0
        · subst h0; simpa [Addr.add] using this
        · simpa [Addr.add, h0] using this
    go_enter Try.func52, Try.ntmps52
    go_wp2_with (at_builtin; refine wpList_append_own _ rfl _ _ 22 rfl w.heap.size 46 i0 (.int .u32 0) 1 4 Try.underlying22 hi hz0 hz1 hz2 rfl (by decide) _ 0 [] rfl (World.ownsRow_made w #[] 0 (Nat.le_refl _) (by simp) (by simp)) a xs.length c (xs.map fun x => Value.int .u32 ((x : Nat) : Int)) rfl (by simp) ?c1 ?c2 ?c3 ?c4 ?c5 ?_)
    case c1 => exact fun j u hu => ((Ext.refl w).alloc _).cell (hnews j u hu)
    case c2 => intro u hu; obtain ⟨x, _, rfl⟩ := List.mem_map.1 hu; rfl
    case c3 => unfold maxLen; omega
    case c4 => omega
    case c5 => simp
    intro v' w1 hown hgrow hnil
    have hE : Ext w w1 := Below.grown ((Ext.refl w).alloc _) hgrow (by simp) (fun k hk => by simp [Value.ownBlock] at hk; omega)
    rcases hown.2 with ⟨rfl, _⟩ | ⟨g, cap, cur, rfl, hg, _, hnc, hcm, _, _⟩
    · exact absurd rfl hnil
    · have hb := Blk.of_owns hown
      clear hnil hgrow
      go_wp2
      go_ret
      exact ⟨_, _, rfl, hnc, by unfold maxLen at hcm; omega, hE, fun _ => ⟨g, rfl, hg, hb⟩⟩


theorem drop_ext {xs zs : List Nat} {k : Nat} (hl : zs.length = xs.length) (h : ∀ i, k ≤ i → zs.getD i 0 = xs.getD i 0) : zs.drop k = xs.drop k := by
  apply List.ext_getElem
  · simp [hl]
  · intro i h1 h2
    rw [List.length_drop] at h1 h2
    have := h (k + i) (by omega)
    simp only [List.getElem_drop]
    rw [List.getD_eq_getElem?_getD, List.getD_eq_getElem?_getD, List.getElem?_eq_getElem (by omega), List.getElem?_eq_getElem (by omega)] at this
    simpa using this
/-- A subtraction in place: what has not been reached yet is as it was. -/
def SubAt (w : World) (g : Nat) (xs ys : List Nat) (k : Nat) (b : Bool) (zs : List Nat) (wr : World) : Prop :=
  SubRel w g xs ys k b.toNat zs wr ∧ ∀ i, k ≤ i → zs.getD i 0 = xs.getD i 0
theorem getD_set_other (zs : List Nat) (k i d : Nat) (h : k ≠ i) : (zs.set k d).getD i 0 = zs.getD i 0 := by
  simp only [List.getD_eq_getElem?_getD, List.getElem?_set]
  rw [if_neg h]
theorem SubAt.step {w : World} {g : Nat} {xs ys : List Nat} {k : Nat} {b : Bool} {zs : List Nat} {wr : World} (h : SubAt w g xs ys k b zs wr) (hg : w.heap.size ≤ g) (hk : k < xs.length)
    (d : Nat) (b' : Bool) (hd : d < 1000000000) (he : d + b.toNat + ys.getD k 0 = xs.getD k 0 + 1000000000 * b'.toNat) {V : Int} (hV : V = d) :
    SubAt w g xs ys (k + 1) b' (zs.set k d) (wr.setCell ⟨g, k, none⟩ (.int .u32 V)) :=
  ⟨h.1.step hg hk d b'.toNat hd he hV, fun i hi => by rw [getD_set_other _ _ _ _ (by omega)]; exact h.2 i (by omega)⟩
theorem SubAt.step2 {w : World} {g : Nat} {xs ys : List Nat} {k : Nat} {b : Bool} {zs : List Nat} {wr : World} (h : SubAt w g xs ys k b zs wr) (hg : w.heap.size ≤ g) (hk : k < xs.length)
    (d : Nat) (b' : Bool) (hd : d < 1000000000) (he : d + b.toNat + ys.getD k 0 = xs.getD k 0 + 1000000000 * b'.toNat) {V U : Int} (u : Nat) (hU : U = u) (hV : V = d) :
    SubAt w g xs ys (k + 1) b' (zs.set k d) ((wr.setCell ⟨g, k, none⟩ (.int .u32 U)).setCell ⟨g, k, none⟩ (.int .u32 V)) := by
  obtain ⟨⟨h1, h2, h3, h4, h5⟩, h6⟩ := h
  have hs := SubAt.step (w := w) ⟨⟨h1, h2, h3, h4, h5⟩, h6⟩ hg hk d b' hd he hV
  have hb := (h3.set' k u (by omega) hU).set' k d (by simp; omega) hV
  rw [List.set_set] at hb
  exact ⟨⟨hs.1.1, hs.1.2.1, hb, (h4.setCell (p := ⟨g, k, none⟩) hg _).setCell (p := ⟨g, k, none⟩) hg _, hs.1.2.2.2.2⟩, hs.2⟩
theorem SubAt.stop {w : World} {g : Nat} {xs ys : List Nat} {k : Nat} {zs : List Nat} {wr : World} (h : SubAt w g xs ys k false zs wr) (hk : k ≤ xs.length) (hy : ys.length ≤ k) : val zs = val xs - val ys := by
  obtain ⟨⟨h1, h2, h3, h4, h5⟩, h6⟩ := h
  have hd := drop_ext h1 h6
  have e1 := val_split zs k (by omega)
  have e2 := val_split xs k hk
  rw [List.take_of_length_le hy] at h5
  rw [hd] at e1
  simp only [Bool.toNat_false, Nat.mul_zero, Nat.add_zero] at h5
  omega


/-- What the loop of subtractLimbs keeps: its slice begins at az (nil or empty where there is nothing to subtract from). -/
def SubLoop (w : World) (az : Option Addr) (xs ys : List Nat) (k : Nat) (b : Bool) (wr : World) : Prop :=
  Ext w wr ∧ (xs.length = 0 ∨ ∃ g zs, az = some ⟨g, 0, none⟩ ∧ w.heap.size ≤ g ∧ SubAt w g xs ys k b zs wr)
theorem SubLoop.at_ {w : World} {az : Option Addr} {xs ys : List Nat} {k : Nat} {b : Bool} {wr : World} (h : SubLoop w az xs ys k b wr) (hk : k < xs.length) :
    ∃ g, az = some ⟨g, 0, none⟩ ∧ wr.cell? ⟨g, k, none⟩ = some (.int .u32 ((xs.getD k 0 : Nat) : Int)) ∧ wr.frozen? ⟨g, k, none⟩ = false ∧
      Hid (∀ (V : Int) (b' : Bool), 0 ≤ V → V < 1000000000 → V + (b.toNat : Int) + ((ys.getD k 0 : Nat) : Int) = ((xs.getD k 0 : Nat) : Int) + 1000000000 * (b'.toNat : Int) → SubLoop w az xs ys (k + 1) b' (wr.setCell ⟨g, k, none⟩ (.int .u32 V))) ∧
      Hid (∀ (U V : Int) (b' : Bool), 0 ≤ V → V < 1000000000 → V + (b.toNat : Int) + ((ys.getD k 0 : Nat) : Int) = ((xs.getD k 0 : Nat) : Int) + 1000000000 * (b'.toNat : Int) → 0 ≤ U → SubLoop w az xs ys (k + 1) b' ((wr.setCell ⟨g, k, none⟩ (.int .u32 U)).setCell ⟨g, k, none⟩ (.int .u32 V))) := by
  obtain ⟨_, h0 | ⟨g, zs, rfl, hg, hR⟩⟩ := h
  · omega
  · have hzc := hR.1.2.2.1.cell k (by have := hR.1.1; omega)
    rw [hR.2 k (Nat.le_refl _)] at hzc
    refine ⟨g, rfl, hzc, hR.1.2.2.1.frozen k, ?_, ?_⟩
    · intro V b' v0 v1 he
      have hs := hR.step hg hk V.toNat b' (by omega) (by omega) (V := V) (by omega)
      exact ⟨hs.1.2.2.2.1, .inr ⟨g, _, rfl, hg, hs⟩⟩
    · intro U V b' v0 v1 he u0
      have hs := hR.step2 hg hk V.toNat b' (by omega) (by omega) (V := V) (U := U) U.toNat (by omega) (by omega)
      exact ⟨hs.1.2.2.2.1, .inr ⟨g, _, rfl, hg, hs⟩⟩
/-- What is read at the end. -/
def SubEnd (w : World) (az : Option Addr) (cz d : Nat) (L : Nat) (wr : World) : Prop :=
  ∃ zs, zs.length = L ∧ Dig zs ∧ Cells wr az zs ∧ (limbs (val zs)).length = (limbs d).length ∧ Cells wr az (limbs d) ∧ (limbs d).length ≤ cz ∧ Ext w wr
theorem SubLoop.end_ {w : World} {az : Option Addr} {xs ys : List Nat} {k cz : Nat} {b : Bool} {wr : World} (h : SubLoop w az xs ys k b wr) (hcz : xs.length ≤ cz) (hy : ys.length ≤ xs.length) (hv : val ys ≤ val xs)
    (hk : k = xs.length ∨ (b = false ∧ k ≤ xs.length ∧ ys.length ≤ k)) : SubEnd w az cz (val xs - val ys) xs.length wr := by
  have hE : ∃ zs', zs'.length = xs.length ∧ Dig zs' ∧ Cells wr az zs' ∧ val zs' = val xs - val ys := by
    obtain ⟨_, h0 | ⟨g, zs, rfl, hg, hR⟩⟩ := h
    · have e1 : xs = [] := List.eq_nil_of_length_eq_zero h0
      refine ⟨[], by simp [h0], Dig.nil, Cells.nil _ _, ?_⟩
      rw [e1]; simp [val]
    · refine ⟨zs, hR.1.1, hR.1.2.1, hR.1.2.2.1.cells, ?_⟩
      rcases hk with hk | ⟨rfl, h1, h2⟩
      · exact hR.1.val_eq hk hy (by cases b <;> simp) hv
      · exact hR.stop h1 h2
  obtain ⟨zs, h1, h2, h3, h4⟩ := hE
  have h5 := h3.trim h2
  have h6 := trimN_length h2
  have h7 := trimN_le zs zs.length
  rw [h4] at h5 h6
  exact ⟨zs, h1, h2, h3, by rw [h4], h5, by omega, h.1⟩

set_option maxRecDepth 100000 in
set_option maxHeartbeats 1600000 in
theorem subtractLimbs_calls (w : World) (ax ay : Option Addr) (m n : Nat) (cx cy : Nat) (lx : (limbs m).length ≤ 1099511627776) (hmn : n ≤ m) (hcx : (limbs m).length ≤ cx) (hx : Cells w ax (limbs m)) (hy : Cells w ay (limbs n)) :
    Calls Try.prog 59 #[.slice ax (limbs m).length cx, .slice ay (limbs n).length cy] w (Ret (IsLimbs (m - n)) w) := by
  have hle := limbs_len_mono hmn
  have dx := dig_limbs m
  have dy := dig_limbs n
  have HV : Hid (val (limbs n) ≤ val (limbs m)) := by unfold Hid; rw [val_limbs, val_limbs]; exact hmn
  have HE : Hid (val (limbs m) - val (limbs n) = m - n) := by unfold Hid; rw [val_limbs, val_limbs]
  clear hmn
  generalize limbs m = xs at *
  generalize limbs n = ys at *
  go_enter Try.func59, Try.ntmps59
  go_wp2_with fail
  refine (clone_calls w ax xs cx lx hx hcx).mono ?_
  rintro e w1 ⟨az, cz, rfl, hz1, hz2, hE, hz⟩
  have h0 : SubLoop w az xs ys 0 false w1 := by
    refine ⟨hE, ?_⟩
    rcases Nat.eq_zero_or_pos xs.length with h0 | h0
    · exact .inl h0
    · obtain ⟨g, h1, h2, h3⟩ := hz h0
      exact .inr ⟨g, xs, h1, h2, ⟨rfl, dx, h3, hE, by simp [val]⟩, fun _ _ => rfl⟩
  clear hz hE hx
  go_wp2
  go_loopw [6, 7, 8, 13] (fun b _ _ n wr => ∃ (k : Nat) (bv : Bool), k ≤ xs.length ∧ n = .int .i64 k ∧ b = .bool bv ∧ SubLoop w az xs ys k bv wr) (fun _ _ _ n _ => xs.length - (intOf n).toNat)
  case atStart => exact ⟨0, false, Nat.zero_le _, rfl, rfl, h0⟩
  case round =>
    obtain ⟨k, bv, hk, rfl, rfl, hR⟩ := hrel
    clear h0
    by_cases hk2 : k < xs.length
    · have hEr := hR.1
      have hend := fun h1 h2 => hR.end_ (cz := cz) hz1 hle HV.out (.inr ⟨h1, hk, h2⟩)
      have HEND := Lib.hid hend
      obtain ⟨g, rfl, hzc, hzf, H1, H2⟩ := hR.at_ hk2
      have bx0 := dx k
      have by0 := dy k
      clear hend hR dx dy
      by_cases hk3 : k < ys.length
      · obtain ⟨b2, o2, rfl, hy1⟩ := hy.at_ (by omega)
        have hcy := hEr.cell (hy1 k hk3)
        clear hy1 HEND hEr hy
        generalize xs.getD k 0 = x at *
        generalize ys.getD k 0 = y at *
        have bx : (x : Int) < 1000000000 := by omega
        have by_ : (y : Int) < 1000000000 := by omega
        clear bx0 by0
        cases bv
        · by_cases hb : (x : Int) < y
          · go_wp2
            go_roundw
            case rel => exact ⟨k + 1, true, by omega, by go_num, rfl, H2.out _ _ true (by omega) (by omega) (by show _ + ((0 : Nat) : Int) + _ = _ + _ * ((1 : Nat) : Int); omega) (by omega)⟩
            case measure => simp [intOf]; omega
          · go_wp2
            go_roundw
            case rel => exact ⟨k + 1, false, by omega, by go_num, rfl, H1.out _ false (by omega) (by omega) (by show _ + ((0 : Nat) : Int) + _ = _ + _ * ((0 : Nat) : Int); omega)⟩
            case measure => simp [intOf]; omega

        · by_cases hb : (x : Int) < y + 1
          · go_wp2
            go_roundw
            case rel => exact ⟨k + 1, true, by omega, by go_num, rfl, H2.out _ _ true (by omega) (by omega) (by show _ + ((1 : Nat) : Int) + _ = _ + _ * ((1 : Nat) : Int); omega) (by omega)⟩
            case measure => simp [intOf]; omega
          · go_wp2
            go_roundw
            case rel => exact ⟨k + 1, false, by omega, by go_num, rfl, H1.out _ false (by omega) (by omega) (by show _ + ((1 : Nat) : Int) + _ = _ + _ * ((0 : Nat) : Int); omega)⟩
            case measure => simp [intOf]; omega

      · have hy0 : ys.getD k 0 = 0 := by rw [List.getD_eq_getElem?_getD, List.getElem?_eq_none (by omega)]; rfl
        rw [hy0] at H1 H2
        clear hy0 by0
        cases bv
        · obtain ⟨zs, r1, r2, r3, r4, r5, r6, r7⟩ := HEND.out rfl (by omega)
          rw [HE.out] at r4 r5 r6
          have R1 := Lib.hid r1
          have R4 := Lib.hid r4
          clear r1 r4 H1 H2 hzc bx0 HEND hEr
          go_wp2_with fail
          rw [← R1.out]
          refine (trim_calls _ _ _ _ (by rw [R1.out]; exact hz1) hz2 r3 r2).mono ?_
          rintro e w' ⟨rfl, rfl⟩
          rw [R4.out]
          go_wp2
          go_ret
          exact ⟨_, rfl, ⟨_, _, rfl, r6, hz2, r5⟩, r7⟩
        · clear HEND hEr
          generalize xs.getD k 0 = x at *
          have bx : (x : Int) < 1000000000 := by omega
          clear bx0
          by_cases hb : (x : Int) < 1
          · go_wp2
            go_roundw
            case rel => exact ⟨k + 1, true, by omega, by go_num, rfl, H2.out _ _ true (by omega) (by omega) (by show _ + ((1 : Nat) : Int) + ((0 : Nat) : Int) = _ + _ * ((1 : Nat) : Int); omega) (by omega)⟩
            case measure => simp [intOf]; omega
          · go_wp2
            go_roundw
            case rel => exact ⟨k + 1, false, by omega, by go_num, rfl, H1.out _ false (by omega) (by omega) (by show _ + ((1 : Nat) : Int) + ((0 : Nat) : Int) = _ + _ * ((0 : Nat) : Int); omega)⟩
            case measure => simp [intOf]; omega

    · obtain ⟨zs, r1, r2, r3, r4, r5, r6, r7⟩ := hR.end_ (cz := cz) hz1 hle HV.out (.inl (by omega))
      rw [HE.out] at r4 r5 r6
      have R1 := Lib.hid r1
      have R4 := Lib.hid r4
      clear r1 r4 hR dx dy
      go_wp2_with fail
      rw [← R1.out]
      refine (trim_calls _ _ _ _ (by rw [R1.out]; exact hz1) hz2 r3 r2).mono ?_
      rintro e w' ⟨rfl, rfl⟩
      rw [R4.out]
      go_wp2
      go_ret
      exact ⟨_, rfl, ⟨_, _, rfl, r6, hz2, r5⟩, r7⟩

end Go.Proofs.Ytfjaboolfjgleaa
