/-
  Texts of this seat, joined.
-/
import Derived.Test.YtdleiiboffkidaaJ1
import Derived.Deep.DeepCutAuto
import Derived.Shelf.Bits.Mul64
import Derived.Shelf.Spec.BitsCarry
import Derived.Shelf.Small.Bits
import Derived.Shelf.Strconv.Itoa0
import Derived.Laws.BitsAllLaws
import Derived.Deep.CutBlock
import Derived.Laws.CopyOwn
/- ---- Valid ---- -/
section
/-
  Valid, Small, small and cp: what the statements ask of their arguments.
-/
set_option maxRecDepth 100000
namespace Go.Proofs.Ytdleiiboffkidaa
open Go.RowKit

/-- A struct that may be no valid integer. -/
def Raw (w : World) (v : Value) (neg : Bool) (xs : List Nat) : Prop :=
  ∃ ao cap, v = .agg #[.bool neg, .slice ao xs.length cap] ∧ xs.length ≤ cap ∧ cap ≤ 9223372036854775807 ∧ Cells w ao xs
theorem Raw.ext {w w' : World} {v : Value} {neg : Bool} {xs : List Nat} (h : Raw w v neg xs) (e : Ext w w') : Raw w' v neg xs := by
  obtain ⟨ao, cap, h1, h2, h3, h4⟩ := h
  exact ⟨ao, cap, h1, h2, h3, h4.ext e⟩
def allB (xs : List Nat) : Bool := xs.all fun x => decide (x < 1000000000)
theorem allB_dig {xs : List Nat} : allB xs = true ↔ Dig xs := by
  unfold allB
  rw [dig_iff, List.all_eq_true]
  constructor
  · intro h i hi
    have := h xs[i] (List.getElem_mem hi)
    rw [List.getD_eq_getElem?_getD, List.getElem?_eq_getElem hi]
    simpa using this
  · intro h x hx
    obtain ⟨i, hi, rfl⟩ := List.mem_iff_getElem.1 hx
    have := h i hi
    rw [List.getD_eq_getElem?_getD, List.getElem?_eq_getElem hi] at this
    simpa using this
/-- The valid integers. -/
def okB (neg : Bool) (xs : List Nat) : Bool := allB xs && (if xs.length = 0 then !neg else !(xs.getD (xs.length - 1) 0 == 0))
theorem okB_bad {neg : Bool} {xs : List Nat} {i : Nat} (hi : 1000000000 ≤ xs.getD i 0) : okB neg xs = false := by
  unfold okB
  have : allB xs = false := by
    rw [Bool.eq_false_iff]; intro h; have := allB_dig.1 h i; omega
  rw [this]; rfl
theorem okB_nil (neg : Bool) : okB neg [] = !neg := by simp [okB, allB]
theorem okB_dig {neg : Bool} {xs : List Nat} (hd : Dig xs) (h0 : 0 < xs.length) : okB neg xs = !(xs.getD (xs.length - 1) 0 == 0) := by
  unfold okB; rw [allB_dig.2 hd, if_neg (by omega)]; rfl
theorem okB_int {w : World} {v : Value} {neg : Bool} {xs : List Nat} (h : Raw w v neg xs) (hk : okB neg xs = true) : IsInt w v (sgn neg (val xs)) ∧ (limbs (val xs)).length = xs.length := by
  have hd : Dig xs := allB_dig.1 (by unfold okB at hk; rw [Bool.and_eq_true] at hk; exact hk.1)
  obtain ⟨ao, cap, rfl, h1, h2, h3⟩ := h
  rcases Nat.eq_zero_or_pos xs.length with h0 | h0
  · obtain rfl : xs = [] := List.eq_nil_of_length_eq_zero h0
    rw [okB_nil] at hk
    have : neg = false := by simpa using hk
    subst this
    exact ⟨isInt_zero' h2, rfl⟩
  · rw [okB_dig hd h0] at hk
    have hl : limbs (val xs) = xs := limbs_val hd (fun _ => by simpa using hk)
    have hn : val xs ≠ 0 := by intro e; rw [e, limbs_zero] at hl; rw [← hl] at h0; simp at h0
    refine ⟨?_, by rw [hl]⟩
    have := isInt_of (w := w) (s := neg) (ao := ao) (cap := cap) hn (by rw [hl]; exact h1) h2 (by rw [hl]; exact h3)
    rwa [hl] at this
/-- A struct boxed. -/
theorem box1 (w : World) (u0 u1 : Value) (t : TypeId) : ∃ W, w.alloc (.cells #[u0, u1] t) = W ∧ Ext w W ∧ W.cell? ⟨w.heap.size, 0, none⟩ = some u0 ∧ W.cell? ⟨w.heap.size, 1, none⟩ = some u1 :=
  ⟨_, rfl, (Ext.refl w).alloc _, by simp, by simp⟩

set_option maxRecDepth 100000 in
set_option maxHeartbeats 800000 in
theorem valid_calls (w : World) (v : Value) (neg : Bool) (xs : List Nat) (h : Raw w v neg xs) :
    Calls Try.prog 92 #[v] w fun e w' => e = .returned (.bool (okB neg xs)) ∧ Ext w w' := by
  obtain ⟨ao, cap, rfl, h1, h2, h3⟩ := h
  obtain ⟨W, hW, eW, c0, c1⟩ := box1 w (.bool neg) (.slice ao xs.length cap) 24
  rcases Nat.eq_zero_or_pos xs.length with h0 | h0
  · obtain rfl : xs = [] := List.eq_nil_of_length_eq_zero h0
    have HZ := Lib.hid (okB_nil neg)
    clear h0
    go_enter Try.func92, Try.ntmps92
    go_wp2
    go_ret
    exact ⟨ret_bool HZ.out.symm, (Ext.refl w).alloc _⟩
  · have hbe : ((xs.length : Int) == 0) = false := by rw [beq_eq_false_iff_ne]; omega
    obtain ⟨b1, o1, rfl, hx1⟩ := (h3.ext eW).at_ h0
    have hlast := hx1 (xs.length - 1) (by omega)
    have h0I : (0 : Int) < (xs.length : Int) := by omega
    go_enter Try.func92, Try.ntmps92
    go_wp2
    clear hW hbe
    go_loop [5, 17] (fun _ i => ∃ k : Nat, k ≤ xs.length ∧ i = .int .i64 k ∧ Hid (∀ j, j < k → xs.getD j 0 < 1000000000)) (fun _ i => xs.length - (intOf i).toNat)
    case atStart => exact ⟨0, Nat.zero_le _, rfl, fun j hj => by omega⟩
    case round =>
      obtain ⟨k, hk, rfl, HD⟩ := hrel
      by_cases hk2 : k < xs.length
      · have hcx := hx1 k hk2
        have HB := Lib.hid (fun hi => okB_bad (neg := neg) (xs := xs) (i := k) hi)
        have HS : Hid (xs.getD k 0 < 1000000000 → ∀ j, j < k + 1 → xs.getD j 0 < 1000000000) := by
          intro h j hj
          by_cases e : j = k
          · subst e; exact h
          · exact HD.out j (by omega)
        clear hx1 hlast
        generalize xs.getD k 0 = x at *
        by_cases hb : (1000000000 : Int) ≤ x
        rotate_left
        · have HS2 := Lib.hid (HS.out (by omega))
          go_wp2
          go_round
          case rel => exact ⟨k + 1, by omega, by go_num, HS2.out⟩
          case measure => simp [intOf]; omega
        · have HB2 := Lib.hid (HB.out (by omega))
          go_wp2
          go_ret
          exact ⟨ret_bool HB2.out.symm, eW⟩
      · have hd : Dig xs := dig_iff.2 (fun i hi => HD.out i (by omega))
        have HF := Lib.hid (okB_dig (neg := neg) hd h0)
        have HN := Lib.hid h0
        clear hx1 hd h0
        generalize xs.getD (xs.length - 1) 0 = x at *
        rcases x with _ | x
        · go_wp2
          go_ret
          exact ⟨ret_bool (by rw [HF.out]; rfl), eW⟩
        · go_wp2
          go_ret
          exact ⟨ret_bool (by rw [HF.out]; rfl), eW⟩

theorem okB_dig' {neg : Bool} {xs : List Nat} (hd : Dig xs) : okB neg xs = (((limbs (val xs)).length == xs.length) && (!neg || decide (0 < xs.length))) := by
  rcases Nat.eq_zero_or_pos xs.length with h0 | h0
  · obtain rfl : xs = [] := List.eq_nil_of_length_eq_zero h0
    rw [okB_nil]; simp [val, limbs_zero]
  · rw [okB_dig hd h0]
    have hlen := trimN_length hd
    obtain ⟨n, hn⟩ : ∃ n, xs.length = n + 1 := ⟨xs.length - 1, by omega⟩
    rw [hn] at hlen ⊢
    rw [trimN] at hlen
    have hle := trimN_le xs n
    by_cases hx : xs.getD n 0 = 0
    · rw [if_pos hx] at hlen
      have e1 : (xs.getD (n + 1 - 1) 0 == 0) = true := by rw [Nat.add_sub_cancel, hx]; rfl
      have e2 : ((limbs (val xs)).length == n + 1) = false := by rw [beq_eq_false_iff_ne]; omega
      rw [e1, e2]; rfl
    · rw [if_neg hx] at hlen
      have e1 : (xs.getD (n + 1 - 1) 0 == 0) = false := by rw [Nat.add_sub_cancel, beq_eq_false_iff_ne]; exact hx
      have e2 : ((limbs (val xs)).length == n + 1) = true := by rw [beq_iff_eq]; omega
      rw [e1, e2]; simp

set_option maxRecDepth 100000 in
set_option maxHeartbeats 800000 in
theorem rvalid_calls (w : World) (v : Value) (neg : Bool) (xs : List Nat) (h : Raw w v neg xs) :
    Calls Try.prog 69 #[v] w fun e w' => e = .returned (.bool (okB neg xs)) ∧ Ext w w' := by
  obtain ⟨ao, cap, rfl, h1, h2, h3⟩ := h
  obtain ⟨W, hW, eW, c0, c1⟩ := box1 w (.bool neg) (.slice ao xs.length cap) 24
  go_enter Try.func69, Try.ntmps69
  go_wp2
  clear hW
  go_loop [3] (fun i => ∃ k : Nat, k ≤ xs.length ∧ i = .int .i64 k ∧ Hid (∀ j, j < k → xs.getD j 0 < 1000000000)) (fun i => xs.length - (intOf i).toNat)
  case atStart => exact ⟨0, Nat.zero_le _, rfl, fun j hj => by omega⟩
  case round =>
    obtain ⟨k, hk, rfl, HD⟩ := hrel
    by_cases hk2 : k < xs.length
    · obtain ⟨b1, o1, rfl, hx1⟩ := (h3.ext eW).at_ (by omega)
      have hcx := hx1 k hk2
      have HB := Lib.hid (fun hi => okB_bad (neg := neg) (xs := xs) (i := k) hi)
      have HS : Hid (xs.getD k 0 < 1000000000 → ∀ j, j < k + 1 → xs.getD j 0 < 1000000000) := by
        intro h j hj
        by_cases e : j = k
        · subst e; exact h
        · exact HD.out j (by omega)
      clear hx1
      generalize xs.getD k 0 = x at *
      by_cases hb : (1000000000 : Int) ≤ x
      rotate_left
      · have HS2 := Lib.hid (HS.out (by omega))
        go_wp2
        go_round
        case rel => exact ⟨k + 1, by omega, by go_num, HS2.out⟩
        case measure => simp [intOf]; omega
      · have HB2 := Lib.hid (HB.out (by omega))
        go_wp2
        go_ret
        exact ⟨ret_bool HB2.out.symm, eW⟩
    · have hd : Dig xs := dig_iff.2 (fun i hi => HD.out i (by omega))
      have HF := Lib.hid (okB_dig' (neg := neg) hd)
      have HT := Lib.hid (fun n => quiet_eq (P := Try.prog) (n := n) (rtrim_calls (W.drewN n) ao xs cap h1 h2 (h3.ext (eW.drewN n)) hd))
      clear hd
      generalize hL : (limbs (val xs)).length = L at *
      clear hL
      by_cases hl : L = xs.length
      · have hbL : ((L : Int) == (xs.length : Int)) = true := by simp [hl]
        have HFL : Hid ((L == xs.length) = true) := by unfold Hid; simp [hl]
        clear hl
        cases neg
        · go_wp2
          go_quiet ((go_at_call 89; exact HT.out _))
          go_wp2
          go_ret
          exact ⟨ret_bool (by rw [HF.out, HFL.out]; rfl), eW.drewN _⟩
        · by_cases hp : 0 < xs.length
          · have hp2 : decide (0 < xs.length) = true := by simpa using hp
            have HP := Lib.hid hp2
            have hp3 : (0 : Int) < (xs.length : Int) := by omega
            go_wp2
            go_quiet ((go_at_call 89; exact HT.out _))
            go_wp2
            go_ret
            exact ⟨ret_bool (by rw [HF.out, HFL.out, HP.out]; rfl), eW.drewN _⟩
          · have hp2 : decide (0 < xs.length) = false := by simpa using hp
            have HP := Lib.hid hp2
            go_wp2
            go_quiet ((go_at_call 89; exact HT.out _))
            go_wp2
            go_ret
            exact ⟨ret_bool (by rw [HF.out, HFL.out, HP.out]; rfl), eW.drewN _⟩
      · have hbL : ((L : Int) == (xs.length : Int)) = false := by rw [beq_eq_false_iff_ne]; omega
        have HFL : Hid ((L == xs.length) = false) := by unfold Hid; rw [beq_eq_false_iff_ne]; exact hl
        clear hl
        go_wp2
        go_quiet ((go_at_call 89; exact HT.out _))
        go_wp2
        go_ret
        exact ⟨ret_bool (by rw [HF.out, HFL.out]; rfl), eW.drewN _⟩

end Go.Proofs.Ytdleiiboffkidaa
end

/- ---- Lim ---- -/
section
/-
  How many limbs a number has.
-/
set_option maxRecDepth 100000
namespace Go.Proofs.Ytdleiiboffkidaa
open Go.RowKit

theorem IsInt.drew {w : World} {v : Value} {z : Int} (h : IsInt w v z) : IsInt w.drew v z := h.ext (Ext.refl w).drew
/-- At most k limbs. -/
def Lim (k : Nat) (z : Int) : Prop := (limbs z.natAbs).length ≤ k
theorem Lim.sm {k : Nat} {z : Int} (h : Lim k z) (hk : k ≤ 1048576) : Sm z := Nat.le_trans h hk
theorem Lim.add {a : Nat} {x y : Int} (hx : Lim a x) (hy : Lim a y) : Lim (a + 1) (x + y) := by
  have h1 := lt_of_limbs_len hx
  have h2 := lt_of_limbs_len hy
  refine limbs_len_le ?_
  have h3 : (x + y).natAbs ≤ x.natAbs + y.natAbs := Int.natAbs_add_le x y
  rw [Nat.pow_succ]
  omega
theorem Lim.mul {a b : Nat} {x y : Int} (hx : Lim a x) (hy : Lim b y) : Lim (a + b) (x * y) := by
  have h1 := lt_of_limbs_len hx
  have h2 := lt_of_limbs_len hy
  refine limbs_len_le ?_
  rw [Int.natAbs_mul, Nat.pow_add]
  exact Nat.mul_lt_mul'' h1 h2
theorem Lim.mono {a b : Nat} {x : Int} (h : Lim a x) (hb : a ≤ b) : Lim b x := Nat.le_trans h hb
theorem Lim.natAbs_le {k : Nat} {x y : Int} (h : Lim k y) (hx : x.natAbs ≤ y.natAbs) : Lim k x := Nat.le_trans (limbs_len_mono hx) h
end Go.Proofs.Ytdleiiboffkidaa
end

/- ---- Struct ---- -/
section
/-
  A struct's block: two cells of it, as it is made, and as it is written.
-/
set_option maxRecDepth 100000
namespace Go.Proofs.Ytdleiiboffkidaa
open Go.RowKit

/-- A struct's block as it is made: two cells, not frozen. -/
def Fresh (w : World) (b : Nat) : Prop :=
  w.cell? ⟨b, 0, none⟩ = some (.bool false) ∧ w.cell? ⟨b, 1, none⟩ = some (.slice none 0 0) ∧ w.frozen? ⟨b, 0, none⟩ = false ∧ w.frozen? ⟨b, 1, none⟩ = false
theorem Fresh.ext {w w' : World} {b : Nat} (h : Fresh w b) (e : Ext w w') : Fresh w' b :=
  ⟨e.cell h.1, e.cell h.2.1, e.frozen (lt_of_cell h.1) h.2.2.1, e.frozen (lt_of_cell h.2.1) h.2.2.2⟩
theorem fresh_new (w : World) (t : TypeId) : Fresh (w.alloc (.cells #[.bool false, .slice none 0 0] t)) w.heap.size := by
  obtain ⟨W, hW, _, _, h1, h2, h3, h4⟩ := res_new w t
  rw [hW]
  exact ⟨h1, h2, h3, h4⟩
theorem fresh_snd (w : World) (o : Obj) (t : TypeId) : Fresh ((w.alloc o).alloc (.cells #[.bool false, .slice none 0 0] t)) (w.heap.size + 1) := by
  have := fresh_new (w.alloc o) t
  rw [World.size_alloc] at this
  exact this
theorem Fresh.alloc {w : World} {b : Nat} (h : Fresh w b) (o : Obj) : Fresh (w.alloc o) b := h.ext ((Ext.refl w).alloc o)

theorem Raw.set {w : World} {v : Value} {neg : Bool} {xs : List Nat} (h : Raw w v neg xs) {p : Addr} {u : Value} (hp : w.cell? p = some u) (hu : ∀ x, u ≠ .int .u32 x) (u' : Value) : Raw (w.setCell p u') v neg xs := by
  obtain ⟨ao, cap, h1, h2, h3, h4⟩ := h
  exact ⟨ao, cap, h1, h2, h3, h4.store hp hu u'⟩
/-- A struct's block: what its two cells hold. -/
def Struct (w : World) (b : Nat) (u0 u1 : Value) : Prop := w.cell? ⟨b, 0, none⟩ = some u0 ∧ w.cell? ⟨b, 1, none⟩ = some u1
theorem Struct.ext {w w' : World} {b : Nat} {u0 u1 : Value} (h : Struct w b u0 u1) (e : Ext w w') : Struct w' b u0 u1 := ⟨e.cell h.1, e.cell h.2⟩
theorem Struct.set {w : World} {b b' : Nat} {u0 u1 : Value} (h : Struct w b u0 u1) (hb : b' ≠ b) (j : Nat) (u : Value) : Struct (w.setCell ⟨b', j, none⟩ u) b u0 u1 :=
  ⟨by rw [World.cell?_setCell_far _ _ _ _ hb]; exact h.1, by rw [World.cell?_setCell_far _ _ _ _ hb]; exact h.2⟩
theorem Fresh.set {w : World} {b b' : Nat} (h : Fresh w b) (hb : b' ≠ b) (j : Nat) (u : Value) : Struct (w.setCell ⟨b', j, none⟩ u) b (.bool false) (.slice none 0 0) :=
  Struct.set ⟨h.1, h.2.1⟩ hb j u
theorem Struct.put {w : World} {b : Nat} {u0 u1 v0 v1 : Value} (h : Struct w b u0 u1) : Struct ((w.setCell ⟨b, 0, none⟩ v0).setCell ⟨b, 1, none⟩ v1) b v0 v1 := by
  constructor
  · rw [World.cell?_setCell_other _ _ _ _ (by simp)]
    exact World.cell?_setCell_same _ _ _ h.1
  · refine World.cell?_setCell_same _ _ _ (u := u1) ?_
    rw [World.cell?_setCell_other _ _ _ _ (by simp)]
    exact h.2
theorem Raw.put {w : World} {v : Value} {neg : Bool} {xs : List Nat} {b : Nat} (h : Raw w v neg xs) (k : Struct w b (.bool false) (.slice none 0 0)) (v0 v1 : Value) : Raw ((w.setCell ⟨b, 0, none⟩ v0).setCell ⟨b, 1, none⟩ v1) v neg xs := by
  refine (h.set k.1 (by simp) v0).set (u := .slice none 0 0) ?_ (by simp) v1
  rw [World.cell?_setCell_other _ _ _ _ (by simp)]
  exact k.2
theorem Ext.put {a w : World} (h : Ext a w) {b : Nat} (hb : a.heap.size ≤ b) (v0 v1 : Value) : Ext a ((w.setCell ⟨b, 0, none⟩ v0).setCell ⟨b, 1, none⟩ v1) :=
  (h.setCell (p := ⟨b, 0, none⟩) hb v0).setCell (p := ⟨b, 1, none⟩) hb v1
theorem struct_new (w : World) (u0 u1 : Value) (t : TypeId) : Struct (w.alloc (.cells #[u0, u1] t)) w.heap.size u0 u1 := ⟨by simp, by simp⟩

end Go.Proofs.Ytdleiiboffkidaa
end

/- ---- Keep ---- -/
section
/-
  What an operation of a drawn region leaves: numbers in memory stay, and so do structs but for the variable that is written.
-/
set_option maxRecDepth 100000
namespace Go.Proofs.Ytdleiiboffkidaa
open Go.RowKit

/-- Nothing below B turns; limbs stay; a struct's cells stay a struct's. -/
structure Keep (B : Nat) (w w' : World) : Prop where
  below : Below B w w'
  u32 : ∀ p x, w.cell? p = some (.int .u32 x) → w'.cell? p = some (.int .u32 x)
  bool : ∀ p x, w.cell? p = some (.bool x) → ∃ y, w'.cell? p = some (.bool y)
  slice : ∀ p x n c, w.cell? p = some (.slice x n c) → ∃ y m d, w'.cell? p = some (.slice y m d)
  free : ∀ p, p.block < w.heap.size → w.frozen? p = false → w'.frozen? p = false
theorem Keep.of {B : Nat} {w w' : World} (e : Ext w w') (h : B ≤ w.heap.size) : Keep B w w' :=
  ⟨Below.mono e h, fun _ _ hc => e.cell hc, fun _ x hc => ⟨x, e.cell hc⟩, fun _ x n c hc => ⟨x, n, c, e.cell hc⟩, fun _ hp hf => e.frozen hp hf⟩
theorem Keep.cells {B : Nat} {w w' : World} (k : Keep B w w') {ao : Option Addr} {xs : List Nat} (h : Cells w ao xs) : Cells w' ao xs := by
  rcases h with h | ⟨b, off, rfl, h⟩
  · exact .inl h
  · exact .inr ⟨b, off, rfl, fun i hi => k.u32 _ _ (h i hi)⟩
theorem Keep.isInt {B : Nat} {w w' : World} (k : Keep B w w') {v : Value} {z : Int} (h : IsInt w v z) : IsInt w' v z := by
  obtain ⟨ao, cap, h1, h2, h3, h4⟩ := h
  exact ⟨ao, cap, h1, h2, h3, k.cells h4⟩
theorem Keep.raw {B : Nat} {w w' : World} (k : Keep B w w') {v : Value} {s : Bool} {xs : List Nat} (h : Raw w v s xs) : Raw w' v s xs := by
  obtain ⟨ao, cap, h1, h2, h3, h4⟩ := h
  exact ⟨ao, cap, h1, h2, h3, k.cells h4⟩
theorem IsInt.keep {B : Nat} {w w' : World} {v : Value} {z : Int} (h : IsInt w v z) (k : Keep B w w') : IsInt w' v z := k.isInt h
theorem Raw.keep {B : Nat} {w w' : World} {v : Value} {s : Bool} {xs : List Nat} (h : Raw w v s xs) (k : Keep B w w') : Raw w' v s xs := k.raw h
/-- Two integers and a number. -/
def TupII (w : World) (v : Value) (q r k : Int) : Prop := ∃ v1 v2, v = .tuple #[v1, v2, .int .i64 k] ∧ IsInt w v1 q ∧ IsInt w v2 r
theorem TupII.keep {B : Nat} {w w' : World} {v : Value} {q r n : Int} (h : TupII w v q r n) (k : Keep B w w') : TupII w' v q r n := by
  obtain ⟨v1, v2, rfl, h1, h2⟩ := h
  exact ⟨v1, v2, rfl, k.isInt h1, k.isInt h2⟩

/-- A variable of the type Int. -/
def VarInt (B : Nat) (w : World) (v : Value) : Prop := ∃ b, v = .pointer (some ⟨b, 0, none⟩) ∧ B ≤ b ∧ (∃ x, w.cell? ⟨b, 0, none⟩ = some (.bool x)) ∧ (∃ y m d, w.cell? ⟨b, 1, none⟩ = some (.slice y m d)) ∧ w.frozen? ⟨b, 0, none⟩ = false ∧ w.frozen? ⟨b, 1, none⟩ = false
theorem VarInt.keep {B : Nat} {w w' : World} {v : Value} (h : VarInt B w v) (k : Keep B w w') : VarInt B w' v := by
  obtain ⟨b, rfl, hB, ⟨x, h0⟩, ⟨y, m, d, h1⟩, f0, f1⟩ := h
  exact ⟨b, rfl, hB, k.bool _ _ h0, k.slice _ _ _ _ h1, k.free _ (lt_of_cell h0) f0, k.free _ (lt_of_cell h1) f1⟩
theorem varInt_new {B : Nat} {w : World} (h : B ≤ w.heap.size) (t : TypeId) : VarInt B (w.alloc (.cells #[.bool false, .slice none 0 0] t)) (.pointer (some ⟨w.heap.size, 0, none⟩)) := by
  obtain ⟨W, hW, _, _, h1, h2, h3, h4⟩ := res_new w t
  rw [hW]
  exact ⟨_, rfl, h, ⟨_, h1⟩, ⟨_, _, _, h2⟩, h3, h4⟩
theorem VarInt.ne_new {B : Nat} {w : World} {v : Value} (h : VarInt B w v) : v ≠ .pointer (some ⟨w.heap.size, 0, none⟩) := by
  obtain ⟨b, rfl, hB, ⟨x, h0⟩, _⟩ := h
  intro he
  injection he with he
  injection he with he
  injection he with he
  exact absurd (lt_of_cell h0) (by rw [he]; exact Nat.lt_irrefl _)
/-- A variable that holds this integer. -/
def BoxInt (w : World) (v : Value) (z : Int) : Prop := ∃ b s ao n c, v = .pointer (some ⟨b, 0, none⟩) ∧ w.cell? ⟨b, 0, none⟩ = some (.bool s) ∧ w.cell? ⟨b, 1, none⟩ = some (.slice ao n c) ∧ IsInt w (.agg #[.bool s, .slice ao n c]) z
theorem BoxInt.ext {w w' : World} {v : Value} {z : Int} (h : BoxInt w v z) (e : Ext w w') : BoxInt w' v z := by
  obtain ⟨b, s, ao, n, c, rfl, h0, h1, hI⟩ := h
  exact ⟨b, s, ao, n, c, rfl, e.cell h0, e.cell h1, hI.ext e⟩
/-- A store of a struct into its variable. -/
theorem keep_put {B : Nat} {w : World} {b : Nat} {x : Bool} {y : Option Addr} {m d : Nat} (hB : B ≤ b) (h0 : w.cell? ⟨b, 0, none⟩ = some (.bool x)) (h1 : w.cell? ⟨b, 1, none⟩ = some (.slice y m d)) (x' : Bool) (y' : Option Addr) (m' d' : Nat) :
    Keep B w ((w.setCell ⟨b, 0, none⟩ (.bool x')).setCell ⟨b, 1, none⟩ (.slice y' m' d')) := by
  have k1 : ∀ p : Addr, p ≠ ⟨b, 0, none⟩ → p ≠ ⟨b, 1, none⟩ → ((w.setCell ⟨b, 0, none⟩ (.bool x')).setCell ⟨b, 1, none⟩ (.slice y' m' d')).cell? p = w.cell? p := fun p n0 n1 => by
    rw [World.cell?_setCell_other _ _ _ _ (fun h => n1 h.symm), World.cell?_setCell_other _ _ _ _ (fun h => n0 h.symm)]
  have hS := Struct.put (v0 := .bool x') (v1 := .slice y' m' d') ⟨h0, h1⟩
  refine ⟨((Below.refl _ _).setCell (p := ⟨b, 0, none⟩) hB _).setCell (p := ⟨b, 1, none⟩) hB _, ?_, ?_, ?_, ?_⟩
  · intro p v hp
    rw [k1 p (fun h => by rw [h, h0] at hp; cases hp) (fun h => by rw [h, h1] at hp; cases hp)]; exact hp
  · intro p v hp
    by_cases e0 : p = ⟨b, 0, none⟩
    · subst e0; exact ⟨_, hS.1⟩
    · rw [k1 p e0 (fun h => by rw [h, h1] at hp; cases hp)]; exact ⟨_, hp⟩
  · intro p v n c hp
    by_cases e1 : p = ⟨b, 1, none⟩
    · subst e1; exact ⟨_, _, _, hS.2⟩
    · rw [k1 p (fun h => by rw [h, h0] at hp; cases hp) e1]; exact ⟨_, _, _, hp⟩
  · intro p _ hf
    simpa using hf
/-- .. and its variable holds it; another one holds what it held. -/
theorem boxInt_put {w : World} {b : Nat} {x : Bool} {y : Option Addr} {m d : Nat} (h0 : w.cell? ⟨b, 0, none⟩ = some (.bool x)) (h1 : w.cell? ⟨b, 1, none⟩ = some (.slice y m d)) {s : Bool} {ao : Option Addr} {n c : Nat} {z : Int} (h : IsInt w (.agg #[.bool s, .slice ao n c]) z) :
    BoxInt ((w.setCell ⟨b, 0, none⟩ (.bool s)).setCell ⟨b, 1, none⟩ (.slice ao n c)) (.pointer (some ⟨b, 0, none⟩)) z := by
  have hS := Struct.put (v0 := .bool s) (v1 := .slice ao n c) ⟨h0, h1⟩
  exact ⟨b, s, ao, n, c, rfl, hS.1, hS.2, (keep_put (B := 0) (Nat.zero_le _) h0 h1 s ao n c).isInt h⟩
theorem BoxInt.put {w : World} {b : Nat} {x : Bool} {y : Option Addr} {m d : Nat} {v : Value} {z : Int} (h : BoxInt w v z) (hv : v ≠ .pointer (some ⟨b, 0, none⟩)) (h0 : w.cell? ⟨b, 0, none⟩ = some (.bool x)) (h1 : w.cell? ⟨b, 1, none⟩ = some (.slice y m d)) (s : Bool) (ao : Option Addr) (n c : Nat) :
    BoxInt ((w.setCell ⟨b, 0, none⟩ (.bool s)).setCell ⟨b, 1, none⟩ (.slice ao n c)) v z := by
  obtain ⟨b', s', ao', n', c', rfl, k0, k1, hI⟩ := h
  have hne : b ≠ b' := fun e => hv (by rw [e])
  have hS := (Struct.set (u0 := .bool s') (u1 := .slice ao' n' c') ⟨k0, k1⟩ hne 0 (.bool s)).set hne 1 (.slice ao n c)
  exact ⟨b', s', ao', n', c', rfl, hS.1, hS.2, (keep_put (B := 0) (Nat.zero_le _) h0 h1 s ao n c).isInt hI⟩

end Go.Proofs.Ytdleiiboffkidaa
end

/- ---- From ---- -/
section
/-
  FromInt64 and Int64, of the program and of the reference.
-/
set_option maxRecDepth 100000
namespace Go.Proofs.Ytdleiiboffkidaa
open Go.RowKit

theorem isLimbs_of_owns {w : World} {base : Nat} {v : Value} {n : Nat} (h : w.ownsRow base 67 1 v (limbs n).length ((limbs n).map fun x => Value.int .u32 ((x : Nat) : Int))) : IsLimbs n v w := by
  have hh := h
  rcases hh.2 with ⟨rfl, h0⟩ | ⟨g, cap, cur, rfl, _, _, hnc, hcm, _, _⟩
  · have e : limbs n = [] := List.eq_nil_of_length_eq_zero h0
    exact ⟨none, 0, by rw [e]; rfl, by rw [e]; simp, by omega, by rw [e]; exact Cells.nil _ _⟩
  · exact ⟨_, cap, rfl, hnc, by unfold maxLen at hcm; omega, (Blk.of_owns h).cells⟩

set_option maxRecDepth 100000 in
set_option maxHeartbeats 800000 in
theorem rlimbs_calls (w : World) (n : Nat) (hn : n ≤ 18446744073709551615) :
    Calls Try.prog 86 #[.int .u64 (n : Int)] w (Ret (IsLimbs n) w) := by
  obtain ⟨i0, hi, hz0, hz1, hz2⟩ := info_parts info_u32
  have hlen : (limbs n).length ≤ 3 := limbs_len_le (by omega)
  have HLEN := Lib.hid hlen
  have hnI : (n : Int) ≤ 18446744073709551615 := by omega
  clear hn hlen
  go_enter Try.func86, Try.ntmps86
  go_wp2
  go_loopw [0, 3] (fun m v wr => ∃ (k : Nat) (xs : List Nat), m = .int .u64 k ∧ (k : Int) ≤ 18446744073709551615 ∧ Ext w wr ∧ wr.ownsRow w.heap.size 67 1 v xs.length (xs.map fun x => Value.int .u32 ((x : Nat) : Int)) ∧ Hid (limbs n = xs ++ limbs k)) (fun m _ _ => (intOf m).toNat)
  case atStart => exact ⟨n, [], rfl, hnI, Ext.refl w, World.ownsRow_nil _ _ _ _, rfl⟩
  case round =>
    obtain ⟨k, xs, rfl, hk, hE, hown, HX⟩ := hrel
    rcases Nat.eq_zero_or_pos k with h0 | h0
    · subst h0
      have hl : limbs n = xs := by rw [HX.out, limbs_zero, List.append_nil]
      rw [← hl] at hown
      have HI := Lib.hid (isLimbs_of_owns hown)
      clear hl hown
      go_wp2
      go_ret
      exact ⟨_, rfl, HI.out, hE⟩
    · have hkI : (0 : Int) < (k : Int) := by omega
      have HS : Hid (limbs n = (xs ++ [k % 1000000000]) ++ limbs (k / 1000000000)) := by
        unfold Hid; rw [HX.out, limbs_step h0, List.append_assoc]; rfl
      have hxl : xs.length ≤ 3 := by have := HLEN.out; rw [HX.out, List.length_append] at this; omega
      have HN := Lib.hid h0
      have hsz := hE.size
      clear h0
      go_wp2_with (at_builtin; refine wpList_append_own _ rfl _ _ 22 rfl w.heap.size 67 i0 (.int .u32 0) 1 4 Try.underlying22 hi hz0 hz1 hz2 rfl (by decide) _ xs.length _ rfl (hown.alloc _) ⟨wr.heap.size, 0, none⟩ 1 1 [.int .u32 ((k : Int) % 1000000000)] rfl rfl ?c1 ?c2 ?c3 ?c4 ?c5 ?_)
      case c1 =>
        intro j u hj
        match j, hj with
        | 0, hj => simp at hj; subst hj; simp [Addr.add]
      case c2 => intro u hu; simp at hu; subst hu; rfl
      case c3 => unfold maxLen; omega
      case c4 => omega
      case c5 => simp; omega
      intro v' w1 hown1 hgrow _
      have hr := hown.lt
      have hE1 : Ext w w1 := Below.grown (hE.alloc _) hgrow (by simp; omega) (fun g hg => (hr g hg).1)
      have hown2 : w1.ownsRow w.heap.size 67 1 v' (xs ++ [k % 1000000000]).length ((xs ++ [k % 1000000000]).map fun x => Value.int .u32 ((x : Nat) : Int)) := by
        rw [List.length_append, List.map_append]
        exact hown1
      clear hown1 hgrow hown hr
      go_wp2
      go_roundw
      case rel => exact ⟨k / 1000000000, xs ++ [k % 1000000000], vint (by omega), by omega, hE1, hown2, HS.out⟩
      case measure => have := HN.out; simp [intOf]; omega

theorem wrap_neg (n : Int) (h1 : -9223372036854775808 ≤ n) (h2 : n < 0) : IntKind.u64.wrap (-IntKind.u64.wrap n) = ((n.natAbs : Nat) : Int) := by
  simp only [IntKind.wrap_u64]; omega
theorem sgn_natAbs_neg {n : Int} (h : n < 0) : sgn true n.natAbs = n := by simp [sgn]; omega
theorem sgn_natAbs_pos {n : Int} (h : 0 ≤ n) : sgn false n.natAbs = n := by simp [sgn]; omega

set_option maxHeartbeats 400000 in
theorem fromInt64_calls (w : World) (n : Int) (h1 : -9223372036854775808 ≤ n) (h2 : n ≤ 9223372036854775807) :
    Calls Try.prog 76 #[.int .i64 n] w (Ret (fun v w' => IsInt w' v n) w) := by
  obtain ⟨W, hW, eW, hz, r0, r1, f0, f1⟩ := res_new w 24
  clear hz
  by_cases hn : n < 0
  · have HE := Lib.hid (sgn_natAbs_neg hn)
    have HW := Lib.hid (wrap_neg n h1 hn)
    go_enter Try.func76, Try.ntmps76
    go_wp2_with fail
    clear hW
    rw [HW.out]
    refine (limbsOf_calls _ n.natAbs (by omega)).mono ?_
    rintro e w1 ⟨v, rfl, ⟨ao, cap, rfl, k1, k2, k3⟩, e1⟩
    go_wp2_with fail
    refine (signedL_calls _ _ _ _ _ k1 k2 k3).mono ?_
    rintro e w2 ⟨v, rfl, hI, e2⟩
    rw [HE.out] at hI
    obtain ⟨ao2, cap2, s2, n2, rfl, _⟩ := hI.open_
    have eA := e1.trans e2
    have c02 := eA.cell r0
    have c12 := eA.cell r1
    have f02 := eA.frozen (lt_of_cell r0) f0
    have f12 := eA.frozen (lt_of_cell r1) f1
    clear r0 r1 f0 f1
    go_wp2
    exact bodyPost_ret (v := .agg #[.bool s2, .slice ao2 (limbs n2).length cap2]) (by simp [results, Try.results76, go_sem, c02, c12]) rfl (fin_int hI c02 c12 (Nat.le_refl _) (eW.trans eA))
  · have HE := Lib.hid (sgn_natAbs_pos (n := n) (by omega))
    have HW : Hid (n = ((n.natAbs : Nat) : Int)) := by unfold Hid; omega
    go_enter Try.func76, Try.ntmps76
    go_wp2_with fail
    clear hW
    rw [show Value.int .u64 n = Value.int .u64 ((n.natAbs : Nat) : Int) from vint HW.out]
    refine (limbsOf_calls _ n.natAbs (by omega)).mono ?_
    rintro e w1 ⟨v, rfl, ⟨ao, cap, rfl, k1, k2, k3⟩, e1⟩
    go_wp2_with fail
    refine (signedL_calls _ _ _ _ _ k1 k2 k3).mono ?_
    rintro e w2 ⟨v, rfl, hI, e2⟩
    rw [HE.out] at hI
    obtain ⟨ao2, cap2, s2, n2, rfl, _⟩ := hI.open_
    have eA := e1.trans e2
    have c02 := eA.cell r0
    have c12 := eA.cell r1
    have f02 := eA.frozen (lt_of_cell r0) f0
    have f12 := eA.frozen (lt_of_cell r1) f1
    clear r0 r1 f0 f1
    go_wp2
    exact bodyPost_ret (v := .agg #[.bool s2, .slice ao2 (limbs n2).length cap2]) (by simp [results, Try.results76, go_sem, c02, c12]) rfl (fin_int hI c02 c12 (Nat.le_refl _) (eW.trans eA))

set_option maxHeartbeats 400000 in
theorem rfromInt64_calls (w : World) (n : Int) (h1 : -9223372036854775808 ≤ n) (h2 : n ≤ 9223372036854775807) :
    Calls Try.prog 55 #[.int .i64 n] w (Ret (fun v w' => IsInt w' v n) w) := by
  obtain ⟨W, hW, eW, hz, r0, r1, f0, f1⟩ := res_new w 24
  clear hz
  by_cases hn : n < 0
  · have HE := Lib.hid (sgn_natAbs_neg hn)
    have HW := Lib.hid (wrap_neg n h1 hn)
    go_enter Try.func55, Try.ntmps55
    go_wp2_with fail
    clear hW
    rw [HW.out]
    refine (rlimbs_calls _ n.natAbs (by omega)).mono ?_
    rintro e w1 ⟨v, rfl, ⟨ao, cap, rfl, k1, k2, k3⟩, e1⟩
    go_wp2_with fail
    refine (rsignedL_calls _ _ _ _ _ k1 k2 k3).mono ?_
    rintro e w2 ⟨v, rfl, hI, e2⟩
    rw [HE.out] at hI
    obtain ⟨ao2, cap2, s2, n2, rfl, _⟩ := hI.open_
    have eA := e1.trans e2
    have c02 := eA.cell r0
    have c12 := eA.cell r1
    have f02 := eA.frozen (lt_of_cell r0) f0
    have f12 := eA.frozen (lt_of_cell r1) f1
    clear r0 r1 f0 f1
    go_wp2
    exact bodyPost_ret (v := .agg #[.bool s2, .slice ao2 (limbs n2).length cap2]) (by simp [results, Try.results55, go_sem, c02, c12]) rfl (fin_int hI c02 c12 (Nat.le_refl _) (eW.trans eA))
  · have HE := Lib.hid (sgn_natAbs_pos (n := n) (by omega))
    have HW : Hid (n = ((n.natAbs : Nat) : Int)) := by unfold Hid; omega
    go_enter Try.func55, Try.ntmps55
    go_wp2_with fail
    clear hW
    rw [show Value.int .u64 n = Value.int .u64 ((n.natAbs : Nat) : Int) from vint HW.out]
    refine (rlimbs_calls _ n.natAbs (by omega)).mono ?_
    rintro e w1 ⟨v, rfl, ⟨ao, cap, rfl, k1, k2, k3⟩, e1⟩
    go_wp2_with fail
    refine (rsignedL_calls _ _ _ _ _ k1 k2 k3).mono ?_
    rintro e w2 ⟨v, rfl, hI, e2⟩
    rw [HE.out] at hI
    obtain ⟨ao2, cap2, s2, n2, rfl, _⟩ := hI.open_
    have eA := e1.trans e2
    have c02 := eA.cell r0
    have c12 := eA.cell r1
    have f02 := eA.frozen (lt_of_cell r0) f0
    have f12 := eA.frozen (lt_of_cell r1) f1
    clear r0 r1 f0 f1
    go_wp2
    exact bodyPost_ret (v := .agg #[.bool s2, .slice ao2 (limbs n2).length cap2]) (by simp [results, Try.results55, go_sem, c02, c12]) rfl (fin_int hI c02 c12 (Nat.le_refl _) (eW.trans eA))


/-- What Int64 returns. -/
def i64v (z : Int) : Int := if -9223372036854775808 ≤ z ∧ z ≤ 9223372036854775807 then z else 0
def i64ok (z : Int) : Bool := decide (-9223372036854775808 ≤ z ∧ z ≤ 9223372036854775807)
theorem i64_in {z : Int} (h1 : -9223372036854775808 ≤ z) (h2 : z ≤ 9223372036854775807) : i64v z = z ∧ i64ok z = true := ⟨if_pos ⟨h1, h2⟩, decide_eq_true ⟨h1, h2⟩⟩
theorem i64_out {z : Int} (h : z < -9223372036854775808 ∨ 9223372036854775807 < z) : i64v z = 0 ∧ i64ok z = false := ⟨if_neg (by omega), decide_eq_false (by omega)⟩

end Go.Proofs.Ytdleiiboffkidaa
end

/- ---- Div ---- -/
section
/-
  DivMod, over a hypothesis on how the limbs are divided.
-/
set_option maxRecDepth 100000
namespace Go.Proofs.Ytdleiiboffkidaa
open Go.RowKit

theorem u64_num {x : Int} (h0 : 0 ≤ x) (h1 : x ≤ 18446744073709551615) : IntKind.u64.wrap x = x := by rw [IntKind.wrap_u64]; omega
theorem wrap_quo (m n q : Nat) (hm : m ≤ 18446744073709551615) (hq : q = m / n) : IntKind.u64.wrap ((m : Int) / (n : Int)) = (q : Int) := by
  rw [← Int.natCast_ediv, ← hq]
  exact u64_num (Int.natCast_nonneg _) (by have := Nat.div_le_self m n; omega)
theorem rem_nat (m n r : Nat) (hr : r = m % n) : (m : Int) % (n : Int) = (r : Int) ∧ (m : Int).tmod (n : Int) = (r : Int) := by
  rw [Int.tmod_eq_emod_of_nonneg (Int.natCast_nonneg _), ← Int.natCast_emod, hr]; simp

/-- Two results with these properties. -/
def Ret2 (Q1 Q2 : Value → World → Prop) (w : World) (e : Ending) (w' : World) : Prop := ∃ v1 v2, e = .returned (.tuple #[v1, v2]) ∧ Q1 v1 w' ∧ Q2 v2 w' ∧ Ext w w'
/-- The limbs of these two numbers are divided rightly. -/
def DivOK (m n : Nat) : Prop := ∀ (w : World) (ax ay : Option Addr) (cx cy : Nat), (limbs m).length ≤ cx → (limbs n).length ≤ cy → cx ≤ 9223372036854775807 → cy ≤ 9223372036854775807 → Cells w ax (limbs m) → Cells w ay (limbs n) →
  Calls Try.prog 93 #[.slice ax (limbs m).length cx, .slice ay (limbs n).length cy] w (Ret2 (IsLimbs (m / n)) (IsLimbs (m % n)) w)

set_option maxRecDepth 100000 in
set_option maxHeartbeats 800000 in
theorem divOK_less (m n : Nat) (lx : (limbs m).length ≤ 1048576) (h : (limbs m).length < (limbs n).length) : DivOK m n := by
  intro w ax ay cx cy kx ky bx by_ hx hy
  have hlt := lt_of_len h
  have HQ := Lib.hid (Nat.div_eq_of_lt hlt)
  have HR := Lib.hid (Nat.mod_eq_of_lt hlt)
  clear hlt
  go_enter Try.func93, Try.ntmps93
  go_wp2_with fail
  refine (clone_calls w ax (limbs m) cx (by omega) hx kx).mono ?_
  rintro e w1 ⟨az, cz, rfl, h1, h2, hE, hz⟩
  have hc := Cloned.cells hz
  clear hz
  go_wp2
  go_ret2
  exact ⟨_, _, rfl, by rw [HQ.out]; exact ⟨none, 0, rfl, by simp [limbs_zero], by omega, Cells.nil _ _⟩, by rw [HR.out]; exact ⟨az, cz, rfl, h1, h2, hc⟩, hE⟩

set_option maxRecDepth 100000 in
set_option maxHeartbeats 800000 in
theorem divOK_small (m n : Nat) (h : ¬ (limbs m).length < (limbs n).length) (h2 : (limbs m).length ≤ 2) (hn : n ≠ 0) : DivOK m n := by
  intro w ax ay cx cy kx ky bx by_ hx hy
  have bm : m < 1000000000000000000 := by have := lt_of_limbs_len h2; omega
  have bn : n < 1000000000000000000 := by have := lt_of_limbs_len (n := n) (k := 2) (by omega); omega
  have hvx := valueOf_calls w ax (limbs m) cx kx bx hx (by rw [val_limbs]; omega)
  have hvy := valueOf_calls w ay (limbs n) cy ky by_ hy (by rw [val_limbs]; omega)
  rw [val_limbs] at hvx hvy
  have HX := Lib.hid hvx
  have HY := Lib.hid hvy
  have hq1 : m / n ≤ m := Nat.div_le_self _ _
  have hr1 : m % n < n := Nat.mod_lt _ (by omega)
  obtain ⟨q, hq⟩ : ∃ q, q = m / n := ⟨_, rfl⟩
  obtain ⟨r, hr⟩ : ∃ r, r = m % n := ⟨_, rfl⟩
  have HF := Lib.hid (And.intro (wrap_quo m n q (by omega) hq) (rem_nat m n r hr))
  rw [← hq, ← hr]
  rw [← hq] at hq1
  rw [← hr] at hr1
  have HA := Lib.hid (fun W => limbsOf_calls W q (by omega))
  have HC := Lib.hid (fun W => limbsOf_calls W r (by omega))
  have l1 : ((limbs n).length : Int) ≤ ((limbs m).length : Int) := by omega
  have l2 : decide (((limbs m).length : Int) ≤ 2) = true := decide_eq_true (by omega)
  clear hvx hvy hq hr hq1 hr1 bm bn h h2 kx ky bx by_
  go_enter Try.func93, Try.ntmps93
  go_wp2_with fail
  refine HX.out.mono ?_
  rintro e w' ⟨rfl, rfl⟩
  go_wp2_with fail
  refine HY.out.mono ?_
  rintro e w' ⟨rfl, rfl⟩
  obtain ⟨b1, b2, b3⟩ := HF.out
  clear l1 l2
  go_wp2_with fail
  go_region_held3 (fun _ => True) (exact True.intro) ((first
    | (go_at_call 98; ((with_reducible refine (HA.out _).mono ?_)); rintro e w1 ⟨v1, rfl, hv1, e1⟩)
    | (go_at_call 98; ((with_reducible refine (HC.out _).mono ?_)); rintro e w2 ⟨v2, rfl, hv2, e2⟩)))
  go_wp2
  go_ret2
  exact ⟨v1, v2, rfl, hv1.ext e2, hv2, e1.of_drew.trans e2⟩

/-- Quotient and remainder, rounded down, and how great they are. -/
def DM (z1 z2 q r : Int) : Prop := z1 = q * z2 + r ∧ (0 ≤ r ∧ r < z2 ∨ z2 < r ∧ r ≤ 0) ∧ q.natAbs ≤ z1.natAbs ∧ r.natAbs < z2.natAbs
theorem xor_xor (s s' : Bool) : (!((!(s == s')) == s')) = s := by cases s <;> cases s' <;> rfl
theorem sgn_range (s : Bool) (r n : Nat) (h : r < n) : 0 ≤ sgn s r ∧ sgn s r < sgn s n ∨ sgn s n < sgn s r ∧ sgn s r ≤ 0 := by
  cases s
  · left; simp [sgn]; omega
  · right; simp [sgn]; omega
theorem dm_same (s s' : Bool) (m n : Nat) (hn : 0 < n) (h : s = s' ∨ m % n = 0) : DM (sgn s m) (sgn s' n) (sgn (!(s == s')) (m / n)) (sgn s' (m % n)) := by
  have e := Nat.div_add_mod m n
  have hr := Nat.mod_lt m hn
  have hq := Nat.div_le_self m n
  rw [Nat.mul_comm] at e
  refine ⟨?_, sgn_range s' _ _ hr, by rw [natAbs_sgn, natAbs_sgn]; exact hq, by rw [natAbs_sgn, natAbs_sgn]; exact hr⟩
  rw [sgn_mul, xor_xor]
  rcases h with rfl | h0
  · rw [sgn_add_same, e]
  · rw [h0] at e ⊢
    rw [sgn_zero, Int.add_zero]; rw [Nat.add_zero] at e; rw [e]
theorem dm_other (s s' : Bool) (m n : Nat) (hn : 0 < n) (h : s ≠ s') (hr0 : m % n ≠ 0) : DM (sgn s m) (sgn s' n) (sgn (!(s == s')) (m / n + 1)) (sgn s' (n - m % n)) := by
  have e := Nat.div_add_mod m n
  have hr := Nat.mod_lt m hn
  have hq : m / n + 1 ≤ m := by
    have h2 : 2 ≤ n := by
      rcases Nat.lt_or_ge n 2 with h1 | h1
      · obtain rfl : n = 1 := by omega
        rw [Nat.mod_one] at hr0; omega
      · exact h1
    have hm : 0 < m := by
      rcases Nat.eq_zero_or_pos m with h1 | h1
      · subst h1; simp at hr0
      · exact h1
    exact Nat.div_lt_self hm h2
  rw [Nat.mul_comm] at e
  refine ⟨?_, sgn_range s' _ _ (by omega), by rw [natAbs_sgn, natAbs_sgn]; exact hq, by rw [natAbs_sgn, natAbs_sgn]; omega⟩
  rw [sgn_mul, xor_xor]
  have hle : n - m % n ≤ (m / n + 1) * n := by rw [Nat.add_mul]; omega
  rw [sgn_add_ge _ _ _ _ h hle]
  congr 1
  rw [Nat.add_mul]; omega

/-- Two structs boxed, and two results that are integers. -/
theorem boxes2rr (w : World) (u0 u1 v0 v1 : Value) (t : TypeId) : ∃ W, ((((w.alloc (.cells #[u0, u1] t)).alloc (.cells #[v0, v1] t)).alloc (.cells #[.bool false, .slice none 0 0] t)).alloc (.cells #[.bool false, .slice none 0 0] t)) = W ∧ Ext w W ∧
    W.cell? ⟨w.heap.size, 0, none⟩ = some u0 ∧ W.cell? ⟨w.heap.size, 1, none⟩ = some u1 ∧ W.cell? ⟨w.heap.size + 1, 0, none⟩ = some v0 ∧ W.cell? ⟨w.heap.size + 1, 1, none⟩ = some v1 ∧
    (W.cell? ⟨w.heap.size + 2, 0, none⟩ = some (.bool false) ∧ W.cell? ⟨w.heap.size + 2, 1, none⟩ = some (.slice none 0 0) ∧ W.frozen? ⟨w.heap.size + 2, 0, none⟩ = false ∧ W.frozen? ⟨w.heap.size + 2, 1, none⟩ = false) ∧
    (W.cell? ⟨w.heap.size + 3, 0, none⟩ = some (.bool false) ∧ W.cell? ⟨w.heap.size + 3, 1, none⟩ = some (.slice none 0 0) ∧ W.frozen? ⟨w.heap.size + 3, 0, none⟩ = false ∧ W.frozen? ⟨w.heap.size + 3, 1, none⟩ = false) := by
  obtain ⟨V, hV, eV, c0, c1, d0, d1, r0, r1, f0, f1⟩ := boxes2r w u0 u1 v0 v1 t
  obtain ⟨W, hW, eW, _, a0, a1, a2, a3⟩ := res_new V t
  have hz : V.heap.size = w.heap.size + 3 := by rw [← hV]; simp
  rw [hz] at a0 a1 a2 a3
  exact ⟨W, by rw [hV, hW], eV.trans eW, eW.cell c0, eW.cell c1, eW.cell d0, eW.cell d1, ⟨eW.cell r0, eW.cell r1, eW.frozen (lt_of_cell r0) f0, eW.frozen (lt_of_cell r1) f1⟩, a0, a1, a2, a3⟩

theorem isInt_raw {w : World} {ao : Option Addr} {cap n : Nat} {s : Bool} (h1 : (limbs n).length ≤ cap) (h2 : cap ≤ 9223372036854775807) (h3 : Cells w ao (limbs n)) (h4 : s = true → 0 < n) :
    Raw w (.agg #[.bool s, .slice ao (limbs n).length cap]) s (limbs n) ∧ okB s (limbs n) = true := by
  refine ⟨⟨ao, cap, rfl, h1, h2, h3⟩, ?_⟩
  rcases Nat.eq_zero_or_pos n with h0 | h0
  · subst h0
    rw [limbs_zero, okB_nil]
    cases s
    · rfl
    · exact absurd (h4 rfl) (by omega)
  · rw [okB_dig (dig_limbs n) (limbs_pos h0)]
    have := limbs_last n (by intro e; have := limbs_eq_nil.1 e; omega)
    simpa using this

theorem IsInt.store2 {w2 : World} {v : Value} {z : Int} {r : Nat} {b0 : Bool} {a0 : Option Addr} {l0 k0 : Nat} (h : IsInt w2 v z)
    (c0 : w2.cell? ⟨r, 0, none⟩ = some (.bool b0)) (c1 : w2.cell? ⟨r, 1, none⟩ = some (.slice a0 l0 k0)) (u0 u1 : Value) : IsInt ((w2.setCell ⟨r, 0, none⟩ u0).setCell ⟨r, 1, none⟩ u1) v z := by
  obtain ⟨ao', cap', hv, h1, h2, h3⟩ := h
  have k1 : (w2.setCell ⟨r, 0, none⟩ u0).cell? ⟨r, 1, none⟩ = some (.slice a0 l0 k0) := by
    rw [World.cell?_setCell_other _ _ _ _ (by simp)]; exact c1
  exact ⟨ao', cap', hv, h1, h2, (h3.store c0 (by simp) _).store k1 (by simp) _⟩
/-- What DivMod returns for a divisor that is not 0. -/
def RetDM (z1 z2 : Int) (w : World) (e : Ending) (w' : World) : Prop :=
  ∃ v1 v2 q r, e = .returned (.tuple #[v1, v2, .int .i64 0]) ∧ IsInt w' v1 q ∧ IsInt w' v2 r ∧ DM z1 z2 q r ∧ Ext w w'

/-- Both results have been stored and are read again. -/
theorem fin_dm {w w2 : World} {v4 v5 u0 u1 u2 u3 : Value} {b0 b1 : Bool} {a0 a1 : Option Addr} {l0 k0 l1 k1 : Nat} {z1 z2 q r : Int} {g : Nat} (h4 : IsInt w2 v4 q) (h5 : IsInt w2 v5 r) (hdm : DM z1 z2 q r)
    (c0 : w2.cell? ⟨g, 0, none⟩ = some (.bool b0)) (c1 : w2.cell? ⟨g, 1, none⟩ = some (.slice a0 l0 k0)) (d0 : w2.cell? ⟨g + 1, 0, none⟩ = some (.bool b1)) (d1 : w2.cell? ⟨g + 1, 1, none⟩ = some (.slice a1 l1 k1))
    (hr : w.heap.size ≤ g) (e : Ext w w2) :
    RetDM z1 z2 w (.returned (.tuple #[v4, v5, .int .i64 0])) ((((w2.setCell ⟨g, 0, none⟩ u0).setCell ⟨g, 1, none⟩ u1).setCell ⟨g + 1, 0, none⟩ u2).setCell ⟨g + 1, 1, none⟩ u3) := by
  have k0 := keep_store (x := u0) (y := u1) (i := 0) (j := 1) (r := g) d0 (by omega)
  have k1 := keep_store (x := u0) (y := u1) (i := 0) (j := 1) (r := g) d1 (by omega)
  exact ⟨v4, v5, q, r, rfl, (h4.store2 c0 c1 _ _).store2 k0 k1 _ _, (h5.store2 c0 c1 _ _).store2 k0 k1 _ _, hdm,
    (((e.setCell (p := ⟨g, 0, none⟩) hr _).setCell (p := ⟨g, 1, none⟩) hr _).setCell (p := ⟨g + 1, 0, none⟩) (Nat.le_succ_of_le hr) _).setCell (p := ⟨g + 1, 1, none⟩) (Nat.le_succ_of_le hr) _⟩

set_option maxRecDepth 100000 in
set_option maxHeartbeats 6400000 in
theorem divMod_calls (w : World) (v1 v2 : Value) (z1 z2 : Int) (h : IsInt w v1 z1) (k : IsInt w v2 z2) (l1 : Sm z1) (l2 : Sm z2) (hz2 : z2 ≠ 0) (hD : DivOK z1.natAbs z2.natAbs) :
    Calls Try.prog 74 #[v1, v2] w (RetDM z1 z2 w) := by
  obtain ⟨ao, cap, s, n, rfl, h1, h2, h3, H4, H5, H6⟩ := h.open_
  obtain ⟨ao', cap', s', n', rfl, k1, k2, k3, K4, K5, K6⟩ := k.open_
  unfold Sm at l1 l2
  rw [← H4.out] at l1
  rw [← K4.out] at l2
  rw [← H4.out, ← K4.out] at hD
  have hn0 : 0 < n' := by have := K4.out; omega
  obtain ⟨W, hW, eW, c0, c1, d0, d1, ⟨q0, q1, fq0, fq1⟩, ⟨r0, r1, fr0, fr1⟩⟩ := boxes2rr w (.bool s) (.slice ao (limbs n).length cap) (.bool s') (.slice ao' (limbs n').length cap') 24
  have HVA := Lib.hid (isInt_raw h1 h2 h3 H6.out)
  have HVB := Lib.hid (isInt_raw k1 k2 k3 K6.out)
  have hbe : (((limbs n').length : Int) == 0) = false := by have := limbs_pos hn0; rw [beq_eq_false_iff_ne]; omega
  have HN := Lib.hid hn0
  clear hn0
  go_enter Try.func74, Try.ntmps74
  go_wp2_with fail
  clear hW
  refine (valid_calls W _ s (limbs n) (HVA.out.1.ext eW)).mono ?_
  rintro e w1 ⟨rfl, e1⟩
  rw [HVA.out.2]
  replace c0 := e1.cell c0
  replace c1 := e1.cell c1
  replace d0 := e1.cell d0
  replace d1 := e1.cell d1
  go_wp2_with fail
  refine (valid_calls w1 _ s' (limbs n') (HVB.out.1.ext (eW.trans e1))).mono ?_
  rintro e w2 ⟨rfl, e2⟩
  rw [HVB.out.2]
  replace c0 := e2.cell c0
  replace c1 := e2.cell c1
  replace d0 := e2.cell d0
  replace d1 := e2.cell d1
  go_wp2_with fail
  refine (hD w2 ao ao' cap cap' h1 k1 h2 k2 (h3.ext ((eW.trans e1).trans e2)) (k3.ext ((eW.trans e1).trans e2))).mono ?_
  rintro e w3 ⟨u1, u2, rfl, ⟨aq, cq, rfl, m1, m2, m3⟩, ⟨ar, cr, rfl, p1, p2, p3⟩, e3⟩
  replace c0 := e3.cell c0
  replace c1 := e3.cell c1
  replace d0 := e3.cell d0
  replace d1 := e3.cell d1
  have eA := (e1.trans e2).trans e3
  have hlq := lt_of_cell q0
  have hlr := lt_of_cell r0
  replace q0 := eA.cell q0
  replace q1 := eA.cell q1
  replace r0 := eA.cell r0
  replace r1 := eA.cell r1
  replace fq0 := eA.frozen (p := ⟨w.heap.size + 2, 0, none⟩) hlq fq0
  replace fq1 := eA.frozen (p := ⟨w.heap.size + 2, 1, none⟩) hlq fq1
  replace fr0 := eA.frozen (p := ⟨w.heap.size + 3, 0, none⟩) hlr fr0
  replace fr1 := eA.frozen (p := ⟨w.heap.size + 3, 1, none⟩) hlr fr1
  replace eW := eW.trans eA
  clear hlq hlr e1 e2 e3 eA hD
  by_cases hs : s = s'
  · subst hs
    have hb : (s == s) = true := by cases s <;> rfl
    have HE : Hid (DM z1 z2 (sgn false (n / n')) (sgn s (n % n'))) := by
      unfold Hid; rw [H5.out, K5.out]; have := dm_same s s n n' HN.out (.inl rfl); rw [hb] at this; exact this
    go_wp2_with fail
    clear c1 d1 HVA HVB hbe H4 H5 H6 K4 K5 K6 h k hz2 l1 l2 hb
    have c0d : w3.drew.cell? ⟨w.heap.size, 0, none⟩ = some (.bool s) := c0
    have d0d : w3.drew.cell? ⟨w.heap.size + 1, 0, none⟩ = some (.bool s) := d0
    go_region_held3 (fun w' => w'.cell? ⟨w.heap.size, 0, none⟩ = some (.bool s) ∧ w'.cell? ⟨w.heap.size + 1, 0, none⟩ = some (.bool s))
      (first | with_reducible exact ⟨c0d, d0d⟩ | with_reducible exact ⟨c04, d04⟩ | with_reducible exact ⟨c05, d05⟩ | with_reducible exact ⟨keep_store c05 (by omega), keep_store d05 (by omega)⟩ | exact ⟨keep_store (keep_store c05 (by omega)) (by omega), keep_store (keep_store d05 (by omega)) (by omega)⟩) ((first
        | (go_at_call 96; ((with_reducible refine (signedL_calls _ _ _ _ _ m1 m2 m3.drew).mono ?_)); rintro e w4 ⟨v4, rfl, hI4, e4⟩; obtain ⟨ao4, cap4, s4, n4, rfl, _⟩ := hI4.open_; have c04 := e4.of_drew.cell c0; have d04 := e4.of_drew.cell d0)
        | (go_at_call 96; ((with_reducible refine (signedL_calls _ _ _ _ _ p1 p2 (p3.ext e4.of_drew)).mono ?_)); rintro e w5 ⟨v5, rfl, hI5, e5⟩; obtain ⟨ao5, cap5, s5, n5, rfl, _⟩ := hI5.open_; have c05 := e5.cell c04; have d05 := e5.cell d04; have eB := e4.of_drew.trans e5; have q05 := eB.cell q0; have q15 := eB.cell q1; have r05 := eB.cell r0; have r15 := eB.cell r1; have fq05 := eB.frozen (lt_of_cell q0) fq0; have fq15 := eB.frozen (lt_of_cell q1) fq1; have fr05 := eB.frozen (lt_of_cell r0) fr0; have fr15 := eB.frozen (lt_of_cell r1) fr1)))
    go_wp2
    exact bodyPost_ret (v := .tuple #[.agg #[.bool s4, .slice ao4 (limbs n4).length cap4], .agg #[.bool s5, .slice ao5 (limbs n5).length cap5], .int .i64 0]) (by simp [results, Try.results74, go_sem, q05, q15, r05, r15]) rfl (fin_dm (hI4.ext e5) hI5 HE.out q05 q15 r05 r15 (by omega) (eW.trans eB))
  · have hb : (s == s') = false := by cases s <;> cases s' <;> simp_all
    by_cases hr0 : n % n' = 0
    · have HE : Hid (DM z1 z2 (sgn (!(s == s')) (n / n')) (sgn s' (n % n'))) := by
        unfold Hid; rw [H5.out, K5.out]; exact dm_same s s' n n' HN.out (.inr hr0)
      have hl0 : (((limbs (n % n')).length : Int) != 0) = false := by rw [hr0]; rfl
      clear hr0 hs
      go_wp2_with fail
      clear c1 d1 HVA HVB hbe H4 H5 H6 K4 K5 K6 h k hz2 l1 l2 hb
      have c0d : w3.drew.cell? ⟨w.heap.size, 0, none⟩ = some (.bool s) := c0
      have d0d : w3.drew.cell? ⟨w.heap.size + 1, 0, none⟩ = some (.bool s') := d0
      go_region_held3 (fun w' => w'.cell? ⟨w.heap.size, 0, none⟩ = some (.bool s) ∧ w'.cell? ⟨w.heap.size + 1, 0, none⟩ = some (.bool s'))
        (first | with_reducible exact ⟨c0d, d0d⟩ | with_reducible exact ⟨c04, d04⟩ | with_reducible exact ⟨c05, d05⟩ | with_reducible exact ⟨keep_store c05 (by omega), keep_store d05 (by omega)⟩ | exact ⟨keep_store (keep_store c05 (by omega)) (by omega), keep_store (keep_store d05 (by omega)) (by omega)⟩) ((first
          | (go_at_call 96; ((with_reducible refine (signedL_calls _ _ _ _ _ m1 m2 m3.drew).mono ?_)); rintro e w4 ⟨v4, rfl, hI4, e4⟩; obtain ⟨ao4, cap4, s4, n4, rfl, _⟩ := hI4.open_; have c04 := e4.of_drew.cell c0; have d04 := e4.of_drew.cell d0)
          | (go_at_call 96; ((with_reducible refine (signedL_calls _ _ _ _ _ p1 p2 (p3.ext e4.of_drew)).mono ?_)); rintro e w5 ⟨v5, rfl, hI5, e5⟩; obtain ⟨ao5, cap5, s5, n5, rfl, _⟩ := hI5.open_; have c05 := e5.cell c04; have d05 := e5.cell d04; have eB := e4.of_drew.trans e5; have q05 := eB.cell q0; have q15 := eB.cell q1; have r05 := eB.cell r0; have r15 := eB.cell r1; have fq05 := eB.frozen (lt_of_cell q0) fq0; have fq15 := eB.frozen (lt_of_cell q1) fq1; have fr05 := eB.frozen (lt_of_cell r0) fr0; have fr15 := eB.frozen (lt_of_cell r1) fr1)))
      go_wp2
      exact bodyPost_ret (v := .tuple #[.agg #[.bool s4, .slice ao4 (limbs n4).length cap4], .agg #[.bool s5, .slice ao5 (limbs n5).length cap5], .int .i64 0]) (by simp [results, Try.results74, go_sem, q05, q15, r05, r15]) rfl (fin_dm (hI4.ext e5) hI5 HE.out q05 q15 r05 r15 (by omega) (eW.trans eB))
    · have HE : Hid (DM z1 z2 (sgn (!(s == s')) (n / n' + 1)) (sgn s' (n' - n % n'))) := by
        unfold Hid; rw [H5.out, K5.out]; exact dm_other s s' n n' HN.out hs hr0
      have hl0 : (((limbs (n % n')).length : Int) != 0) = true := by have := limbs_pos (n := n % n') (by omega); rw [bne_iff_ne]; omega
      have hrl : n % n' ≤ n' := Nat.le_of_lt (Nat.mod_lt _ HN.out)
      have hql : (limbs (n / n')).length ≤ 1048576 := Nat.le_trans (limbs_len_mono (Nat.div_le_self _ _)) l1
      have HRL := Lib.hid (And.intro hrl hql)
      have hadd := addLimbs_calls (w3.alloc (.cells #[.int .u32 1] 67)) aq (some ⟨w3.heap.size, 0, none⟩) (limbs (n / n')) [1] cq 1 (by omega) (by simp) (m3.ext ((Ext.refl w3).alloc _)) (Blk.new w3 [1]).cells (dig_limbs _) (Dig.cons (by omega) Dig.nil)
      rw [val_limbs, show val [1] = 1 from rfl] at hadd
      have HA := Lib.hid hadd
      clear hr0 hs hrl hql hadd
      go_wp2_with fail
      refine HA.out.mono ?_
      rintro e w6 ⟨u6, rfl, ⟨a6, c6, rfl, x1, x2, x3⟩, e6⟩
      replace e6 := ((Ext.refl w3).alloc _).trans e6
      replace c0 := e6.cell c0
      replace c1 := e6.cell c1
      replace d0 := e6.cell d0
      replace d1 := e6.cell d1
      replace fq0 := e6.frozen (lt_of_cell q0) fq0
      replace fq1 := e6.frozen (lt_of_cell q1) fq1
      replace fr0 := e6.frozen (lt_of_cell r0) fr0
      replace fr1 := e6.frozen (lt_of_cell r1) fr1
      replace q0 := e6.cell q0
      replace q1 := e6.cell q1
      replace r0 := e6.cell r0
      replace r1 := e6.cell r1
      replace eW := eW.trans e6
      replace p3 := p3.ext e6
      have hsub := Lib.hid (subtractLimbs_calls w6 ao' ar n' (n % n') cap' cr (by omega) HRL.out.1 k1 (k3.ext eW) p3)
      clear HA HRL e6
      go_wp2_with fail
      refine hsub.out.mono ?_
      rintro e w7 ⟨u7, rfl, ⟨a7, c7, rfl, y1, y2, y3⟩, e7⟩
      replace c0 := e7.cell c0
      replace c1 := e7.cell c1
      replace d0 := e7.cell d0
      replace d1 := e7.cell d1
      replace fq0 := e7.frozen (lt_of_cell q0) fq0
      replace fq1 := e7.frozen (lt_of_cell q1) fq1
      replace fr0 := e7.frozen (lt_of_cell r0) fr0
      replace fr1 := e7.frozen (lt_of_cell r1) fr1
      replace q0 := e7.cell q0
      replace q1 := e7.cell q1
      replace r0 := e7.cell r0
      replace r1 := e7.cell r1
      replace eW := eW.trans e7
      replace x3 := x3.ext e7
      clear e7 hsub
      go_wp2_with fail
      clear c1 d1 HVA HVB hbe H4 H5 H6 K4 K5 K6 h k hz2 l1 l2 hb
      have c0d : w7.drew.cell? ⟨w.heap.size, 0, none⟩ = some (.bool s) := c0
      have d0d : w7.drew.cell? ⟨w.heap.size + 1, 0, none⟩ = some (.bool s') := d0
      go_region_held3 (fun w' => w'.cell? ⟨w.heap.size, 0, none⟩ = some (.bool s) ∧ w'.cell? ⟨w.heap.size + 1, 0, none⟩ = some (.bool s'))
        (first | with_reducible exact ⟨c0d, d0d⟩ | with_reducible exact ⟨c04, d04⟩ | with_reducible exact ⟨c05, d05⟩ | with_reducible exact ⟨keep_store c05 (by omega), keep_store d05 (by omega)⟩ | exact ⟨keep_store (keep_store c05 (by omega)) (by omega), keep_store (keep_store d05 (by omega)) (by omega)⟩) ((first
          | (go_at_call 96; ((with_reducible refine (signedL_calls _ _ _ _ _ x1 x2 x3.drew).mono ?_)); rintro e w4 ⟨v4, rfl, hI4, e4⟩; obtain ⟨ao4, cap4, s4, n4, rfl, _⟩ := hI4.open_; have c04 := e4.of_drew.cell c0; have d04 := e4.of_drew.cell d0)
          | (go_at_call 96; ((with_reducible refine (signedL_calls _ _ _ _ _ y1 y2 (y3.ext e4.of_drew)).mono ?_)); rintro e w5 ⟨v5, rfl, hI5, e5⟩; obtain ⟨ao5, cap5, s5, n5, rfl, _⟩ := hI5.open_; have c05 := e5.cell c04; have d05 := e5.cell d04; have eB := e4.of_drew.trans e5; have q05 := eB.cell q0; have q15 := eB.cell q1; have r05 := eB.cell r0; have r15 := eB.cell r1; have fq05 := eB.frozen (lt_of_cell q0) fq0; have fq15 := eB.frozen (lt_of_cell q1) fq1; have fr05 := eB.frozen (lt_of_cell r0) fr0; have fr15 := eB.frozen (lt_of_cell r1) fr1)))
      go_wp2
      exact bodyPost_ret (v := .tuple #[.agg #[.bool s4, .slice ao4 (limbs n4).length cap4], .agg #[.bool s5, .slice ao5 (limbs n5).length cap5], .int .i64 0]) (by simp [results, Try.results74, go_sem, q05, q15, r05, r15]) rfl (fin_dm (hI4.ext e5) hI5 HE.out q05 q15 r05 r15 (by omega) (eW.trans eB))

end Go.Proofs.Ytdleiiboffkidaa
end

/- ---- Short ---- -/
section
/-
  The division of a list of limbs by one limb.
-/
set_option maxRecDepth 100000
namespace Go.Proofs.Ytdleiiboffkidaa
open Go.RowKit

/-- What the loop of divideShort keeps: what has been divided so far, its quotient and its rest. -/
def ShortRel (w : World) (g : Nat) (xs : List Nat) (y k rr : Nat) (qs : List Nat) (wr : World) : Prop :=
  qs.length = xs.length ∧ Dig qs ∧ Blk wr g qs ∧ Ext w wr ∧ val (xs.drop k) = y * val (qs.drop k) + rr ∧ rr < y
theorem ShortRel.step {w : World} {g : Nat} {xs : List Nat} {y k rr : Nat} {qs : List Nat} {wr : World} (h : ShortRel w g xs y (k + 1) rr qs wr) (hg : w.heap.size ≤ g) (hk : k < xs.length) (dx : Dig xs)
    (cur q r : Nat) (hc : cur = rr * 1000000000 + xs.getD k 0) (hq : q = cur / y) (hr : r = cur % y) {V : Int} (hV : V = q) :
    ShortRel w g xs y k r (qs.set k q) (wr.setCell ⟨g, k, none⟩ (.int .u32 V)) ∧ q < 1000000000 ∧ r < y := by
  obtain ⟨h1, h2, h3, h4, h5, h6⟩ := h
  have hx := dx k
  have hlt : cur < y * 1000000000 := by omega
  have hq1 : q < 1000000000 := by rw [hq]; exact Nat.div_lt_of_lt_mul hlt
  have hr1 : r < y := by rw [hr]; exact Nat.mod_lt _ (by omega)
  refine ⟨⟨by simpa using h1, h2.set k hq1, h3.set' k q (by omega) hV, h4.setCell (p := ⟨g, k, none⟩) hg _, ?_, hr1⟩, hq1, hr1⟩
  have e1 := val_drop xs k hk
  have e2 := val_drop (qs.set k q) k (by simpa [h1] using hk)
  have e3 : (qs.set k q).getD k 0 = q := by simp [List.getD_eq_getElem?_getD, h1, hk]
  have e4 : (qs.set k q).drop (k + 1) = qs.drop (k + 1) := by rw [List.drop_set_of_lt (by omega)]
  have e5 := Nat.div_add_mod cur y
  rw [← hq, ← hr] at e5
  rw [e3, e4] at e2
  rw [e1, e2, h5]
  generalize val (qs.drop (k + 1)) = D
  generalize xs.getD k 0 = x at *
  have e6 : y * (q + 1000000000 * D) = 1000000000 * (y * D) + y * q := by rw [Nat.mul_add, Nat.mul_left_comm]; omega
  omega

set_option maxRecDepth 100000 in
set_option maxHeartbeats 800000 in
theorem divideShort_calls (w : World) (ax : Option Addr) (xs : List Nat) (cx y : Nat) (lx : xs.length ≤ 1048576) (l0 : 0 < xs.length) (hx : Cells w ax xs) (dx : Dig xs) (hy0 : 0 < y) (hy : y < 1000000000) :
    Calls Try.prog 103 #[.slice ax xs.length cx, .int .u32 (y : Int)] w
      (Ret2 (IsLimbs (val xs / y)) (fun v _ => v = .int .u32 ((val xs % y : Nat) : Int)) w) := by
  have hmk := run_mk xs.length (by omega) ↑xs.length (by omega)
  go_enter Try.func103, Try.ntmps103
  go_wp2
  clear hmk
  have h0 : ShortRel w w.heap.size xs y xs.length 0 (List.replicate xs.length 0) (w.alloc (.cells (u32s (List.replicate xs.length 0)) 67)) :=
    ⟨by simp, Dig.replicate _, Blk.new _ _, (Ext.refl w).alloc _, by rw [val_drop_len]; simp [val], hy0⟩
  go_loopw [7, 8] (fun r i wr => ∃ (k rr : Nat) (qs : List Nat), k ≤ xs.length ∧ i = .int .i64 ((k : Int) - 1) ∧ r = .int .u64 rr ∧ ShortRel w w.heap.size xs y k rr qs wr) (fun _ i _ => (intOf i + 1).toNat)
  case atStart => exact ⟨xs.length, 0, _, Nat.le_refl _, by go_num, rfl, h0⟩
  case round =>
    obtain ⟨k, rr, qs, hk, rfl, rfl, hR⟩ := hrel
    clear h0
    rcases k with _ | k
    · obtain ⟨h1, h2, h3, h4, h5, h6⟩ := hR
      have HD := Lib.hid ((Nat.div_mod_unique (a := val xs) (d := val qs) (c := rr) hy0).2 ⟨by rw [List.drop_zero, List.drop_zero] at h5; omega, h6⟩)
      have br : (rr : Int) < 1000000000 := by omega
      have H1 := Lib.hid h1
      have T := Lib.hid (trim_calls wr (some ⟨w.heap.size, 0, none⟩) qs qs.length (Nat.le_refl _) (by omega) h3.cells h2)
      clear h5 h6 h1
      go_wp2_with fail
      rw [← H1.out]
      refine T.out.mono ?_
      rintro e w' ⟨rfl, rfl⟩
      go_wp2
      go_ret2
      exact ⟨_, _, rfl, by rw [HD.out.1]; exact ⟨_, _, rfl, by rw [← trimN_length h2]; exact trimN_le _ _, by rw [H1.out]; omega, h3.cells.trim h2⟩, by rw [HD.out.2]; rfl, h4⟩
    · have hk2 : k < xs.length := by omega
      have hzc := hR.2.2.1.cell k (by have := hR.1; omega)
      have hzf := hR.2.2.1.frozen k
      obtain ⟨b, off, rfl, hx1⟩ := hx.at_ (by omega)
      have hcx := hR.2.2.2.1.cell (hx1 k hk2)
      have bx0 := dx k
      have br0 := hR.2.2.2.2.2
      have hst := fun cur q r hc hq hr V hV => hR.step (Nat.le_refl _) hk2 dx cur q r hc hq hr (V := V) hV
      generalize xs.getD k 0 = x at *
      have bx : (x : Int) < 1000000000 := by omega
      have br : (rr : Int) < 1000000000 := by omega
      obtain ⟨cur, hc⟩ : ∃ cur, cur = rr * 1000000000 + x := ⟨_, rfl⟩
      obtain ⟨q, hq⟩ : ∃ q, q = cur / y := ⟨_, rfl⟩
      obtain ⟨r, hr⟩ : ∃ r, r = cur % y := ⟨_, rfl⟩
      have HST := Lib.hid (hst cur q r hc hq hr q rfl)
      have hcI : (rr : Int) * 1000000000 + (x : Int) = (cur : Int) := by omega
      have f0 := wrap_quo cur y q (by omega) hq
      obtain ⟨f1, f2⟩ := rem_nat cur y r hr
      have f3 : ¬ y = 0 := by omega
      have f4 : (q : Int) < 1000000000 := by have := HST.out.2.1; omega
      have ek : ((k + 1 : Nat) : Int) - 1 = (k : Int) := by omega
      rw [ek]
      clear hst hx1 bx0 br0 hc hq hr ek
      go_wp2
      go_roundw
      case rel => exact ⟨k, r, _, by omega, by go_num, by go_num, HST.out.1⟩
      case measure => simp [intOf]

set_option maxRecDepth 100000 in
set_option maxHeartbeats 800000 in
theorem divOK_short (m n : Nat) (lx : (limbs m).length ≤ 1048576) (h : 2 < (limbs m).length) (hn : (limbs n).length = 1) : DivOK m n := by
  intro w ax ay cx cy kx ky bx by_ hx hy
  obtain ⟨b, off, rfl, hy1⟩ := hy.at_ (by omega)
  have hc := hy1 0 (by omega)
  rw [Nat.add_zero] at hc
  have hd := dig_limbs n 0
  have hv : (limbs n).getD 0 0 = n := by
    have h1 := val_limbs n
    have h2 := val_drop (limbs n) 0 (by omega)
    rw [List.drop_zero, h1, List.drop_of_length_le (by omega)] at h2
    simp only [val] at h2
    omega
  have hn0 : 0 < n := by
    rcases Nat.eq_zero_or_pos n with h0 | h0
    · subst h0; rw [limbs_zero] at hn; simp at hn
    · exact h0
  rw [hv] at hc hd
  have hcall := divideShort_calls w ax (limbs m) cx n lx (by omega) hx (dig_limbs m) hn0 hd
  rw [val_limbs] at hcall
  have HS := Lib.hid hcall
  have HB := Lib.hid (show n < 1000000000 from hd)
  have HN := Lib.hid hn0
  have l1 : decide (((limbs m).length : Int) ≤ 2) = false := decide_eq_false (by omega)
  have l2 : (1 : Int) ≤ ((limbs m).length : Int) := by omega
  clear hcall hv hy1 hd hn0 h
  rw [hn]
  clear hn
  go_enter Try.func93, Try.ntmps93
  go_wp2_with fail
  refine HS.out.mono ?_
  rintro e w1 ⟨v1, v2, rfl, hv1, rfl, e1⟩
  have hr : m % n < 1000000000 := Nat.lt_trans (Nat.mod_lt m HN.out) HB.out
  generalize m % n = r at *
  have hrI : (r : Int) < 1000000000 := by omega
  have HR := Lib.hid hr
  clear hr
  go_wp2_with fail
  refine (limbsOf_calls w1 r (by have := HR.out; omega)).mono ?_
  rintro e w2 ⟨v2, rfl, hv2, e2⟩
  go_wp2
  go_ret2
  exact ⟨_, _, rfl, hv1.ext e2, hv2, e1.trans e2⟩

end Go.Proofs.Ytdleiiboffkidaa
end

/- ---- Subm ---- -/
section
/-
  The subtraction of a multiple in place, of the long division.
-/
set_option maxRecDepth 100000
namespace Go.Proofs.Ytdleiiboffkidaa
open Go.RowKit

/-- The block g has changed, and nothing else that is a list of limbs. -/
def Only (g : Nat) (w w' : World) : Prop := ∀ h zs, h ≠ g → Blk w h zs → Blk w' h zs
theorem Only.refl (g : Nat) (w : World) : Only g w w := fun _ _ _ h => h
theorem Only.set {g : Nat} {w w' : World} (h : Only g w w') (i : Nat) (u : Value) : Only g w (w'.setCell ⟨g, i, none⟩ u) := fun k zs hk hb => (h k zs hk hb).far (p := ⟨g, i, none⟩) hk u
theorem drop_set_add (zs : List Nat) (j k d : Nat) : (zs.set (j + k) d).drop j = (zs.drop j).set k d := by
  rw [List.drop_set]
  rw [if_neg (by omega), Nat.add_sub_cancel_left]
theorem getD_drop (zs : List Nat) (j k : Nat) : (zs.drop j).getD k 0 = zs.getD (j + k) 0 := by
  simp [List.getD_eq_getElem?_getD]
/-- What the loop of subtractMultiple keeps. -/
def MS (w0 w : World) (g : Nat) (rs : List Nat) (j : Nat) (ys : List Nat) (q k c : Nat) (zs : List Nat) (wr : World) : Prop :=
  zs.length = rs.length ∧ Dig zs ∧ Blk wr g zs ∧ Ext w0 wr ∧ Only g w wr ∧ (∀ i, i < j ∨ j + k ≤ i → zs.getD i 0 = rs.getD i 0) ∧
    val ((zs.drop j).take k) + q * val (ys.take k) = val ((rs.drop j).take k) + 1000000000 ^ k * c ∧ c ≤ q
section
variable {w0 w : World} {g : Nat} {rs : List Nat} {j : Nat} {ys : List Nat} {q k c : Nat} {zs : List Nat} {wr : World}
theorem MS.step (h : MS w0 w g rs j ys q k c zs wr) (hg : w0.heap.size ≤ g) (hk : j + k < rs.length) (d c' : Nat) (hd : d < 1000000000)
    (he : d + (q * ys.getD k 0 + c) = rs.getD (j + k) 0 + 1000000000 * c') (hc : c' ≤ q) {V : Int} (hV : V = d) :
    MS w0 w g rs j ys q (k + 1) c' (zs.set (j + k) d) (wr.setCell ⟨g, j + k, none⟩ (.int .u32 V)) := by
  obtain ⟨h1, h2, h3, h4, h5, h6, h7, h8⟩ := h
  refine ⟨by simpa using h1, h2.set _ hd, h3.set' _ d (by omega) hV, h4.setCell (p := ⟨g, j + k, none⟩) hg _, h5.set _ _, ?_, ?_, hc⟩
  · intro i hi
    rw [getD_set_other _ _ _ _ (by omega)]
    exact h6 i (by omega)
  · rw [drop_set_add, val_take_set _ _ _ (by rw [List.length_drop]; omega), val_take_succ', val_take_succ' (rs.drop j), getD_drop, Nat.pow_succ]
    generalize 1000000000 ^ k = p at *
    generalize ys.getD k 0 = y at *
    generalize rs.getD (j + k) 0 = r at *
    generalize val (List.take k (List.drop j zs)) = A at *
    generalize val (List.take k (List.drop j rs)) = R at *
    generalize val (List.take k ys) = Y at *
    have e : p * (d + (q * y + c)) = p * (r + 1000000000 * c') := by rw [he]
    rw [Nat.mul_add, Nat.mul_add, Nat.mul_add, ← Nat.mul_assoc p 1000000000] at e
    have e2 : q * (Y + p * y) = q * Y + p * (q * y) := by rw [Nat.mul_add, Nat.mul_left_comm]
    rw [e2]
    omega
theorem MS.step2 (h : MS w0 w g rs j ys q k c zs wr) (hg : w0.heap.size ≤ g) (hk : j + k < rs.length) (d c' u : Nat) (hd : d < 1000000000)
    (he : d + (q * ys.getD k 0 + c) = rs.getD (j + k) 0 + 1000000000 * c') (hc : c' ≤ q) {U V : Int} (hU : U = u) (hV : V = d) :
    MS w0 w g rs j ys q (k + 1) c' (zs.set (j + k) d) ((wr.setCell ⟨g, j + k, none⟩ (.int .u32 U)).setCell ⟨g, j + k, none⟩ (.int .u32 V)) := by
  have hs := h.step hg hk d c' hd he hc hV
  obtain ⟨h1, h2, h3, h4, h5, h6, h7, h8⟩ := h
  have hb := (h3.set' (j + k) u (by omega) hU).set' (j + k) d (by simp; omega) hV
  rw [List.set_set] at hb
  exact ⟨hs.1, hs.2.1, hb, (h4.setCell (p := ⟨g, j + k, none⟩) hg _).setCell (p := ⟨g, j + k, none⟩) hg _, (h5.set _ _).set _ _, hs.2.2.2.2.2⟩
theorem ms_carry (x : Nat) (hq : q ≤ 1000000000) (hx : x < 1000000000) (hc : c ≤ q) (P : Nat) (hP : P = q * x + c) :
    P ≤ 1000000000 * q ∧ P ≤ 1000000000000000000 ∧ P / 1000000000 ≤ q ∧ (0 < P % 1000000000 → P / 1000000000 + 1 ≤ q) := by
  have h1 : q * x ≤ q * 999999999 := Nat.mul_le_mul_left _ (by omega)
  omega
end

/-- What subtractMultiple leaves: the low limbs of the part, and whether the top limb lacks. -/
def SubmPost (w0 w : World) (g : Nat) (rs : List Nat) (j : Nat) (ys : List Nat) (q : Nat) (e : Ending) (w' : World) : Prop :=
  ∃ (c : Nat) (zs : List Nat), e = .returned (.bool (decide (rs.getD (j + ys.length) 0 < c))) ∧ MS w0 w g rs j ys q ys.length c zs w'

set_option maxRecDepth 100000 in
set_option maxHeartbeats 1600000 in
theorem subtractMultiple_calls (w0 w : World) (g : Nat) (rs : List Nat) (j : Nat) (ay : Option Addr) (ys : List Nat) (cp cy q : Nat) (hg : w0.heap.size ≤ g) (hb : Blk w g rs) (dr : Dig rs) (hE : Ext w0 w)
    (hy : Cells w0 ay ys) (dy : Dig ys) (hj : j + ys.length + 1 ≤ rs.length) (lr : rs.length ≤ 1099511627776) (hq : q ≤ 1000000000) :
    Calls Try.prog 107 #[.slice (some ⟨g, j, none⟩) (ys.length + 1) cp, .slice ay ys.length cy, .int .u64 (q : Int)] w (SubmPost w0 w g rs j ys q) := by
  have h0 : MS w0 w g rs j ys q 0 0 rs w := ⟨rfl, dr, hb, hE, Only.refl _ _, fun _ _ => rfl, by simp [val], Nat.zero_le _⟩
  go_enter Try.func107, Try.ntmps107
  go_wp2
  go_loopw [7, 8, 9, 10, 11, 14] (fun c _ _ _ _ n wr => ∃ (k cv : Nat) (zs : List Nat), k ≤ ys.length ∧ n = .int .i64 k ∧ c = .int .u64 cv ∧ MS w0 w g rs j ys q k cv zs wr) (fun _ _ _ _ _ n _ => ys.length - (intOf n).toNat)
  case atStart => exact ⟨0, 0, _, Nat.zero_le _, rfl, rfl, h0⟩
  case round =>
    obtain ⟨k, cv, zs, hk, rfl, rfl, hR⟩ := hrel
    clear h0
    by_cases hk2 : k < ys.length
    · have hzc := hR.2.2.1.cell (j + k) (by have := hR.1; omega)
      rw [hR.2.2.2.2.2.1 (j + k) (by omega)] at hzc
      have hzf := hR.2.2.1.frozen (j + k)
      obtain ⟨b1, o1, rfl, hx1⟩ := hy.at_ (by omega)
      have hcx := hR.2.2.2.1.cell (hx1 k hk2)
      have bx0 := dy k
      have bp0 := dr (j + k)
      have hst := fun d c' hd he hc V hV => hR.step hg (by omega) d c' hd he hc (V := V) hV
      have hst2 := fun d c' u hd he hc U V hU hV => hR.step2 hg (by omega) d c' u hd he hc (U := U) (V := V) hU hV
      obtain ⟨P, hP⟩ : ∃ P, P = q * ys.getD k 0 + cv := ⟨_, rfl⟩
      obtain ⟨m1, m2, m3, m4⟩ := ms_carry (ys.getD k 0) hq bx0 hR.2.2.2.2.2.2.2 P hP
      rw [← hP] at hst hst2
      generalize rs.getD (j + k) 0 = p at *
      generalize ys.getD k 0 = x at *
      obtain ⟨M, hM⟩ : ∃ M, M = q * x := ⟨_, rfl⟩
      have hMI : (q : Int) * (x : Int) = (M : Int) := by rw [hM]; simp
      rw [← hM] at hP
      have hPI : (M : Int) + (cv : Int) = (P : Int) := by omega
      have hMw : (M : Int) ≤ 1000000000000000000 := by omega
      have hPw : (P : Int) ≤ 2000000000000000000 := by omega
      obtain ⟨l, hl⟩ : ∃ l, l = P % 1000000000 := ⟨_, rfl⟩
      obtain ⟨c1, hc1⟩ : ∃ c1, c1 = P / 1000000000 := ⟨_, rfl⟩
      have hlI : (P : Int) % 1000000000 = (l : Int) := by omega
      have hlT : (P : Int).tmod 1000000000 = (l : Int) := by rw [Int.tmod_eq_emod_of_nonneg (by omega)]; omega
      have hcI : (P : Int) / 1000000000 = (c1 : Int) := by omega
      have hcT : (P : Int).tdiv 1000000000 = (c1 : Int) := by rw [Int.tdiv_eq_ediv_of_nonneg (by omega)]; omega
      have hlw : (l : Int) < 1000000000 := by omega
      have hcw : (c1 : Int) ≤ 2000000000 := by omega
      have HP := Lib.hid (show P = c1 * 1000000000 + l by omega)
      rw [← hl, ← hc1] at m4
      rw [← hc1] at m3
      have HM := Lib.hid (And.intro m3 m4)
      have HQ := Lib.hid hq
      have bp : (p : Int) < 1000000000 := by omega
      have bx : (x : Int) < 1000000000 := by omega
      have HST := Lib.hid hst
      have HST2 := Lib.hid hst2
      clear hst hst2 hx1 bx0 hP m1 m2 m3 m4 hM hq bp0 hl hc1
      go_upto_region 8 with fail
      have kn : (k : Int) < (ys.length : Int) + 1 := by omega
      have kn2 : (k : Int) ≤ (ys.length : Int) := by omega
      clear hPI hMI hMw hPw hlI hlT hcI
      by_cases hlt : p < l
      · have hltI : (p : Int) < (l : Int) := by omega
        clear hlt
        go_wp2
        go_roundw
        case rel => exact ⟨k + 1, c1 + 1, _, by omega, by go_num, by go_num, HST2.out (p + 1000000000 - l) (c1 + 1) (p + 1000000000) (by omega) (by have := HP.out; omega) (HM.out.2 (by omega)) _ _ (by omega) (by omega)⟩
        case measure => simp [intOf]; omega
      · obtain ⟨d, hd⟩ : ∃ d, d = p - l := ⟨_, rfl⟩
        have hdI : (p : Int) - (l : Int) = (d : Int) := by omega
        have hltI : (l : Int) ≤ (p : Int) := by omega
        have hdw : (d : Int) < 1000000000 := by omega
        have HD := Lib.hid (show p = d + l by omega)
        clear hlt hd hlw bp
        generalize hpi : (p : Int) = pi at hzc hdI hltI ⊢
        generalize hli : (l : Int) = li at hdI hltI ⊢
        have HPI := Lib.hid hpi
        have HLI := Lib.hid hli
        have hlb : ¬ pi < li := by omega
        have HDI := Lib.hid hdI
        clear hpi hli hltI hdI
        go_upto_region 11 with fail
        have hdI := HDI.out
        clear hlb
        go_wp2
        go_roundw
        case rel => exact ⟨k + 1, c1, _, by omega, by go_num, by go_num, HST.out d c1 (by omega) (by have := HP.out; have := HD.out; omega) HM.out.1 _ (by omega)⟩
        case measure => simp [intOf]; omega
    · obtain rfl : k = ys.length := by omega
      have hzc := hR.2.2.1.cell (j + ys.length) (by have := hR.1; omega)
      rw [hR.2.2.2.2.2.1 (j + ys.length) (by omega)] at hzc
      obtain ⟨t, ht⟩ : ∃ t, t = rs.getD (j + ys.length) 0 := ⟨_, rfl⟩
      have bt := dr (j + ys.length)
      rw [← ht] at hzc bt
      have btI : (t : Int) < 1000000000 := by omega
      have HT := Lib.hid ht
      clear ht bt
      go_wp2
      go_ret
      exact ⟨cv, zs, by rw [← HT.out]; simp, hR⟩

end Go.Proofs.Ytdleiiboffkidaa
end

/- ---- Addb ---- -/
section
/-
  The addition in place, of the long division.
-/
set_option maxRecDepth 100000
namespace Go.Proofs.Ytdleiiboffkidaa
open Go.RowKit

/-- What the loop of addBack keeps. -/
def AB (w0 w : World) (g : Nat) (rs : List Nat) (j : Nat) (ys : List Nat) (k c : Nat) (zs : List Nat) (wr : World) : Prop :=
  zs.length = rs.length ∧ Dig zs ∧ Blk wr g zs ∧ Ext w0 wr ∧ Only g w wr ∧ (∀ i, i < j ∨ j + k ≤ i → zs.getD i 0 = rs.getD i 0) ∧
    val ((zs.drop j).take k) + 1000000000 ^ k * c = val ((rs.drop j).take k) + val (ys.take k) ∧ c ≤ 1
section
variable {w0 w : World} {g : Nat} {rs : List Nat} {j : Nat} {ys : List Nat} {k c : Nat} {zs : List Nat} {wr : World}
theorem AB.step (h : AB w0 w g rs j ys k c zs wr) (hg : w0.heap.size ≤ g) (hk : j + k < rs.length) (d c' : Nat) (hd : d < 1000000000)
    (he : d + 1000000000 * c' = rs.getD (j + k) 0 + (ys.getD k 0 + c)) (hc : c' ≤ 1) {V : Int} (hV : V = d) :
    AB w0 w g rs j ys (k + 1) c' (zs.set (j + k) d) (wr.setCell ⟨g, j + k, none⟩ (.int .u32 V)) := by
  obtain ⟨h1, h2, h3, h4, h5, h6, h7, h8⟩ := h
  refine ⟨by simpa using h1, h2.set _ hd, h3.set' _ d (by omega) hV, h4.setCell (p := ⟨g, j + k, none⟩) hg _, h5.set _ _, ?_, ?_, hc⟩
  · intro i hi
    rw [getD_set_other _ _ _ _ (by omega)]
    exact h6 i (by omega)
  · rw [drop_set_add, val_take_set _ _ _ (by rw [List.length_drop]; omega), val_take_succ' (rs.drop j), val_take_succ' ys, getD_drop, Nat.pow_succ]
    generalize 1000000000 ^ k = p at *
    generalize ys.getD k 0 = y at *
    generalize rs.getD (j + k) 0 = r at *
    generalize val (List.take k (List.drop j zs)) = A at *
    generalize val (List.take k (List.drop j rs)) = R at *
    generalize val (List.take k ys) = Y at *
    have e : p * (d + 1000000000 * c') = p * (r + (y + c)) := by rw [he]
    rw [Nat.mul_add, Nat.mul_add, Nat.mul_add, ← Nat.mul_assoc p 1000000000] at e
    omega
theorem AB.step2 (h : AB w0 w g rs j ys k c zs wr) (hg : w0.heap.size ≤ g) (hk : j + k < rs.length) (d c' u : Nat) (hd : d < 1000000000)
    (he : d + 1000000000 * c' = rs.getD (j + k) 0 + (ys.getD k 0 + c)) (hc : c' ≤ 1) {U V : Int} (hU : U = u) (hV : V = d) :
    AB w0 w g rs j ys (k + 1) c' (zs.set (j + k) d) ((wr.setCell ⟨g, j + k, none⟩ (.int .u32 U)).setCell ⟨g, j + k, none⟩ (.int .u32 V)) := by
  have hs := h.step hg hk d c' hd he hc hV
  obtain ⟨h1, h2, h3, h4, h5, h6, h7, h8⟩ := h
  have hb := (h3.set' (j + k) u (by omega) hU).set' (j + k) d (by simp; omega) hV
  rw [List.set_set] at hb
  exact ⟨hs.1, hs.2.1, hb, (h4.setCell (p := ⟨g, j + k, none⟩) hg _).setCell (p := ⟨g, j + k, none⟩) hg _, (h5.set _ _).set _ _, hs.2.2.2.2.2⟩
end

/-- What addBack leaves. -/
def AddbPost (w0 w : World) (g : Nat) (rs : List Nat) (j : Nat) (ys : List Nat) (e : Ending) (w' : World) : Prop :=
  ∃ (c : Nat) (zs : List Nat), e = .returned (.tuple #[]) ∧ AB w0 w g rs j ys ys.length c zs w'

set_option maxRecDepth 100000 in
set_option maxHeartbeats 1600000 in
theorem addBack_calls (w0 w : World) (g : Nat) (rs : List Nat) (j : Nat) (ay : Option Addr) (ys : List Nat) (cp cy : Nat) (hg : w0.heap.size ≤ g) (hb : Blk w g rs) (dr : Dig rs) (hE : Ext w0 w)
    (hy : Cells w0 ay ys) (dy : Dig ys) (hj : j + ys.length + 1 ≤ rs.length) (lr : rs.length ≤ 1099511627776) :
    Calls Try.prog 108 #[.slice (some ⟨g, j, none⟩) (ys.length + 1) cp, .slice ay ys.length cy] w (AddbPost w0 w g rs j ys) := by
  have h0 : AB w0 w g rs j ys 0 0 rs w := ⟨rfl, dr, hb, hE, Only.refl _ _, fun _ _ => rfl, by simp [val], Nat.zero_le _⟩
  go_enter Try.func108, Try.ntmps108
  go_wp2
  go_loopw [4, 5, 6, 9] (fun c _ _ n wr => ∃ (k cv : Nat) (zs : List Nat), k ≤ ys.length ∧ n = .int .i64 k ∧ c = .int .u32 cv ∧ AB w0 w g rs j ys k cv zs wr) (fun _ _ _ n _ => ys.length - (intOf n).toNat)
  case atStart => exact ⟨0, 0, _, Nat.zero_le _, rfl, rfl, h0⟩
  case round =>
    obtain ⟨k, cv, zs, hk, rfl, rfl, hR⟩ := hrel
    clear h0
    by_cases hk2 : k < ys.length
    · have hzc := hR.2.2.1.cell (j + k) (by have := hR.1; omega)
      rw [hR.2.2.2.2.2.1 (j + k) (by omega)] at hzc
      have hzf := hR.2.2.1.frozen (j + k)
      obtain ⟨b1, o1, rfl, hx1⟩ := hy.at_ (by omega)
      have hcx := hR.2.2.2.1.cell (hx1 k hk2)
      have bx0 := dy k
      have bp0 := dr (j + k)
      have bc0 := hR.2.2.2.2.2.2.2
      have hst := fun d c' hd he hc V hV => hR.step hg (by omega) d c' hd he hc (V := V) hV
      have hst2 := fun d c' u hd he hc U V hU hV => hR.step2 hg (by omega) d c' u hd he hc (U := U) (V := V) hU hV
      generalize rs.getD (j + k) 0 = p at *
      generalize ys.getD k 0 = x at *
      obtain ⟨M, hM⟩ : ∃ M, M = x + cv := ⟨_, rfl⟩
      obtain ⟨S, hS⟩ : ∃ S, S = p + M := ⟨_, rfl⟩
      have hMI : (x : Int) + (cv : Int) = (M : Int) := by omega
      have hSI : (p : Int) + (M : Int) = (S : Int) := by omega
      have hMw : (M : Int) ≤ 1000000000 := by omega
      have hSw : (S : Int) ≤ 2000000000 := by omega
      have HP := Lib.hid (show S = p + (x + cv) by omega)
      have HB := Lib.hid (show S ≤ 1999999999 by omega)
      have HST := Lib.hid hst
      have HST2 := Lib.hid hst2
      have kn : (k : Int) < (ys.length : Int) + 1 := by omega
      have kn2 : (k : Int) ≤ (ys.length : Int) := by omega
      clear hst hst2 hx1 bx0 bp0 bc0 hM hS
      by_cases hlt : 1000000000 ≤ S
      · have HL := Lib.hid hlt
        have hge : (1000000000 : Int) ≤ (S : Int) := by omega
        clear hlt
        go_wp2
        go_roundw
        case rel => exact ⟨k + 1, 1, _, by omega, by go_num, by go_num, HST2.out (S - 1000000000) 1 S (by have := HB.out; omega) (by have := HP.out; have := HL.out; omega) (by omega) _ _ (by omega) (by have := HL.out; omega)⟩
        case measure => simp [intOf]; omega
      · have HL := Lib.hid hlt
        have hge : ¬ (1000000000 : Int) ≤ (S : Int) := by omega
        clear hlt
        go_wp2
        go_roundw
        case rel => exact ⟨k + 1, 0, _, by omega, by go_num, by go_num, HST.out S 0 (by have := HL.out; omega) (by have := HP.out; omega) (by omega) _ (by omega)⟩
        case measure => simp [intOf]; omega
    · obtain rfl : k = ys.length := by omega
      go_wp2
      go_end0
      exact ⟨cv, zs, rfl, hR⟩

end Go.Proofs.Ytdleiiboffkidaa
end

/- ---- Divz ---- -/
section
/-
  DivMod where the divisor is 0.
-/
set_option maxRecDepth 100000
namespace Go.Proofs.Ytdleiiboffkidaa
open Go.RowKit

/-- Two zeros, and an error. -/
def Ret00 (k : Int) (w : World) (e : Ending) (w' : World) : Prop :=
  ∃ v1 v2, e = .returned (.tuple #[v1, v2, .int .i64 k]) ∧ IsInt w' v1 0 ∧ IsInt w' v2 0 ∧ Ext w w'

set_option maxRecDepth 100000 in
set_option maxHeartbeats 800000 in
theorem divMod_zero (w : World) (v1 v2 : Value) (z1 : Int) (h : IsInt w v1 z1) (k : IsInt w v2 0) :
    Calls Try.prog 74 #[v1, v2] w (Ret00 6 w) := by
  obtain ⟨ao, cap, s, n, rfl, h1, h2, h3, H4, H5, H6⟩ := h.open_
  obtain ⟨ao', cap', s', n', rfl, k1, k2, k3, K4, K5, K6⟩ := k.open_
  obtain ⟨W, hW, eW, c0, c1, d0, d1, ⟨q0, q1, fq0, fq1⟩, r0, r1, fr0, fr1⟩ := boxes2rr w (.bool s) (.slice ao (limbs n).length cap) (.bool s') (.slice ao' (limbs n').length cap') 24
  have hn : n' = 0 := by have := K4.out; simpa using this
  have hl : (limbs n').length = 0 := by rw [hn]; rfl
  rw [hl] at hW d1
  rw [hl]
  clear hl h1 h2 h3 k1 k2 k3 h k
  go_enter Try.func74, Try.ntmps74
  go_wp2
  have ge2 : w.heap.size ≤ w.heap.size + 2 := Nat.le_add_right _ 2
  have ge3 : w.heap.size ≤ w.heap.size + 3 := Nat.le_add_right _ 3
  exact bodyPost_ret (v := .tuple #[.agg #[.bool false, .slice none 0 0], .agg #[.bool false, .slice none 0 0], .int .i64 6]) (by simp [results, Try.results74, go_sem, q0, q1, r0, r1]) rfl
    ⟨_, _, rfl, isInt_zero _, isInt_zero _, (((eW.setCell (p := ⟨w.heap.size + 2, 0, none⟩) ge2 _).setCell (p := ⟨w.heap.size + 2, 1, none⟩) ge2 _).setCell (p := ⟨w.heap.size + 3, 0, none⟩) ge3 _).setCell (p := ⟨w.heap.size + 3, 1, none⟩) ge3 _⟩

end Go.Proofs.Ytdleiiboffkidaa
end

/- ---- Est ---- -/
section
/-
  The numbers of a round of the long division: how far off the estimate is, and what the subtraction leaves.
-/
set_option maxRecDepth 100000
namespace Go.Proofs.Ytdleiiboffkidaa

/-- The estimate from the upper limbs: the quotient, or greater by 1; and it fits. -/
theorem est_bounds {D p3 p0 y2 y0 B : Nat} (hD : 0 < D) (hp0 : p0 < D) (hy0 : y0 < D) (hy2 : B ≤ y2) (hB : 0 < B) (hP : p3 * D + p0 < B * (y2 * D + y0)) :
    p3 < (B + 1) * y2 ∧ (p3 * D + p0) / (y2 * D + y0) ≤ p3 / y2 ∧ p3 / y2 ≤ (p3 * D + p0) / (y2 * D + y0) + 1 ∧ p3 / y2 ≤ B := by
  have hYp : 0 < y2 * D + y0 := by
    have := Nat.mul_pos (show 0 < y2 by omega) hD
    omega
  have h1 : p3 < (B + 1) * y2 := by
    have e1 : B * (y2 * D + y0) ≤ B * ((y2 + 1) * D) := Nat.mul_le_mul_left _ (by rw [Nat.add_mul]; omega)
    have e2 : p3 * D < B * (y2 + 1) * D := by rw [Nat.mul_assoc]; omega
    have e3 : p3 < B * (y2 + 1) := Nat.lt_of_mul_lt_mul_right e2
    rw [Nat.mul_add] at e3
    rw [Nat.add_mul]
    omega
  have h4 : p3 / y2 ≤ B := by
    have : p3 / y2 < B + 1 := Nat.div_lt_of_lt_mul (by rw [Nat.mul_comm]; exact h1)
    omega
  have hq := Nat.div_mul_le_self (p3 * D + p0) (y2 * D + y0)
  have hs := Nat.div_mul_le_self p3 y2
  refine ⟨h1, ?_, ?_, h4⟩
  · generalize (p3 * D + p0) / (y2 * D + y0) = q at hq ⊢
    rw [Nat.le_div_iff_mul_le (by omega)]
    have e1 : q * y2 * D ≤ q * (y2 * D + y0) := by rw [Nat.mul_assoc]; exact Nat.mul_le_mul_left _ (Nat.le_add_right _ _)
    have e2 : q * y2 * D < (p3 + 1) * D := by rw [Nat.add_mul]; omega
    have := Nat.lt_of_mul_lt_mul_right e2
    omega
  · generalize p3 / y2 = s at hs h4 ⊢
    rcases s with _ | s
    · exact Nat.zero_le _
    · refine Nat.succ_le_succ ?_
      rw [Nat.le_div_iff_mul_le hYp]
      have e1 : s * (y2 * D + y0) ≤ s * ((y2 + 1) * D) := Nat.mul_le_mul_left _ (by rw [Nat.add_mul]; omega)
      have e2 : s * (y2 + 1) ≤ p3 := by
        rw [Nat.add_mul] at hs
        rw [Nat.mul_add]
        omega
      have e3 : s * ((y2 + 1) * D) ≤ p3 * D := by rw [← Nat.mul_assoc]; exact Nat.mul_le_mul_right _ e2
      omega

/-- The estimate was the quotient: nothing lacks, and the rest is left. -/
theorem round_eq {N low low' t c q Y r : Nat} (hY : Y ≤ N) (hr : r < Y) (hP : low + N * t = q * Y + r) (hl : low' < N) (h : low' + q * Y = low + N * c) : c = t ∧ low' = r := by
  have e : low' + N * t = r + N * c := by omega
  have hc : c = t := by
    rcases Nat.lt_trichotomy c t with h1 | h1 | h1
    · have := Nat.mul_le_mul_left N (show c + 1 ≤ t from h1)
      rw [Nat.mul_add] at this
      omega
    · exact h1
    · have := Nat.mul_le_mul_left N (show t + 1 ≤ c from h1)
      rw [Nat.mul_add] at this
      omega
  subst hc
  exact ⟨rfl, by omega⟩
/-- The estimate was greater by 1: one lacks, and adding the divisor back leaves the rest. -/
theorem round_over {N low low' low2 t c c2 q Y r : Nat} (hY : Y ≤ N) (hr : r < Y) (hP : low + N * t = q * Y + r) (hl : low' < N) (h : low' + (q + 1) * Y = low + N * c) (hl2 : low2 < N) (h2 : low2 + N * c2 = low' + Y) :
    t < c ∧ low2 = r := by
  rw [Nat.add_mul] at h
  have e : low' + Y + N * t = r + N * c := by omega
  have hc : c = t + 1 := by
    rcases Nat.lt_trichotomy c (t + 1) with h1 | h1 | h1
    · have := Nat.mul_le_mul_left N (show c ≤ t by omega)
      omega
    · exact h1
    · have := Nat.mul_le_mul_left N (show t + 1 + 1 ≤ c from h1)
      rw [Nat.mul_add, Nat.mul_add] at this
      omega
  subst hc
  rw [Nat.mul_add] at e
  refine ⟨by omega, ?_⟩
  have e2 : low2 + N * c2 = r + N := by omega
  rcases c2 with _ | _ | c2
  · omega
  · omega
  · have := Nat.mul_le_mul_left N (show 2 ≤ c2 + 1 + 1 by omega)
    omega

end Go.Proofs.Ytdleiiboffkidaa
end

/- ---- Bits ---- -/
section
/-
  The library's contracts for bits.Mul64 and bits.Add64, at this program.
-/
set_option maxRecDepth 100000
namespace Go.Proofs.Ytdleiiboffkidaa
open Go.Shelf

def ren264 : Go.Shelf.Ren := ⟨fun | 264 => 41 | n => n, fun | 53 => 75 | 46 => 109 | n => n, fun | n => n⟩
theorem lays264 : Go.Proofs.Lays.n264 Try.prog ren264 := {
  mixed := by kernel_rfl
  f264 := Try.func41.trans (congrArg some (by kernel_rfl))
  t46 := Try.underlying109
  a46 := Try.isAgg109
  z46 := Try.sizeOf109
  v46 := Try.zeroValue109
  t53 := Try.underlying75
  a53 := Try.isAgg75
  z53 := Try.sizeOf75
  v53 := Try.zeroValue75 }
theorem mul64_calls (w : World) (x y : Nat) (hx : x < 18446744073709551616) (hy : y < 18446744073709551616) :
    Calls Try.prog 41 #[.int .u64 (x : Int), .int .u64 (y : Int)] w fun e w' =>
      e = .returned (.tuple #[.int .u64 ((x * y / 18446744073709551616 : Nat) : Int), .int .u64 ((x * y % 18446744073709551616 : Nat) : Int)]) ∧ w' = w :=
  Any.bits_Mul64 lays264 x y hx hy w

def ren25 : Go.Shelf.Ren := ⟨fun | 25 => 110 | n => n, fun | 22 => 75 | n => n, fun | n => n⟩
theorem lays25 : Go.Proofs.Lays7.n25 Try.prog ren25 := {
  mixed := by kernel_rfl
  f25 := Try.func110.trans (congrArg some (by kernel_rfl))
  t22 := Try.underlying75
  a22 := Try.isAgg75
  z22 := Try.sizeOf75
  v22 := Try.zeroValue75
  i22 := by kernel_rfl }
/-- bits.Add64 without a carry that comes in. -/
theorem add64_run (x y : Nat) (s : Nat) (c : Nat) (hs : s = (x + y) % 18446744073709551616) (hc : c = (x + y) / 18446744073709551616) (w : World) :
    (callFunc 110 #[.int .u64 (x : Int), .int .u64 (y : Int), .int .u64 0]).run Try.prog w = .ok (.value (.tuple #[.int .u64 (s : Int), .int .u64 (c : Int)])) w := by
  subst hs hc
  exact Any7.bits_Add64 lays25 x y 0 (by omega) w

end Go.Proofs.Ytdleiiboffkidaa
end

/- ---- Split ---- -/
section
/-
  The two halves of a number of three or four limbs.
-/
set_option maxRecDepth 100000
namespace Go.Proofs.Ytdleiiboffkidaa
open Go.RowKit

theorem Cells.drop {w : World} {b off : Nat} {xs : List Nat} (h : Cells w (some ⟨b, off, none⟩) xs) (k : Nat) : Cells w (some ⟨b, off + k, none⟩) (xs.drop k) := by
  rcases Nat.lt_or_ge k xs.length with hk | hk
  · obtain ⟨b', off', he, hx⟩ := h.at_ (by omega)
    injection he with he
    injection he with h1 h2
    subst h1 h2
    refine .inr ⟨b, off + k, rfl, fun i hi => ?_⟩
    rw [List.length_drop] at hi
    have := hx (k + i) (by omega)
    rw [← Nat.add_assoc] at this
    rw [this]
    congr 3
    simp [List.getD_eq_getElem?_getD]
  · exact .inl (List.drop_of_length_le hk)
theorem halves (X Z : Nat) (hi lo s c : Nat) (h1 : hi = X * 1000000000000000000 / 18446744073709551616) (h2 : lo = X * 1000000000000000000 % 18446744073709551616) (h3 : s = (lo + Z) % 18446744073709551616) (h4 : c = (lo + Z) / 18446744073709551616) :
    hi + c = (Z + 1000000000000000000 * X) / 18446744073709551616 ∧ s = (Z + 1000000000000000000 * X) % 18446744073709551616 := by
  omega

set_option maxRecDepth 100000 in
set_option maxHeartbeats 800000 in
theorem split_calls (w : World) (b off : Nat) (xs : List Nat) (cap : Nat) (hc : xs.length ≤ cap) (hm : cap ≤ 9223372036854775807) (h : Cells w (some ⟨b, off, none⟩) xs) (dx : Dig xs) (h3 : 2 < xs.length) (h4 : xs.length ≤ 4) :
    Calls Try.prog 109 #[.slice (some ⟨b, off, none⟩) xs.length cap] w fun e w' =>
      e = .returned (.tuple #[.int .u64 ((val xs / 18446744073709551616 : Nat) : Int), .int .u64 ((val xs % 18446744073709551616 : Nat) : Int)]) ∧ w = w' := by
  have hl : ¬ (xs.length : Int) ≤ 2 := by omega
  have hcap : ¬ cap = 2 := by omega
  have hl2 : (2 : Int) ≤ (xs.length : Int) := by omega
  have hl3 : (2 : Int) ≤ (cap : Int) := by omega
  have hx := val_split xs 2 (by omega)
  have b1 := val_lt (dx.drop 2)
  have b2 := val_lt (dx.take 2)
  rw [List.length_drop] at b1
  rw [List.length_take, Nat.min_eq_left (by omega)] at b2
  have b1' : val (xs.drop 2) < 1000000000000000000 := Nat.lt_of_lt_of_le b1 (Nat.pow_le_pow_right (by omega) (show xs.length - 2 ≤ 2 by omega))
  have b2' : val (xs.take 2) < 1000000000000000000 := b2
  have hv1 := valueOf_calls w (some ⟨b, off + 2, none⟩) (xs.drop 2) (cap - 2) (by rw [List.length_drop]; omega) (by omega) (h.drop 2) (by omega)
  have hv2 := valueOf_calls w (some ⟨b, off, none⟩) (xs.take 2) cap (by rw [List.length_take]; omega) (by omega) (h.take 2) (by omega)
  rw [List.length_drop] at hv1
  rw [List.length_take, Nat.min_eq_left (by omega)] at hv2
  rw [hx]
  rw [show (1000000000 : Nat) ^ 2 = 1000000000000000000 from rfl]
  clear hx b1 b2
  generalize val (xs.drop 2) = X at hv1 b1' ⊢
  generalize val (xs.take 2) = Z at hv2 b2' ⊢
  have HV1 := Lib.hid hv1
  have HV2 := Lib.hid hv2
  have hm64 := mul64_calls w X 1000000000000000000 (by omega) (by omega)
  obtain ⟨hi, e1⟩ : ∃ hi, hi = X * 1000000000000000000 / 18446744073709551616 := ⟨_, rfl⟩
  obtain ⟨lo, e2⟩ : ∃ lo, lo = X * 1000000000000000000 % 18446744073709551616 := ⟨_, rfl⟩
  obtain ⟨s, e3⟩ : ∃ s, s = (lo + Z) % 18446744073709551616 := ⟨_, rfl⟩
  obtain ⟨c, e4⟩ : ∃ c, c = (lo + Z) / 18446744073709551616 := ⟨_, rfl⟩
  rw [← e1, ← e2] at hm64
  rw [show ((1000000000000000000 : Nat) : Int) = 1000000000000000000 from rfl] at hm64
  obtain ⟨e5, e6⟩ := halves X Z hi lo s c e1 e2 e3 e4
  rw [← e5, ← e6]
  have HM := Lib.hid hm64
  have HA := Lib.hid (add64_run lo Z s c e3 e4)
  have bh : (hi : Int) ≤ 1000000000000000000 := by omega
  have bc : (c : Int) ≤ 2 := by omega
  clear hv1 hv2 hm64 e1 e2 e3 e4 e5 e6 b1' b2' hm h4
  go_enter Try.func109, Try.ntmps109
  go_wp2_with fail
  refine HV1.out.mono ?_
  rintro e w' ⟨rfl, rfl⟩
  go_wp2_with fail
  refine HM.out.mono ?_
  rintro e w' ⟨rfl, rfl⟩
  go_wp2_with fail
  refine HV2.out.mono ?_
  rintro e w' ⟨rfl, rfl⟩
  have hadd := HA.out
  go_wp2_with (rw [hadd])
  go_ret2
  exact ⟨by simp, rfl⟩

end Go.Proofs.Ytdleiiboffkidaa
end

/- ---- Dstep ---- -/
section
/-
  The numbers of math/bits.Div64: one digit of 32 bits, and both together.
-/
set_option maxRecDepth 100000
namespace Go.Proofs.Ytdleiiboffkidaa

/-- The divisor, with its upper bit set, and what is divided. -/
def DStart (u u1 Y a b : Nat) : Prop := Y = a * 4294967296 + b ∧ b < 4294967296 ∧ 2147483648 ≤ a ∧ a < 4294967296 ∧ u < Y ∧ u1 < 4294967296
/-- What holds of the digit and its rest while the digit is lowered. -/
def DInv (u u1 Y a q r : Nat) : Prop := q * a + r = u ∧ (u * 4294967296 + u1) / Y ≤ q ∧ r < 4294967296 ∧ q ≤ 4294967297
section
variable {u u1 Y a b q r : Nat}
theorem DStart.pos (h : DStart u u1 Y a b) : 0 < Y := by obtain ⟨h1, h2, h3, h4, h5, h6⟩ := h; omega
theorem DStart.lt (h : DStart u u1 Y a b) : (u * 4294967296 + u1) / Y < 4294967296 := by
  have := h.pos
  obtain ⟨h1, h2, h3, h4, h5, h6⟩ := h
  rw [Nat.div_lt_iff_lt_mul (by omega)]
  omega
theorem DStart.init (h : DStart u u1 Y a b) : DInv u u1 Y a (u / a) (u % a) := by
  have hlt := h.pos
  obtain ⟨h1, h2, h3, h4, h5, h6⟩ := h
  refine ⟨?_, ?_, ?_, ?_⟩
  · rw [Nat.mul_comm]; exact Nat.div_add_mod u a
  · rw [Nat.le_div_iff_mul_le (by omega)]
    have e := Nat.div_mul_le_self (u * 4294967296 + u1) Y
    generalize (u * 4294967296 + u1) / Y = Q at e ⊢
    have e1 : Q * (a * 4294967296) ≤ Q * Y := Nat.mul_le_mul_left _ (by omega)
    rw [← Nat.mul_assoc] at e1
    omega
  · have := Nat.mod_lt u (show a > 0 by omega); omega
  · have : u / a < 4294967298 := by
      rw [Nat.div_lt_iff_lt_mul (by omega)]
      omega
    omega
/-- The test of the loop. -/
theorem DInv.eq (h : DStart u u1 Y a b) (k1 : q * a + r = u) : q * Y + r * 4294967296 = u * 4294967296 + q * b := by
  obtain ⟨h1, h2, h3, h4, h5, h6⟩ := h
  rw [h1, Nat.mul_add, ← Nat.mul_assoc, ← k1]
  generalize q * a = x
  generalize q * b = y
  omega
theorem DInv.test (h : DStart u u1 Y a b) (k1 : q * a + r = u) : 4294967296 * r + u1 < q * b ↔ (u * 4294967296 + u1) / Y < q := by
  have e := DInv.eq h k1
  rw [Nat.div_lt_iff_lt_mul h.pos]
  omega
theorem DInv.big (h : DStart u u1 Y a b) (h2 : 4294967296 ≤ q) : (u * 4294967296 + u1) / Y < q := Nat.lt_of_lt_of_le h.lt h2
/-- The digit is too great: it is lowered by 1. -/
theorem DInv.down (h : DStart u u1 Y a b) (k : DInv u u1 Y a q r) (ht : (u * 4294967296 + u1) / Y < q) :
    0 < q ∧ (q - 1) * a + (r + a) = u ∧ (u * 4294967296 + u1) / Y ≤ q - 1 ∧ q - 1 ≤ 4294967296 ∧ r + a < 8589934592 := by
  obtain ⟨k1, k2, k3, k4⟩ := k
  obtain ⟨h1, h2, h3, h4, h5, h6⟩ := h
  generalize (u * 4294967296 + u1) / Y = Q at *
  refine ⟨by omega, ?_, by omega, by omega, by omega⟩
  rw [Nat.sub_mul, Nat.one_mul, ← k1]
  have : 1 * a ≤ q * a := Nat.mul_le_mul_right _ (by omega)
  omega
theorem DInv.stop (k : DInv u u1 Y a q r) (ht : ¬ (u * 4294967296 + u1) / Y < q) : q = (u * 4294967296 + u1) / Y := by
  have := k.2.1
  omega
theorem DInv.far (h : DStart u u1 Y a b) (k1 : q * a + r = u) (k2 : (u * 4294967296 + u1) / Y ≤ q) (k3 : 4294967296 ≤ r) (k4 : q ≤ 4294967296) : q = (u * 4294967296 + u1) / Y := by
  have ht := DInv.test (u1 := u1) h k1
  have hb : q * b ≤ 4294967296 * 4294967295 := Nat.mul_le_mul k4 (by have := h.2.1; omega)
  have : ¬ (u * 4294967296 + u1) / Y < q := by rw [← ht]; omega
  omega
/-- What is left behind a digit. -/
theorem dstep_rest (h : DStart u u1 Y a b) (hY : Y < 18446744073709551616) (hq : q = (u * 4294967296 + u1) / Y) (hr : r = (u * 4294967296 + u1) % Y) :
    (((u * 4294967296 % 18446744073709551616 + u1) % 18446744073709551616) + (18446744073709551616 - q * Y % 18446744073709551616)) % 18446744073709551616 = r := by
  have e := Nat.div_add_mod (u * 4294967296 + u1) Y
  have hr' := Nat.mod_lt (u * 4294967296 + u1) h.pos
  rw [← hq, ← hr, Nat.mul_comm] at e
  rw [← hr] at hr'
  omega
end

/-- Both digits. -/
theorem two_digits {N2 N1 N0 Y q1 r1 q0 r0 : Nat} (hY : 0 < Y) (h1 : q1 = (N2 * 4294967296 + N1) / Y) (h2 : r1 = (N2 * 4294967296 + N1) % Y) (h3 : q0 = (r1 * 4294967296 + N0) / Y) (h4 : r0 = (r1 * 4294967296 + N0) % Y) :
    ((N2 * 4294967296 + N1) * 4294967296 + N0) / Y = q1 * 4294967296 + q0 ∧ ((N2 * 4294967296 + N1) * 4294967296 + N0) % Y = r0 := by
  have e1 := Nat.div_add_mod (N2 * 4294967296 + N1) Y
  have e2 := Nat.div_add_mod (r1 * 4294967296 + N0) Y
  have l2 := Nat.mod_lt (r1 * 4294967296 + N0) hY
  rw [← h1, ← h2] at e1
  rw [← h3, ← h4] at e2
  rw [← h4] at l2
  refine (Nat.div_mod_unique hY).2 ⟨?_, l2⟩
  rw [← e1, Nat.mul_add, ← Nat.mul_assoc]
  generalize Y * q1 = x at *
  generalize Y * q0 = y at *
  omega
/-- Moved to the left so that the divisor's upper bit is set. -/
theorem moved {hi lo y s : Nat} (hs : s ≤ 64) (hlo : lo < 18446744073709551616) (hhi : hi < y) :
    (hi * 18446744073709551616 + lo) * 2 ^ s = (hi * 2 ^ s + lo / 2 ^ (64 - s)) * 18446744073709551616 + lo * 2 ^ s % 18446744073709551616 ∧
    hi * 2 ^ s + lo / 2 ^ (64 - s) < y * 2 ^ s ∧ lo / 2 ^ (64 - s) < 2 ^ s := by
  have e : 2 ^ s * 2 ^ (64 - s) = 18446744073709551616 := by rw [← Nat.pow_add, show s + (64 - s) = 64 by omega]
  have hp : 0 < 2 ^ s := Nat.pow_pos (by omega)
  have hp2 : 0 < 2 ^ (64 - s) := Nat.pow_pos (by omega)
  have e1 : lo * 2 ^ s / 18446744073709551616 = lo / 2 ^ (64 - s) := by
    rw [← e, Nat.mul_comm lo, Nat.mul_div_mul_left _ _ hp]
  have e2 := Nat.div_add_mod (lo * 2 ^ s) 18446744073709551616
  rw [e1] at e2
  have e3 : lo / 2 ^ (64 - s) < 2 ^ s := by
    rw [Nat.div_lt_iff_lt_mul hp2, e]; exact hlo
  refine ⟨?_, ?_, e3⟩
  · rw [Nat.add_mul, Nat.add_mul, Nat.mul_right_comm]
    omega
  · have : (hi + 1) * 2 ^ s ≤ y * 2 ^ s := Nat.mul_le_mul_right _ hhi
    rw [Nat.add_mul] at this
    omega
theorem moved_back {y s : Nat} (N : Nat) :
    N * 2 ^ s / (y * 2 ^ s) = N / y ∧ N * 2 ^ s % (y * 2 ^ s) / 2 ^ s = N % y := by
  have hp : 0 < 2 ^ s := Nat.pow_pos (by omega)
  rw [Nat.mul_div_mul_right _ _ hp, Nat.mul_mod_mul_right, Nat.mul_div_cancel _ hp]
  exact ⟨rfl, rfl⟩
theorem or_move {x y s : Nat} (h : y < 2 ^ s) : x * 2 ^ s ||| y = x * 2 ^ s + y := by
  rw [Nat.mul_comm]; exact (Nat.two_pow_add_eq_or_of_lt h x).symm

end Go.Proofs.Ytdleiiboffkidaa
end

/- ---- Lens ---- -/
section
/-
  How many bits a number has: the library's contracts for bits.Len64 and bits.LeadingZeros64, at this program.
-/
set_option maxRecDepth 100000
namespace Go.Proofs.Ytdleiiboffkidaa
open Go.Shelf

theorem bitLenAux_zero (f : Nat) : Lib.bitLenAux f 0 = 0 := by cases f <;> simp [Lib.bitLenAux]
theorem bitLenAux_spec : ∀ (f x : Nat), x < 2 ^ f → x < 2 ^ Lib.bitLenAux f x ∧ Lib.bitLenAux f x ≤ f ∧ (0 < x → 0 < Lib.bitLenAux f x ∧ 2 ^ (Lib.bitLenAux f x - 1) ≤ x) := by
  intro f
  induction f with
  | zero => intro x h; simp [Lib.bitLenAux] at *; omega
  | succ f ih =>
    intro x h
    unfold Lib.bitLenAux
    by_cases h0 : x = 0
    · simp [h0]
    · rw [if_neg h0]
      rw [Nat.pow_succ] at h
      obtain ⟨h1, h2, h3⟩ := ih (x / 2) (by omega)
      rcases Nat.eq_zero_or_pos (x / 2) with hz | hz
      · rw [hz, bitLenAux_zero]
        refine ⟨?_, by omega, fun _ => ⟨by omega, ?_⟩⟩
        · show x < 2 ^ 1; omega
        · show 2 ^ 0 ≤ x; omega
      · obtain ⟨k1, k2⟩ := h3 hz
        generalize Lib.bitLenAux f (x / 2) = L at *
        obtain ⟨M, rfl⟩ : ∃ M, L = M + 1 := ⟨L - 1, by omega⟩
        rw [Nat.add_sub_cancel] at k2
        refine ⟨?_, by omega, fun _ => ⟨by omega, ?_⟩⟩
        · rw [Nat.add_comm 1, Nat.pow_succ]; omega
        · rw [Nat.add_comm 1, Nat.add_sub_cancel, Nat.pow_succ]; omega
theorem bitLen_bounds (x : Nat) (h : x < 18446744073709551616) : x < 2 ^ Lib.bitLen x ∧ Lib.bitLen x ≤ 64 ∧ (0 < x → 0 < Lib.bitLen x ∧ 2 ^ (Lib.bitLen x - 1) ≤ x) := bitLenAux_spec 64 x h
/-- Moved to the left by the number of leading zeros, a number has its upper bit set. -/
theorem upper_bit (y : Nat) (h0 : 0 < y) (h : y < 18446744073709551616) : y * 2 ^ (64 - Lib.bitLen y) < 18446744073709551616 ∧ 9223372036854775808 ≤ y * 2 ^ (64 - Lib.bitLen y) := by
  obtain ⟨h1, h2, h3⟩ := bitLen_bounds y h
  obtain ⟨h4, h5⟩ := h3 h0
  generalize Lib.bitLen y = L at *
  have hp : 0 < 2 ^ (64 - L) := Nat.pow_pos (by omega)
  have e : 2 ^ L * 2 ^ (64 - L) = 18446744073709551616 := by rw [← Nat.pow_add, show L + (64 - L) = 64 by omega]
  have e2 : 2 ^ (L - 1) * 2 ^ (64 - L) = 9223372036854775808 := by rw [← Nat.pow_add, show L - 1 + (64 - L) = 63 by omega]
  exact ⟨by rw [← e]; exact Nat.mul_lt_mul_of_pos_right h1 hp, by rw [← e2]; exact Nat.mul_le_mul_right _ h5⟩

def ren129 : Go.Shelf.Ren := ⟨fun | 129 => 99 | n => n, fun | 53 => 75 | 3 => 3 | 4 => 4 | 46 => 109 | 5 => 5 | 9 => 9 | n => n, fun | n => n⟩
theorem lays129 : Go.Proofs.Lays.n129 Try.prog ren129 := {
  mixed := by kernel_rfl
  f129 := Try.func99.trans (congrArg some (by kernel_rfl))
  t3 := Try.underlying3
  a3 := Try.isAgg3
  z3 := Try.sizeOf3
  v3 := Try.zeroValue3
  t4 := Try.underlying4
  a4 := Try.isAgg4
  z4 := Try.sizeOf4
  v4 := Try.zeroValue4
  t5 := Try.underlying5
  a5 := Try.isAgg5
  z5 := Try.sizeOf5
  v5 := Try.zeroValue5
  t9 := Try.underlying9
  a9 := Try.isAgg9
  z9 := Try.sizeOf9
  v9 := Try.zeroValue9
  t46 := Try.underlying109
  a46 := Try.isAgg109
  z46 := Try.sizeOf109
  v46 := Try.zeroValue109
  t53 := Try.underlying75
  a53 := Try.isAgg75
  z53 := Try.sizeOf75
  v53 := Try.zeroValue75 }
theorem len64_calls (w : World) (x L : Nat) (h : x < 18446744073709551616) (hL : L = Lib.bitLen x) :
    Calls Try.prog 99 #[.int .u64 (x : Int)] w fun e w' => e = .returned (.int .i64 (L : Int)) ∧ w = w' := by
  subst hL
  exact (Any.bits_Len64 lays129 (x : Int) w (by omega) (by omega)).mono fun _ _ ⟨h1, h2⟩ => ⟨h1, h2.symm⟩

def ren134 : Go.Shelf.Ren := ⟨fun | 134 => 77 | 129 => 99 | n => n, fun | 53 => 75 | 3 => 3 | 4 => 4 | 46 => 109 | 5 => 5 | 9 => 9 | n => n, fun | n => n⟩
theorem lays134 : Go.Proofs.Lays.n134 Try.prog ren134 := {
  mixed := by kernel_rfl
  f129 := Try.func99.trans (congrArg some (by kernel_rfl))
  f134 := Try.func77.trans (congrArg some (by kernel_rfl))
  t3 := Try.underlying3
  a3 := Try.isAgg3
  z3 := Try.sizeOf3
  v3 := Try.zeroValue3
  t4 := Try.underlying4
  a4 := Try.isAgg4
  z4 := Try.sizeOf4
  v4 := Try.zeroValue4
  t5 := Try.underlying5
  a5 := Try.isAgg5
  z5 := Try.sizeOf5
  v5 := Try.zeroValue5
  t9 := Try.underlying9
  a9 := Try.isAgg9
  z9 := Try.sizeOf9
  v9 := Try.zeroValue9
  t46 := Try.underlying109
  a46 := Try.isAgg109
  z46 := Try.sizeOf109
  v46 := Try.zeroValue109
  t53 := Try.underlying75
  a53 := Try.isAgg75
  z53 := Try.sizeOf75
  v53 := Try.zeroValue75 }
theorem lz64_calls (w : World) (x s : Nat) (h : x < 18446744073709551616) (hs : s = 64 - Lib.bitLen x) :
    Calls Try.prog 77 #[.int .u64 (x : Int)] w fun e w' => e = .returned (.int .i64 (s : Int)) ∧ w = w' := by
  subst hs
  have hb := (bitLen_bounds x h).2.1
  refine (Any.bits_LeadingZeros64 lays134 (x : Int) w (by omega) (by omega)).mono fun _ _ ⟨h1, h2⟩ => ⟨?_, h2.symm⟩
  rw [h1]
  congr 3
  rw [Int.toNat_natCast]
  omega

end Go.Proofs.Ytdleiiboffkidaa
end

/- ---- D64 ---- -/
section
/-
  math/bits.Div64 for every divisor greater than the upper half.
-/
set_option maxRecDepth 100000
namespace Go.Proofs.Ytdleiiboffkidaa
open Go.RowKit

/-- The numbers of Div64 ahead of its first loop. -/
structure D64 (hi lo y s Y a b u v v1 v0 : Nat) : Prop where
  hs : s = 64 - Lib.bitLen y
  hY : Y = y * 2 ^ s
  ha : a = Y / 4294967296
  hb : b = Y % 4294967296
  hu : u = hi * 2 ^ s + lo / 2 ^ (64 - s)
  hv : v = lo * 2 ^ s % 18446744073709551616
  hv1 : v1 = v / 4294967296
  hv0 : v0 = v % 4294967296
theorem wrapMod (z : Int) (n : Nat) (h : z % 18446744073709551616 = n) : IntKind.u64.wrap z = (n : Int) := by rw [IntKind.wrap_u64]; exact h
section
variable {hi lo y s Y a b u v v1 v0 : Nat}
theorem D64.shY (D : D64 hi lo y s Y a b u v v1 v0) (h0 : 0 < y) (hy : y < 18446744073709551616) : IntKind.u64.wrap ((y : Int) * 2 ^ s) = (Y : Int) := by
  have := (upper_bit y h0 hy).1
  rw [← D.hs, ← D.hY] at this
  refine wrapMod _ _ ?_
  have e : (y : Int) * 2 ^ s = (Y : Int) := by rw [D.hY]; simp
  omega
theorem D64.start (D : D64 hi lo y s Y a b u v v1 v0) (hhi : hi < y) (hlo : lo < 18446744073709551616) (hy : y < 18446744073709551616) :
    DStart u v1 Y a b ∧ Y < 18446744073709551616 ∧ v0 < 4294967296 ∧ u < 18446744073709551616 := by
  have h1 := upper_bit y (by omega) hy
  rw [← D.hs, ← D.hY] at h1
  have h2 := moved (hi := hi) (lo := lo) (y := y) (s := s) (by have := D.hs; omega) hlo hhi
  rw [← D.hu, ← D.hY] at h2
  have h3 := D.hv
  have := D.ha
  have := D.hb
  have := D.hv1
  have := D.hv0
  exact ⟨⟨by omega, by omega, by omega, by omega, h2.2.1, by omega⟩, h1.1, by omega, by omega⟩
theorem D64.shU (D : D64 hi lo y s Y a b u v v1 v0) (hhi : hi < y) (hlo : lo < 18446744073709551616) (hy : y < 18446744073709551616) :
    ∃ t l H : Nat, (64 - (s : Int)) = (t : Int) ∧ (lo : Int) / 2 ^ t = (l : Int) ∧ IntKind.u64.wrap ((hi : Int) * 2 ^ s) = (H : Int) ∧ bits .or .u64 (H : Int) (l : Int) = (u : Int) ∧ t ≤ 64 := by
  have h1 := upper_bit y (by omega) hy
  rw [← D.hs, ← D.hY] at h1
  have h2 := moved (hi := hi) (lo := lo) (y := y) (s := s) (by have := D.hs; omega) hlo hhi
  rw [← D.hu, ← D.hY] at h2
  refine ⟨64 - s, lo / 2 ^ (64 - s), hi * 2 ^ s, by have := D.hs; omega, by simp, ?_, ?_, by omega⟩
  · refine wrapMod _ _ ?_
    have e : (hi : Int) * 2 ^ s = ((hi * 2 ^ s : Nat) : Int) := by simp
    have := D.hu
    have h3 := h2.2.1
    rw [e]
    generalize hi * 2 ^ s = p at *
    generalize lo / 2 ^ (64 - s) = k at *
    omega
  · have h4 := D.hu
    have h3 := h2.2.1
    have h5 := or_move (x := hi) h2.2.2
    rw [← h4] at h5
    generalize hi * 2 ^ s = p at *
    generalize lo / 2 ^ (64 - s) = k at *
    rw [u64_or_nat _ _ (by omega) (by omega), h5]
theorem D64.shV (D : D64 hi lo y s Y a b u v v1 v0) : IntKind.u64.wrap ((lo : Int) * 2 ^ s) = (v : Int) ∧ (v : Int) / 4294967296 = (v1 : Int) ∧ bits .and .u64 (v : Int) 4294967295 = (v0 : Int) := by
  have h := D.hv
  refine ⟨wrapMod _ _ ?_, ?_, ?_⟩
  · have e : (lo : Int) * 2 ^ s = ((lo * 2 ^ s : Nat) : Int) := by simp
    rw [e]; omega
  · have := D.hv1; omega
  · rw [Go.Proofs.Mul64.maskN _ (by omega), ← D.hv0]
theorem D64.shY2 (D : D64 hi lo y s Y a b u v v1 v0) (hY : Y < 18446744073709551616) : (Y : Int) / 4294967296 = (a : Int) ∧ bits .and .u64 (Y : Int) 4294967295 = (b : Int) := by
  refine ⟨?_, ?_⟩
  · have := D.ha; omega
  · rw [Go.Proofs.Mul64.maskN _ hY, ← D.hb]
theorem DStart.second {u u1 R v0 : Nat} (h : DStart u u1 Y a b) (hR : R = (u * 4294967296 + u1) % Y) (hv : v0 < 4294967296) : DStart R v0 Y a b := by
  have := Nat.mod_lt (u * 4294967296 + u1) h.pos
  obtain ⟨h1, h2, h3, h4, h5, h6⟩ := h
  exact ⟨h1, h2, h3, h4, by omega, hv⟩
theorem DStart.rests {u u1 Q R : Nat} (h : DStart u u1 Y a b) (hY : Y < 18446744073709551616) (hQ : Q = (u * 4294967296 + u1) / Y) (hR : R = (u * 4294967296 + u1) % Y) :
    ∃ C1 C2 C3 : Nat, IntKind.u64.wrap ((u : Int) * 4294967296) = (C1 : Int) ∧ IntKind.u64.wrap ((C1 : Int) + (u1 : Int)) = (C2 : Int) ∧ IntKind.u64.wrap ((Q : Int) * (Y : Int)) = (C3 : Int) ∧ IntKind.u64.wrap ((C2 : Int) - (C3 : Int)) = (R : Int) := by
  have e := dstep_rest h hY hQ hR
  refine ⟨u * 4294967296 % 18446744073709551616, (u * 4294967296 % 18446744073709551616 + u1) % 18446744073709551616, Q * Y % 18446744073709551616, wrapMod _ _ (by omega), wrapMod _ _ (by omega), wrapMod _ _ ?_, wrapMod _ _ ?_⟩
  · have e2 : (Q : Int) * (Y : Int) = ((Q * Y : Nat) : Int) := by simp
    rw [e2]; omega
  · generalize Q * Y = Z at *
    omega
theorem DStart.quos {u u1 : Nat} (h : DStart u u1 Y a b) (hY : Y < 18446744073709551616) :
    ∃ q r P : Nat, IntKind.u64.wrap ((u : Int) / (a : Int)) = (q : Int) ∧ (q : Int) * (a : Int) = (P : Int) ∧ (u : Int) - (P : Int) = (r : Int) ∧ (P : Int) ≤ (u : Int) ∧ DInv u u1 Y a q r := by
  have hi := h.init
  have h1 := hi.1
  refine ⟨u / a, u % a, u / a * a, wrap_quo u a _ (by have := h.2.2.2.2.1; omega) rfl, by simp, ?_, ?_, hi⟩
  · generalize u / a * a = x at *
    omega
  · generalize u / a * a = x at *
    omega
theorem D64.result {Q1 R1 Q0 R0 : Nat} (D : D64 hi lo y s Y a b u v v1 v0) (hhi : hi < y) (hlo : lo < 18446744073709551616) (hy : y < 18446744073709551616) (h1 : Q1 = (u * 4294967296 + v1) / Y) (h2 : R1 = (u * 4294967296 + v1) % Y)
    (h3 : Q0 = (R1 * 4294967296 + v0) / Y) (h4 : R0 = (R1 * 4294967296 + v0) % Y) :
    (hi * 18446744073709551616 + lo) / y = Q1 * 4294967296 + Q0 ∧ (R0 : Int) / 2 ^ s = (((hi * 18446744073709551616 + lo) % y : Nat) : Int) := by
  have hs := D.start hhi hlo hy
  have h5 := moved (hi := hi) (lo := lo) (y := y) (s := s) (by have := D.hs; omega) hlo hhi
  have h6 := two_digits hs.1.pos h1 h2 h3 h4
  have h7 := moved_back (y := y) (s := s) (hi * 18446744073709551616 + lo)
  have e : (u * 4294967296 + v1) * 4294967296 + v0 = (hi * 18446744073709551616 + lo) * 2 ^ s := by
    rw [h5.1, ← D.hu, ← D.hv]
    have := D.hv1
    have := D.hv0
    omega
  rw [e, D.hY] at h6
  rw [← h7.1, ← h7.2, h6.1, h6.2]
  exact ⟨rfl, by simp⟩
end

set_option maxRecDepth 100000 in
set_option maxHeartbeats 1600000 in
theorem div64_calls (w : World) (hi lo y : Nat) (h0 : 0 < hi) (hhi : hi < y) (hlo : lo < 18446744073709551616) (hy : y < 18446744073709551616) :
    Calls Try.prog 43 #[.int .u64 (hi : Int), .int .u64 (lo : Int), .int .u64 (y : Int)] w fun e w' =>
      e = .returned (.tuple #[.int .u64 (((hi * 18446744073709551616 + lo) / y : Nat) : Int), .int .u64 (((hi * 18446744073709551616 + lo) % y : Nat) : Int)]) ∧ w = w' := by
  obtain ⟨s, hs⟩ : ∃ s, s = 64 - Lib.bitLen y := ⟨_, rfl⟩
  obtain ⟨Y, hY⟩ : ∃ Y, Y = y * 2 ^ s := ⟨_, rfl⟩
  obtain ⟨a, ha⟩ : ∃ a, a = Y / 4294967296 := ⟨_, rfl⟩
  obtain ⟨b, hb⟩ : ∃ b, b = Y % 4294967296 := ⟨_, rfl⟩
  obtain ⟨u, hu⟩ : ∃ u, u = hi * 2 ^ s + lo / 2 ^ (64 - s) := ⟨_, rfl⟩
  obtain ⟨v, hv⟩ : ∃ v, v = lo * 2 ^ s % 18446744073709551616 := ⟨_, rfl⟩
  obtain ⟨v1, hv1⟩ : ∃ v1, v1 = v / 4294967296 := ⟨_, rfl⟩
  obtain ⟨v0, hv0⟩ : ∃ v0, v0 = v % 4294967296 := ⟨_, rfl⟩
  have D : D64 hi lo y s Y a b u v v1 v0 := ⟨hs, hY, ha, hb, hu, hv, hv1, hv0⟩
  obtain ⟨DS, hYb, hv0b, hub⟩ := D.start hhi hlo hy
  have c1 : ((y : Int) == 0) = false := by rw [beq_eq_false_iff_ne]; omega
  have c2 : ¬ ((y : Int) ≤ (hi : Int)) := by omega
  have c3 : ((hi : Int) == 0) = false := by rw [beq_eq_false_iff_ne]; omega
  have hs64 : (s : Int) ≤ 64 := by omega
  have HLZ := Lib.hid (fun W => lz64_calls W y s hy hs)
  have HSY := Lib.hid (And.intro (D.shY (by omega) hy) (D.shY2 hYb))
  have HSU := Lib.hid (D.shU hhi hlo hy)
  have HSV := Lib.hid D.shV
  obtain ⟨q, hq⟩ : ∃ q, q = u / a := ⟨_, rfl⟩
  obtain ⟨r, hr⟩ : ∃ r, r = u % a := ⟨_, rfl⟩
  obtain ⟨P, hP⟩ : ∃ P, P = q * a := ⟨_, rfl⟩
  have HI := DS.init
  rw [← hq, ← hr] at HI
  have hPu : P + r = u := by rw [hP]; exact HI.1
  have HQ := Lib.hid (And.intro (wrap_quo u a q (by omega) hq) (show (q : Int) * (a : Int) = (P : Int) by rw [hP]; simp))
  have HPU := Lib.hid hPu
  have HH := Lib.hid (And.intro h0 (And.intro hhi (And.intro hlo hy)))
  have HD := Lib.hid D
  have HDS := Lib.hid DS
  obtain ⟨Q1, hQ1⟩ : ∃ Q1, Q1 = (u * 4294967296 + v1) / Y := ⟨_, rfl⟩
  obtain ⟨R1, hR1⟩ : ∃ R1, R1 = (u * 4294967296 + v1) % Y := ⟨_, rfl⟩
  obtain ⟨Q0, hQ0⟩ : ∃ Q0, Q0 = (R1 * 4294967296 + v0) / Y := ⟨_, rfl⟩
  obtain ⟨R0, hR0⟩ : ∃ R0, R0 = (R1 * 4294967296 + v0) % Y := ⟨_, rfl⟩
  have DS2 := DS.second hR1 hv0b
  have HDS2 := Lib.hid DS2
  have HB2 := Lib.hid (DS2.quos hYb)
  have HA1 := Lib.hid (DS.rests hYb hQ1 hR1)
  have HA2 := Lib.hid (DS2.rests hYb hQ0 hR0)
  have HQ1 := Lib.hid hQ1
  have HQ0 := Lib.hid hQ0
  have HRes := Lib.hid (D.result hhi hlo hy hQ1 hR1 hQ0 hR0)
  have hQ1w : (Q1 : Int) ≤ 4294967295 := by have := DS.lt; omega
  have hQ0w : (Q0 : Int) ≤ 4294967295 := by have := DS2.lt; omega
  have hv0I : (v0 : Int) ≤ 4294967295 := by omega
  have HR1 := Lib.hid (show R1 < Y by rw [hR1]; exact Nat.mod_lt _ DS.pos)
  have HYb := Lib.hid hYb
  have HIn := Lib.hid HI
  have ha0 : ¬ a = 0 := by have := DS.2.2.1; omega
  have hubI : (u : Int) ≤ 18446744073709551615 := by omega
  have hvI : (v1 : Int) ≤ 4294967295 := by have := DS.2.2.2.2.2; omega
  have haI : (a : Int) ≤ 4294967295 := by have := DS.2.2.2.1; omega
  have hbI : (b : Int) ≤ 4294967295 := by have := DS.2.1; omega
  clear D DS DS2 HI hQ1 hR1 hQ0 hR0 hs hY ha hb hu hv hv1 hv0 h0 hhi hlo hy hYb hv0b hub hq hr hP hPu
  go_enter Try.func43, Try.ntmps43
  go_wp2_with fail
  refine (HLZ.out _).mono ?_
  rintro e w' ⟨rfl, rfl⟩
  clear c1 c2 c3
  obtain ⟨f1, f2, f3⟩ := HSY.out
  obtain ⟨t, l, H, f4, f5, f6, f7, f8⟩ := HSU.out
  obtain ⟨f9, f10, f11⟩ := HSV.out
  have f8I : (t : Int) ≤ 64 := by omega
  go_upto_region 15 with fail
  clear f1 f2 f3 f4 f5 f6 f7 f8 f9 f10 f11 f8I
  obtain ⟨g1, g2⟩ := HQ.out
  have hPI : (P : Int) ≤ (u : Int) := by have := HPU.out; omega
  have g3 : (u : Int) - (P : Int) = (r : Int) := by have := HPU.out; omega
  go_upto_block 0 with fail
  clear g1 g2 g3 hPI
  go_cut [15] (fun sq wx => sq = .int .u64 (Q1 : Int) ∧ w = wx)
  case first =>
    go_wp2_with fail
    go_loop [15, 16] (fun sq sr => ∃ q r : Nat, sq = .int .u64 (q : Int) ∧ sr = .int .u64 (r : Int) ∧ DInv u v1 Y a q r) (fun sq _ => (intOf sq).toNat)
    case atStart => exact ⟨q, r, rfl, rfl, HIn.out⟩
    case round =>
      obtain ⟨q, r, rfl, rfl, I⟩ := hrel
      have HI := Lib.hid I
      obtain ⟨I1, I2, I3, I4⟩ := I
      have qI : (q : Int) ≤ 4294967297 := by omega
      have rI : (r : Int) < 4294967296 := by omega
      by_cases hlt : (u * 4294967296 + v1) / Y < q
      · obtain ⟨d1, d2, d3, d4, d5⟩ := DInv.down HDS.out HI.out hlt
        have hbig := (DInv.test (u1 := v1) HDS.out I1).2 hlt
        obtain ⟨q1, hq1⟩ : ∃ q1, q1 = q - 1 := ⟨_, rfl⟩
        obtain ⟨r1, hr1⟩ : ∃ r1, r1 = r + a := ⟨_, rfl⟩
        have q1I : (q : Int) - 1 = (q1 : Int) := by omega
        have r1I : (r : Int) + (a : Int) = (r1 : Int) := by omega
        have r1w : (r1 : Int) ≤ 8589934591 := by omega
        rw [← hq1, ← hr1] at d2
        rw [← hq1] at d3 d4
        have q0I : (1 : Int) ≤ (q : Int) := by omega
        have HN := Lib.hid (And.intro d2 (And.intro d3 d4))
        have HL := Lib.hid (show q1 < q by omega)
        clear I1 I2 hlt d1 d2 d3 d4 d5 hq1 hr1
        by_cases hq : 4294967296 ≤ q
        · have hqI : (4294967296 : Int) ≤ (q : Int) := by omega
          clear hq hbig
          by_cases hr : 4294967296 ≤ r1
          · have hrI : (4294967296 : Int) ≤ (r1 : Int) := by omega
            have HE := Lib.hid (DInv.far HDS.out HN.out.1 HN.out.2.1 hr HN.out.2.2)
            clear hr
            go_wp2
            go_meet
            exact ⟨by rw [HQ1.out, ← HE.out], rfl⟩
          · have hrI : ¬ (4294967296 : Int) ≤ (r1 : Int) := by omega
            have HR := Lib.hid (show r1 < 4294967296 by omega)
            clear hr
            go_wp2
            go_round
            case rel => exact ⟨q1, r1, rfl, rfl, HN.out.1, HN.out.2.1, HR.out, by have := HN.out.2.2; omega⟩
            case measure => have := HL.out; simp [intOf]; omega
        · have hqI : ¬ (4294967296 : Int) ≤ (q : Int) := by omega
          obtain ⟨P, hP⟩ : ∃ P, P = q * b := ⟨_, rfl⟩
          rw [← hP] at hbig
          have hPI : (q : Int) * (b : Int) = (P : Int) := by rw [hP]; simp
          have hPw : (P : Int) ≤ 18446744073709551615 := by
            have : q * b ≤ 4294967295 * 4294967295 := Nat.mul_le_mul (by omega) (by omega)
            omega
          have hbigI : 4294967296 * (r : Int) + (v1 : Int) < (P : Int) := by omega
          clear hq hbig hP
          by_cases hr : 4294967296 ≤ r1
          · have hrI : (4294967296 : Int) ≤ (r1 : Int) := by omega
            have HE := Lib.hid (DInv.far HDS.out HN.out.1 HN.out.2.1 hr HN.out.2.2)
            clear hr
            go_wp2
            go_meet
            exact ⟨by rw [HQ1.out, ← HE.out], rfl⟩
          · have hrI : ¬ (4294967296 : Int) ≤ (r1 : Int) := by omega
            have HR := Lib.hid (show r1 < 4294967296 by omega)
            clear hr
            go_wp2
            go_round
            case rel => exact ⟨q1, r1, rfl, rfl, HN.out.1, HN.out.2.1, HR.out, by have := HN.out.2.2; omega⟩
            case measure => have := HL.out; simp [intOf]; omega
      · have HE := Lib.hid (DInv.stop HI.out hlt)
        have hq : q < 4294967296 := by have := HDS.out.lt; omega
        have hqI : ¬ (4294967296 : Int) ≤ (q : Int) := by omega
        have hsm := mt (DInv.test (u1 := v1) HDS.out I1).1 hlt
        obtain ⟨P, hP⟩ : ∃ P, P = q * b := ⟨_, rfl⟩
        rw [← hP] at hsm
        have hPI : (q : Int) * (b : Int) = (P : Int) := by rw [hP]; simp
        have hPw : (P : Int) ≤ 18446744073709551615 := by
          have : q * b ≤ 4294967295 * 4294967295 := Nat.mul_le_mul (by omega) (by omega)
          omega
        have hsmI : ¬ 4294967296 * (r : Int) + (v1 : Int) < (P : Int) := by omega
        clear hq hlt hP I1 I2 hsm
        go_wp2
        go_meet
        exact ⟨by rw [HQ1.out, ← HE.out], rfl⟩
  case rest =>
    obtain ⟨rfl, rfl⟩ := hcut
    obtain ⟨C1, C2, C3, f1, f2, f3, f4⟩ := HA1.out
    obtain ⟨q, r, P, f5, f6, f7, f8, f9⟩ := HB2.out
    have HIn2 := Lib.hid f9
    have hR1w : (R1 : Int) ≤ 18446744073709551615 := by have := HR1.out; have := HYb.out; omega
    clear f9
    go_upto_block 2 with fail
    clear f1 f2 f3 f4 f5 f6 f7 f8
    go_cut [18] (fun sq wx => sq = .int .u64 (Q0 : Int) ∧ w = wx)
    case first =>
      go_wp2_with fail
      go_loop [18, 16] (fun sq sr => ∃ q r : Nat, sq = .int .u64 (q : Int) ∧ sr = .int .u64 (r : Int) ∧ DInv R1 v0 Y a q r) (fun sq _ => (intOf sq).toNat)
      case atStart => exact ⟨_, _, rfl, rfl, HIn2.out⟩
      case round =>
        obtain ⟨q, r, rfl, rfl, I⟩ := hrel
        have HI := Lib.hid I
        obtain ⟨I1, I2, I3, I4⟩ := I
        have qI : (q : Int) ≤ 4294967297 := by omega
        have rI : (r : Int) < 4294967296 := by omega
        by_cases hlt : (R1 * 4294967296 + v0) / Y < q
        · obtain ⟨d1, d2, d3, d4, d5⟩ := DInv.down HDS2.out HI.out hlt
          have hbig := (DInv.test (u1 := v0) HDS2.out I1).2 hlt
          obtain ⟨q1, hq1⟩ : ∃ q1, q1 = q - 1 := ⟨_, rfl⟩
          obtain ⟨r1, hr1⟩ : ∃ r1, r1 = r + a := ⟨_, rfl⟩
          have q1I : (q : Int) - 1 = (q1 : Int) := by omega
          have r1I : (r : Int) + (a : Int) = (r1 : Int) := by omega
          have r1w : (r1 : Int) ≤ 8589934591 := by omega
          rw [← hq1, ← hr1] at d2
          rw [← hq1] at d3 d4
          have q0I : (1 : Int) ≤ (q : Int) := by omega
          have HN := Lib.hid (And.intro d2 (And.intro d3 d4))
          have HL := Lib.hid (show q1 < q by omega)
          clear I1 I2 hlt d1 d2 d3 d4 d5 hq1 hr1
          by_cases hq : 4294967296 ≤ q
          · have hqI : (4294967296 : Int) ≤ (q : Int) := by omega
            clear hq hbig
            by_cases hr : 4294967296 ≤ r1
            · have hrI : (4294967296 : Int) ≤ (r1 : Int) := by omega
              have HE := Lib.hid (DInv.far HDS2.out HN.out.1 HN.out.2.1 hr HN.out.2.2)
              clear hr
              go_wp2
              go_meet
              exact ⟨by rw [HQ0.out, ← HE.out], rfl⟩
            · have hrI : ¬ (4294967296 : Int) ≤ (r1 : Int) := by omega
              have HR := Lib.hid (show r1 < 4294967296 by omega)
              clear hr
              go_wp2
              go_round
              case rel => exact ⟨q1, r1, rfl, rfl, HN.out.1, HN.out.2.1, HR.out, by have := HN.out.2.2; omega⟩
              case measure => have := HL.out; simp [intOf]; omega
          · have hqI : ¬ (4294967296 : Int) ≤ (q : Int) := by omega
            obtain ⟨P, hP⟩ : ∃ P, P = q * b := ⟨_, rfl⟩
            rw [← hP] at hbig
            have hPI : (q : Int) * (b : Int) = (P : Int) := by rw [hP]; simp
            have hPw : (P : Int) ≤ 18446744073709551615 := by
              have : q * b ≤ 4294967295 * 4294967295 := Nat.mul_le_mul (by omega) (by omega)
              omega
            have hbigI : 4294967296 * (r : Int) + (v0 : Int) < (P : Int) := by omega
            clear hq hbig hP
            by_cases hr : 4294967296 ≤ r1
            · have hrI : (4294967296 : Int) ≤ (r1 : Int) := by omega
              have HE := Lib.hid (DInv.far HDS2.out HN.out.1 HN.out.2.1 hr HN.out.2.2)
              clear hr
              go_wp2
              go_meet
              exact ⟨by rw [HQ0.out, ← HE.out], rfl⟩
            · have hrI : ¬ (4294967296 : Int) ≤ (r1 : Int) := by omega
              have HR := Lib.hid (show r1 < 4294967296 by omega)
              clear hr
              go_wp2
              go_round
              case rel => exact ⟨q1, r1, rfl, rfl, HN.out.1, HN.out.2.1, HR.out, by have := HN.out.2.2; omega⟩
              case measure => have := HL.out; simp [intOf]; omega
        · have HE := Lib.hid (DInv.stop HI.out hlt)
          have hq : q < 4294967296 := by have := HDS2.out.lt; omega
          have hqI : ¬ (4294967296 : Int) ≤ (q : Int) := by omega
          have hsm := mt (DInv.test (u1 := v0) HDS2.out I1).1 hlt
          obtain ⟨P, hP⟩ : ∃ P, P = q * b := ⟨_, rfl⟩
          rw [← hP] at hsm
          have hPI : (q : Int) * (b : Int) = (P : Int) := by rw [hP]; simp
          have hPw : (P : Int) ≤ 18446744073709551615 := by
            have : q * b ≤ 4294967295 * 4294967295 := Nat.mul_le_mul (by omega) (by omega)
            omega
          have hsmI : ¬ 4294967296 * (r : Int) + (v0 : Int) < (P : Int) := by omega
          clear hq hlt hP I1 I2 hsm
          go_wp2
          go_meet
          exact ⟨by rw [HQ0.out, ← HE.out], rfl⟩
    case rest =>
      obtain ⟨rfl, rfl⟩ := hcut
      obtain ⟨C1, C2, C3, f1, f2, f3, f4⟩ := HA2.out
      have f6 := HRes.out.2
      go_wp2_with fail
      go_ret2
      exact ⟨by rw [HRes.out.1]; simp, rfl⟩

end Go.Proofs.Ytdleiiboffkidaa
end

/- ---- Sqrts ---- -/
section
/-
  math/bits.Div64 where the upper half is 0, and Sqrt of 99.
-/
set_option maxRecDepth 100000
namespace Go.Proofs.Ytdleiiboffkidaa
open Go.RowKit

set_option maxRecDepth 100000 in
set_option maxHeartbeats 800000 in
theorem div64_zero (w : World) (m n : Nat) (hm : m ≤ 18446744073709551615) (hn : 0 < n) :
    Calls Try.prog 43 #[.int .u64 0, .int .u64 (m : Int), .int .u64 (n : Int)] w fun e w' => e = .returned (.tuple #[.int .u64 ((m / n : Nat) : Int), .int .u64 ((m % n : Nat) : Int)]) ∧ Ext w w' := by
  obtain ⟨q, hq⟩ : ∃ q, q = m / n := ⟨_, rfl⟩
  obtain ⟨r, hr⟩ : ∃ r, r = m % n := ⟨_, rfl⟩
  have f0 := wrap_quo m n q hm hq
  obtain ⟨f1, f2⟩ := rem_nat m n r hr
  rw [← hq, ← hr]
  have h0 : ((n : Int) == 0) = false := by rw [beq_eq_false_iff_ne]; omega
  have h1 : ¬ n = 0 := by omega
  have h2 : (0 : Int) < (n : Int) := by omega
  clear hq hr hm hn
  go_enter Try.func43, Try.ntmps43
  go_wp2
  go_quiet (fail)
  go_wp2
  go_ret2
  exact ⟨rfl, (Ext.refl w).drewN _⟩

set_option maxRecDepth 100000 in
set_option maxHeartbeats 800000 in
theorem len64_99 (w : World) : Calls Try.prog 99 #[.int .u64 99] w fun e w' => e = .returned (.int .i64 7) ∧ w = w' := by
  go_enter Try.func99, Try.ntmps99
  go_wp2
  go_ret
  exact ⟨ret_int (by kernel_rfl), rfl⟩

theorem div99 (w : World) (K Q R : Int) (k : Nat) (hk : K = k) (h0 : 0 < k) (hQ : Q = ((99 / k : Nat) : Int)) (hR : R = ((99 % k : Nat) : Int)) :
    Calls Try.prog 43 #[.int .u64 0, .int .u64 99, .int .u64 K] w fun e w' => e = .returned (.tuple #[.int .u64 Q, .int .u64 R]) ∧ Ext w w' := by
  subst hk hQ hR
  exact div64_zero w 99 k (by omega) h0

set_option maxHeartbeats 400000 in
theorem split_99 (w : World) (ao : Option Addr) (cap : Nat) (h1 : (limbs 99).length ≤ cap) (h2 : cap ≤ 9223372036854775807) (h3 : Cells w ao (limbs 99)) :
    Calls Try.prog 109 #[.slice ao (limbs 99).length cap] w fun e w' => e = .returned (.tuple #[.int .u64 0, .int .u64 99]) ∧ w = w' := by
  have hv := valueOf_calls w ao (limbs 99) cap h1 h2 h3 (by rw [val_limbs]; omega)
  rw [val_limbs] at hv
  have HV := Lib.hid hv
  have hl : (limbs 99).length = 1 := rfl
  clear hv h1 h3
  go_enter Try.func109, Try.ntmps109
  go_wp2_with fail
  rw [← hl]
  refine HV.out.mono ?_
  rintro e w' ⟨rfl, rfl⟩
  go_wp2
  go_ret2
  exact ⟨rfl, rfl⟩

/-- What Sqrt returns. -/
def RetSq (z : Int) (w : World) (e : Ending) (w' : World) : Prop := ∃ v, e = .returned (.tuple #[v, .int .i64 0]) ∧ IsInt w' v z ∧ Ext w w'
end Go.Proofs.Ytdleiiboffkidaa
end

/- ---- Estim ---- -/
section
/-
  The estimate of a digit of the long division.
-/
set_option maxRecDepth 100000
namespace Go.Proofs.Ytdleiiboffkidaa
open Go.RowKit

theorem div64_any (w : World) (hi lo y : Nat) (hhi : hi < y) (hlo : lo < 18446744073709551616) (hy : y < 18446744073709551616) :
    Calls Try.prog 43 #[.int .u64 (hi : Int), .int .u64 (lo : Int), .int .u64 (y : Int)] w fun e w' =>
      e = .returned (.tuple #[.int .u64 (((hi * 18446744073709551616 + lo) / y : Nat) : Int), .int .u64 (((hi * 18446744073709551616 + lo) % y : Nat) : Int)]) ∧ Ext w w' := by
  rcases Nat.eq_zero_or_pos hi with h | h
  · subst h
    have := div64_zero w lo y (by omega) hhi
    simpa using this
  · exact (div64_calls w hi lo y h hhi hlo hy).mono fun _ _ ⟨h1, h2⟩ => ⟨h1, h2 ▸ Ext.refl w⟩

set_option maxRecDepth 100000 in
set_option maxHeartbeats 800000 in
theorem estimate_calls (w : World) (b off b' off' : Nat) (ps ys : List Nat) (cp cy m : Nat) (hm : ys.length = m + 2) (hl : ps.length = m + 3) (kp : ps.length ≤ cp) (bp : cp ≤ 9223372036854775807) (ky : ys.length ≤ cy) (by_ : cy ≤ 9223372036854775807)
    (hp : Cells w (some ⟨b, off, none⟩) ps) (dp : Dig ps) (hy : Cells w (some ⟨b', off', none⟩) ys) (dy : Dig ys) (hlt : val (ps.drop m) < 1000000001 * val (ys.drop m)) :
    Calls Try.prog 106 #[.slice (some ⟨b, off, none⟩) (m + 3) cp, .slice (some ⟨b', off', none⟩) (m + 2) cy] w fun e w' =>
      e = .returned (.int .u64 ((val (ps.drop m) / val (ys.drop m) : Nat) : Int)) ∧ Ext w w' := by
  have l1 : (ps.drop m).length = 3 := by rw [List.length_drop]; omega
  have l2 : (ys.drop m).length = 2 := by rw [List.length_drop]; omega
  have b1 := val_lt (dp.drop m)
  have b2 := val_lt (dy.drop m)
  rw [l1] at b1
  rw [l2] at b2
  have hs := split_calls w b (off + m) (ps.drop m) (cp - m) (by omega) (by omega) (hp.drop m) (dp.drop m) (by omega) (by omega)
  have hv := valueOf_calls w (some ⟨b', off' + m, none⟩) (ys.drop m) (cy - m) (by omega) (by omega) (hy.drop m) (by omega)
  rw [l1] at hs
  rw [l2] at hv
  have hd := div64_any w (val (ps.drop m) / 18446744073709551616) (val (ps.drop m) % 18446744073709551616) (val (ys.drop m)) (by omega) (by omega) (by omega)
  rw [show val (ps.drop m) / 18446744073709551616 * 18446744073709551616 + val (ps.drop m) % 18446744073709551616 = val (ps.drop m) by omega] at hd
  generalize val (ps.drop m) = p at *
  generalize val (ys.drop m) = y at *
  have HS := Lib.hid hs
  have HV := Lib.hid hv
  have HD := Lib.hid hd
  have k1 : ¬ cp = m := by omega
  have k2 : ¬ cy = m := by omega
  have k3 : (m : Int) + 3 ≤ (cp : Int) := by omega
  have k4 : (m : Int) + 2 ≤ (cy : Int) := by omega
  clear hs hv hd l1 l2 b1 b2 hp hy dp dy hm hl hlt
  go_enter Try.func106, Try.ntmps106
  go_wp2_with fail
  refine HS.out.mono ?_
  rintro e w' ⟨rfl, rfl⟩
  go_wp2_with fail
  refine HV.out.mono ?_
  rintro e w' ⟨rfl, rfl⟩
  go_wp2_with fail
  refine HD.out.mono ?_
  rintro e w' ⟨rfl, e1⟩
  go_wp2_with fail
  go_ret
  exact ⟨by simp, e1⟩

end Go.Proofs.Ytdleiiboffkidaa
end

/- ---- Long ---- -/
section
/-
  The long division: what its loop keeps.
-/
set_option maxRecDepth 100000
namespace Go.Proofs.Ytdleiiboffkidaa
open Go.RowKit

theorem Only.trans {g : Nat} {a b c : World} (h : Only g a b) (k : Only g b c) : Only g a c := fun x zs hx hb => k x zs hx (h x zs hx hb)
theorem Only.ext {g : Nat} {a b : World} (h : Ext a b) : Only g a b := fun _ _ _ hb => hb.ext h
theorem val_take_drop (zs : List Nat) (j n : Nat) (h : j ≤ zs.length) : val (zs.take (j + n)) = val (zs.take j) + 1000000000 ^ j * val ((zs.drop j).take n) := by
  have e : zs.take (j + n) = zs.take j ++ (zs.drop j).take n := by rw [List.take_add]
  rw [e, val_append, List.length_take, Nat.min_eq_left h]
theorem take_eq_of {zs ws : List Nat} {j : Nat} (hl : ws.length = zs.length) (h : ∀ i, i < j → ws.getD i 0 = zs.getD i 0) : ws.take j = zs.take j := by
  apply List.ext_getElem?
  intro i
  rw [List.getElem?_take, List.getElem?_take]
  by_cases hi : i < j
  · rw [if_pos hi, if_pos hi]
    have := h i hi
    by_cases h1 : i < zs.length
    · have h2 : i < ws.length := by omega
      rw [List.getD_eq_getElem?_getD, List.getD_eq_getElem?_getD, List.getElem?_eq_getElem h1, List.getElem?_eq_getElem h2] at this
      rw [List.getElem?_eq_getElem h1, List.getElem?_eq_getElem h2]
      simpa using this
    · rw [List.getElem?_eq_none (by omega), List.getElem?_eq_none (by omega)]
  · rw [if_neg hi, if_neg hi]

/-- What the loop of divideLong keeps: block g holds what is left, block g + 1 the digits so far. -/
def LongRel (w : World) (g : Nat) (xs ys : List Nat) (k : Nat) (zs qs : List Nat) (wr : World) : Prop :=
  zs.length = xs.length + 1 ∧ Dig zs ∧ Blk wr g zs ∧ qs.length + ys.length = xs.length + 1 ∧ Dig qs ∧ Blk wr (g + 1) qs ∧ Ext w wr ∧
    val xs = val (zs.take (k + ys.length)) + val ys * (1000000000 ^ k * val (qs.drop k)) ∧ val ((zs.drop k).take ys.length) < val ys
section
variable {w : World} {g : Nat} {xs ys : List Nat} {k : Nat} {zs qs : List Nat} {wr : World}
/-- The part of a round, and its quotient. -/
theorem LongRel.part (h : LongRel w g xs ys (k + 1) zs qs wr) (hk : k + 1 + ys.length ≤ xs.length + 1) :
    val ((zs.drop k).take (ys.length + 1)) < 1000000000 * val ys ∧ val ((zs.drop k).take (ys.length + 1)) = val ((zs.drop k).take ys.length) + 1000000000 ^ ys.length * zs.getD (k + ys.length) 0 := by
  obtain ⟨h1, h2, h3, h4, h5, h6, h7, h8, h9⟩ := h
  refine ⟨?_, ?_⟩
  · have e : (zs.drop k).take (ys.length + 1) = zs.getD k 0 :: (zs.drop (k + 1)).take ys.length := by
      rw [drop_getD zs k (by omega), List.take_succ_cons]
    rw [e, val]
    have := h2 k
    omega
  · rw [val_take_succ', getD_drop]
theorem LongRel.step (h : LongRel w g xs ys (k + 1) zs qs wr) (hg : w.heap.size ≤ g) (hk : k + 1 + ys.length ≤ xs.length + 1) {ws : List Nat} {w2 : World} (l : ws.length = zs.length) (d : Dig ws) (b : Blk w2 g ws) (e : Ext w w2) (o : Only g wr w2)
    (hlow : ∀ i, i < k → ws.getD i 0 = zs.getD i 0) (hr : val ((ws.drop k).take ys.length) = val ((zs.drop k).take (ys.length + 1)) % val ys) (q : Nat) (hq : q = val ((zs.drop k).take (ys.length + 1)) / val ys) {V : Int} (hV : V = q) :
    LongRel w g xs ys k ws (qs.set k q) (w2.setCell ⟨g + 1, k, none⟩ (.int .u32 V)) := by
  obtain ⟨hp1, hp2⟩ := h.part hk
  obtain ⟨h1, h2, h3, h4, h5, h6, h7, h8, h9⟩ := h
  have hy : 0 < val ys := by omega
  have hq1 : q < 1000000000 := by rw [hq]; exact Nat.div_lt_of_lt_mul (by rw [Nat.mul_comm]; exact hp1)
  have hb2 := o (g + 1) qs (by omega) h6
  refine ⟨by omega, d, b.far (p := ⟨g + 1, k, none⟩) (Nat.ne_of_lt (Nat.lt_succ_self g)) _, by simpa using h4, h5.set k hq1, hb2.set' k q (by omega) hV, e.setCell (p := ⟨g + 1, k, none⟩) (Nat.le_succ_of_le hg) _, ?_, ?_⟩
  · rw [h8]
    have e1 : k + 1 + ys.length = k + (ys.length + 1) := by omega
    rw [e1, val_take_drop zs k _ (by omega), val_take_drop ws k _ (by omega), take_eq_of l hlow, hr]
    have e2 := val_drop (qs.set k q) k (by rw [List.length_set]; omega)
    have e3 : (qs.set k q).getD k 0 = q := by simp [List.getD_eq_getElem?_getD, show k < qs.length by omega]
    have e4 : (qs.set k q).drop (k + 1) = qs.drop (k + 1) := by rw [List.drop_set_of_lt (by omega)]
    rw [e3, e4] at e2
    rw [e2]
    have e5 := Nat.div_add_mod (val ((zs.drop k).take (ys.length + 1))) (val ys)
    rw [← hq] at e5
    rw [Nat.pow_succ]
    generalize val ((zs.drop k).take (ys.length + 1)) % val ys = r at *
    generalize val ((zs.drop k).take (ys.length + 1)) = p at *
    generalize val (qs.drop (k + 1)) = Q at *
    generalize val ys = Y at *
    generalize 1000000000 ^ k = B at *
    generalize val (zs.take k) = L at *
    rw [← e5]
    simp only [Nat.mul_add]
    have m1 : B * (Y * q) = Y * (B * q) := Nat.mul_left_comm _ _ _
    have m2 : Y * (B * 1000000000 * Q) = Y * (B * (1000000000 * Q)) := by rw [Nat.mul_assoc B]
    omega
  · rw [hr]; exact Nat.mod_lt _ hy
theorem LongRel.done (h : LongRel w g xs ys 0 zs qs wr) : val xs / val ys = val qs ∧ val xs % val ys = val (zs.take ys.length) := by
  obtain ⟨h1, h2, h3, h4, h5, h6, h7, h8, h9⟩ := h
  rw [List.drop_zero] at h9
  rw [Nat.zero_add, Nat.pow_zero, Nat.one_mul, List.drop_zero] at h8
  exact (Nat.div_mod_unique (by omega)).2 ⟨by omega, h9⟩
end
/-- The numbers of a round of divideLong. -/
theorem long_est {ps ys : List Nat} {m : Nat} (hp : ps.length = m + 3) (hy : ys.length = m + 2) (dp : Dig ps) (dy : Dig ys) (hlt : val ps < 1000000000 * val ys) (htop : ys.getD (m + 1) 0 ≠ 0) :
    val (ps.drop m) < 1000000001 * val (ys.drop m) ∧ val ps / val ys ≤ val (ps.drop m) / val (ys.drop m) ∧ val (ps.drop m) / val (ys.drop m) ≤ val ps / val ys + 1 ∧ val (ps.drop m) / val (ys.drop m) ≤ 1000000000 := by
  have e1 := val_split ps m (by omega)
  have e2 := val_split ys m (by omega)
  have b1 := val_lt (dp.take m)
  have b2 := val_lt (dy.take m)
  rw [List.length_take, Nat.min_eq_left (by omega)] at b1 b2
  have b3 : 1000000000 ≤ val (ys.drop m) := by
    rw [val_drop ys m (by omega), val_drop ys (m + 1) (by omega)]
    omega
  have := est_bounds (D := 1000000000 ^ m) (p3 := val (ps.drop m)) (p0 := val (ps.take m)) (y2 := val (ys.drop m)) (y0 := val (ys.take m)) (B := 1000000000) (Nat.pow_pos (by omega)) b1 b2 b3 (by omega)
    (by rw [Nat.mul_comm _ (1000000000 ^ m), Nat.mul_comm _ (1000000000 ^ m)]; omega)
  rw [Nat.mul_comm _ (1000000000 ^ m), Nat.mul_comm _ (1000000000 ^ m), Nat.add_comm (1000000000 ^ m * _), Nat.add_comm (1000000000 ^ m * _), ← e1, ← e2] at this
  exact this
/-- Where the estimate was too great, one lacks. -/
theorem over_lacks {N low low' t c q Y r : Nat} (hN : 0 < N) (hY : Y ≤ N) (hr : r < Y) (hP : low + N * t = q * Y + r) (hl : low' < N) (h : low' + (q + 1) * Y = low + N * c) : t < c :=
  (round_over hY hr hP hl h (low2 := (low' + Y) % N) (c2 := (low' + Y) / N) (Nat.mod_lt _ hN) (by have := Nat.div_add_mod (low' + Y) N; omega)).1

end Go.Proofs.Ytdleiiboffkidaa
end

/- ---- Longw ---- -/
section
/-
  The long division.
-/
set_option maxRecDepth 100000
namespace Go.Proofs.Ytdleiiboffkidaa
open Go.RowKit
set_option maxRecDepth 100000

/-- A list is copied to the beginning of a block that has just been made. -/
theorem copy_fresh (hsz : (Try.prog.info? 67).map (·.size) = some 1) (b off cx : Nat) (xs : List Nat) (n : Nat) (h0 : 0 < xs.length) (w : World) (hx : Cells w (some ⟨b, off, none⟩) xs) :
    ∃ W2, (Builtin.copy_ #[22, 22] 3 #[.slice (some ⟨w.heap.size, 0, none⟩) (xs.length + n) (xs.length + n), .slice (some ⟨b, off, none⟩) xs.length cx]).run Try.prog (w.alloc (.cells (u32s (List.replicate (xs.length + n) 0)) 67)) = .ok (goInt xs.length) W2 ∧
      Ext w W2 ∧ Hid (W2.heap.size = w.heap.size + 1 ∧ Blk W2 w.heap.size (xs ++ List.replicate n 0)) := by
  obtain ⟨b', off', he, hc⟩ := hx.at_ h0
  injection he with he
  injection he with h1 h2
  subst h1 h2
  have hg0 : (w.alloc (.cells (u32s (List.replicate (xs.length + n) 0)) 67)).heap[w.heap.size]? = some (.cells (u32s (List.replicate (xs.length + n) 0)) 67 (0, 0)) := by
    show (w.heap.push _)[w.heap.size]? = _
    rw [Array.getElem?_push_size]
  have eA : Ext w (w.alloc (.cells (u32s (List.replicate (xs.length + n) 0)) 67)) := (Ext.refl w).alloc _
  have hrun := run_copy_row (P := Try.prog) (w.alloc (.cells (u32s (List.replicate (xs.length + n) 0)) 67)) 22 22 3 67 w.heap.size 0 (xs.length + n) (xs.length + n) ⟨b, off, none⟩ xs.length cx
    (u32s (List.replicate (xs.length + n) 0)) 67 (u32s xs).toList Try.underlying22 hsz hg0 (by simp [u32s]) ?_ (by simp [u32s]) (by simp [u32s, Value.oneCell'])
  · have hl : (u32s xs).toList.length = xs.length := by simp [u32s]
    rw [hl] at hrun
    refine ⟨_, hrun, below_setRow eA (Nat.le_refl _) _, ?_⟩
    refine ⟨by simp [World.setRow], #[], ?_⟩
    rw [setRow_heap _ _ _ _ _ _ hg0, Array.append_empty]
    congr 2
    apply Array.toList_inj.1
    simp [u32s]
  · intro j v hj
    have hjl : j < xs.length := by
      rcases Nat.lt_or_ge j xs.length with h | h
      · exact h
      · rw [List.getElem?_eq_none (by simp [u32s]; omega)] at hj; cases hj
    have h3 := eA.cell (hc j hjl)
    have h4 := u32s_at xs j hjl
    rw [← Array.getElem?_toList, hj] at h4
    injection h4 with h4
    rw [h4]
    have e : ((⟨b, off, none⟩ : Addr).add j) = ⟨b, off + j, none⟩ := by unfold Addr.add; split <;> simp_all
    rw [e]
    exact h3

theorem Cells.dropAt {w : World} {g : Nat} {zs : List Nat} (h : Cells w (some ⟨g, 0, none⟩) zs) (k : Nat) : Cells w (some ⟨g, k, none⟩) (zs.drop k) := by
  have := h.drop k
  rwa [Nat.zero_add] at this
theorem long_round {w : World} {g : Nat} {xs ys : List Nat} {k m : Nat} {zs qs : List Nat} {wr : World} (h : LongRel w g xs ys (k + 1) zs qs wr) (hm : ys.length = m + 2) (htop : ys.getD (m + 1) 0 ≠ 0) (dy : Dig ys) (hk : k + 1 + ys.length ≤ xs.length + 1) :
    ((zs.drop k).take (ys.length + 1)).length = m + 3 ∧
    (val (((zs.drop k).take (ys.length + 1)).drop m) < 1000000001 * val (ys.drop m) ∧ val ((zs.drop k).take (ys.length + 1)) / val ys ≤ val (((zs.drop k).take (ys.length + 1)).drop m) / val (ys.drop m) ∧
      val (((zs.drop k).take (ys.length + 1)).drop m) / val (ys.drop m) ≤ val ((zs.drop k).take (ys.length + 1)) / val ys + 1 ∧ val (((zs.drop k).take (ys.length + 1)).drop m) / val (ys.drop m) ≤ 1000000000) := by
  have hl : ((zs.drop k).take (ys.length + 1)).length = m + 3 := by
    have := h.1
    rw [List.length_take, List.length_drop]; omega
  exact ⟨hl, long_est hl hm ((h.2.1.drop k).take _) dy (h.part hk).1 htop⟩

section
variable {w : World} {g : Nat} {xs ys : List Nat} {k q c : Nat} {zs qs ws : List Nat} {wr w1 w2 : World}
theorem low_lt {ws : List Nat} {n : Nat} (d : Dig ws) (h : k + n ≤ ws.length) : val ((ws.drop k).take n) < 1000000000 ^ n := by
  have := val_lt ((d.drop k).take n)
  rwa [List.length_take, List.length_drop, Nat.min_eq_left (by omega)] at this
theorem long_exact (h : LongRel w g xs ys (k + 1) zs qs wr) (hk : k + 1 + ys.length ≤ xs.length + 1) (dy : Dig ys) (hM : MS w w1 g zs k ys q ys.length c ws w2) (hq : q = val ((zs.drop k).take (ys.length + 1)) / val ys) :
    decide (zs.getD (k + ys.length) 0 < c) = false ∧ val ((ws.drop k).take ys.length) = val ((zs.drop k).take (ys.length + 1)) % val ys := by
  obtain ⟨hp1, hp2⟩ := h.part hk
  have hl := h.1
  obtain ⟨m1, m2, m3, m4, m5, m6, m7, m8⟩ := hM
  rw [List.take_of_length_le (Nat.le_refl ys.length)] at m7
  have e := Nat.div_add_mod (val ((zs.drop k).take (ys.length + 1))) (val ys)
  have hr := Nat.mod_lt (val ((zs.drop k).take (ys.length + 1))) (show 0 < val ys by omega)
  rw [← hq, hp2, Nat.mul_comm] at e
  rw [hp2] at hr
  have := round_eq (Nat.le_of_lt (val_lt dy)) hr e.symm (low_lt m2 (by omega)) m7
  rw [hp2]
  exact ⟨decide_eq_false (by omega), this.2⟩
theorem long_over (h : LongRel w g xs ys (k + 1) zs qs wr) (hk : k + 1 + ys.length ≤ xs.length + 1) (dy : Dig ys) (hM : MS w w1 g zs k ys q ys.length c ws w2) (hq : q = val ((zs.drop k).take (ys.length + 1)) / val ys + 1) :
    decide (zs.getD (k + ys.length) 0 < c) = true ∧ ∀ c2 us w3, AB w w2 g ws k ys ys.length c2 us w3 → val ((us.drop k).take ys.length) = val ((zs.drop k).take (ys.length + 1)) % val ys := by
  obtain ⟨hp1, hp2⟩ := h.part hk
  have hl := h.1
  obtain ⟨m1, m2, m3, m4, m5, m6, m7, m8⟩ := hM
  rw [List.take_of_length_le (Nat.le_refl ys.length)] at m7
  have e := Nat.div_add_mod (val ((zs.drop k).take (ys.length + 1))) (val ys)
  have hr := Nat.mod_lt (val ((zs.drop k).take (ys.length + 1))) (show 0 < val ys by omega)
  rw [hp2, Nat.mul_comm] at e
  rw [hp2] at hr hq ⊢
  generalize (val ((zs.drop k).take ys.length) + 1000000000 ^ ys.length * zs.getD (k + ys.length) 0) / val ys = Q at *
  subst hq
  refine ⟨decide_eq_true (over_lacks (Nat.pow_pos (by omega)) (Nat.le_of_lt (val_lt dy)) hr e.symm (low_lt m2 (by omega)) m7), ?_⟩
  intro c2 us w3 hA
  obtain ⟨a1, a2, a3, a4, a5, a6, a7, a8⟩ := hA
  rw [List.take_of_length_le (Nat.le_refl ys.length)] at a7
  exact (round_over (Nat.le_of_lt (val_lt dy)) hr e.symm (low_lt m2 (by omega)) m7 (low_lt a2 (by omega)) a7).2
end

set_option maxRecDepth 100000 in
set_option maxHeartbeats 1600000 in
theorem divideLong_calls (w : World) (b off b' off' : Nat) (xs ys : List Nat) (cx cy m : Nat) (hm : ys.length = m + 2) (hxy : ys.length ≤ xs.length) (lx : xs.length ≤ 1048576) (kx : xs.length ≤ cx) (bx : cx ≤ 9223372036854775807) (ky : ys.length ≤ cy) (by_ : cy ≤ 9223372036854775807)
    (hx : Cells w (some ⟨b, off, none⟩) xs) (dx : Dig xs) (hy : Cells w (some ⟨b', off', none⟩) ys) (dy : Dig ys) (htop : ys.getD (m + 1) 0 ≠ 0) :
    Calls Try.prog 104 #[.slice (some ⟨b, off, none⟩) xs.length cx, .slice (some ⟨b', off', none⟩) ys.length cy] w (Ret2 (IsLimbs (val xs / val ys)) (IsLimbs (val xs % val ys)) w) := by
  have hmk := run_mk (xs.length + 1) (by omega) (↑xs.length + 1) (by omega)
  obtain ⟨L, hL⟩ : ∃ L, L + ys.length = xs.length + 1 := ⟨xs.length + 1 - ys.length, by omega⟩
  have hmk2 := run_mk L (by omega) (↑xs.length - ↑ys.length + 1) (by omega)
  have HL := Lib.hid hL
  have hLw : (L : Int) ≤ 1048577 := by omega
  have hL1 : (1 : Int) ≤ (L : Int) := by omega
  have hxyI : (ys.length : Int) ≤ (xs.length : Int) := by omega
  have HM := Lib.hid hm
  have HX := Lib.hid hx
  have hx0 : 0 < xs.length := by omega
  obtain ⟨i0, hi, hz0, hz1, hz2⟩ := info_parts info_u32
  have HSZ := Lib.hid (show (Try.prog.info? 67).map (·.size) = some 1 by rw [hi]; exact congrArg some hz1)
  clear hm hL i0 hi hz0 hz1 hz2
  obtain ⟨W2, hcp, e2, HB⟩ := copy_fresh HSZ.out b off cx xs 1 hx0 w hx
  go_enter Try.func104, Try.ntmps104
  go_upto_region 3 with fail
  clear hmk
  go_upto_region 4 with fail
  clear hcp
  have hB := HB.out
  have hgs : W2.heap.size = w.heap.size + 1 := hB.1
  have HBX := Lib.hid hB.2
  have HGS := Lib.hid hgs
  clear hB HB
  go_upto_region 5 with fail
  clear hmk2 hgs
  have h0 : LongRel w w.heap.size xs ys L (xs ++ [0]) (List.replicate L 0) (W2.alloc (.cells (u32s (List.replicate L 0)) 67)) := by
    have hbq := Blk.new W2 (List.replicate L 0)
    rw [HGS.out] at hbq
    refine ⟨by simp, dx.append (Dig.cons (by omega) Dig.nil), HBX.out.alloc _, by rw [List.length_replicate]; exact HL.out, Dig.replicate _, hbq, e2.alloc _, ?_, ?_⟩
    · have hl := HL.out
      rw [List.take_of_length_le (by simp; omega), List.drop_of_length_le (by simp), val_append]
      simp [val]
    · have hl := HL.out
      have hd : (xs ++ [0]).drop L = xs.drop L ++ [0] := by rw [List.drop_append_of_le_length (by have := HM.out; omega)]
      rw [hd, List.take_of_length_le (by have := HM.out; simp; omega), val_append]
      have h1 := val_lt (dx.drop L)
      rw [List.length_drop, show xs.length - L = m + 1 by have := HM.out; omega] at h1
      have h2 := val_split ys (m + 1) (by have := HM.out; omega)
      rw [val_drop ys (m + 1) (by have := HM.out; omega)] at h2
      have h3 : 1000000000 ^ (m + 1) * 1 ≤ 1000000000 ^ (m + 1) * (ys.getD (m + 1) 0 + 1000000000 * val (ys.drop (m + 1 + 1))) := Nat.mul_le_mul_left _ (by omega)
      simp only [val]
      omega
  have H0 := Lib.hid h0
  clear h0
  go_wp2
  go_loopw [9, 10, 11] (fun j _ _ wr => ∃ (k : Nat) (zs qs : List Nat), k ≤ L ∧ j = .int .i64 ((k : Int) - 1) ∧ LongRel w w.heap.size xs ys k zs qs wr) (fun j _ _ _ => (intOf j + 1).toNat)
  case atStart => exact ⟨L, _, _, Nat.le_refl _, by go_num, H0.out⟩
  case round =>
    obtain ⟨k, zs, qs, hk, rfl, hR⟩ := hrel
    clear H0 HBX HGS e2
    rcases k with _ | k
    · have HD := Lib.hid hR.done
      have H1 := Lib.hid hR.1
      have H4 := Lib.hid hR.2.2.2.1
      have hE := hR.2.2.2.2.2.2.1
      have hq : qs.length = L := by have := HL.out; have := H4.out; omega
      have hz : (zs.take ys.length).length = ys.length := by rw [List.length_take]; have := H1.out; omega
      have t1 := fun n => quiet_eq (P := Try.prog) (n := n) (trim_calls (wr.drewN n) (some ⟨w.heap.size + 1, 0, none⟩) qs L (by omega) (by omega) (hR.2.2.2.2.2.1.ext ((Ext.refl wr).drewN n)).cells hR.2.2.2.2.1)
      have t2 := fun n => quiet_eq (P := Try.prog) (n := n) (trim_calls (wr.drewN n) (some ⟨w.heap.size, 0, none⟩) (zs.take ys.length) (xs.length + 1) (by omega) (by omega) ((hR.2.2.1.ext ((Ext.refl wr).drewN n)).cells.take ys.length) (hR.2.1.take _))
      have hf1 := hR.2.2.2.2.2.1.cells.trim hR.2.2.2.2.1
      have hf2 := (hR.2.2.1.cells.take ys.length).trim (hR.2.1.take _)
      have hf3 : (limbs (val qs)).length ≤ L := by rw [← trimN_length hR.2.2.2.2.1]; have := trimN_le qs qs.length; omega
      have hf4 : (limbs (val (zs.take ys.length))).length ≤ xs.length + 1 := by rw [← trimN_length (hR.2.1.take _)]; have := trimN_le (zs.take ys.length) (zs.take ys.length).length; omega
      rw [hq] at t1
      rw [hz] at t2
      rw [← HD.out.1] at t1 hf1 hf3
      rw [← HD.out.2] at t2 hf2 hf4
      have T1 := Lib.hid t1
      have T2 := Lib.hid t2
      have F := Lib.hid (And.intro hf1 (And.intro hf2 (And.intro hf3 hf4)))
      clear hR hq hz t1 t2 hf1 hf2 hf3 hf4
      go_wp2_with fail
      go_quiet ((first | (go_at_call 105; with_reducible exact T1.out _) | (go_at_call 105; with_reducible exact T2.out _)))
      go_wp2
      go_ret2
      exact ⟨_, _, rfl, ⟨_, _, rfl, F.out.2.2.1, by omega, F.out.1.ext ((Ext.refl wr).drewN _)⟩, ⟨_, _, rfl, F.out.2.2.2, by omega, F.out.2.1.ext ((Ext.refl wr).drewN _)⟩, hE.drewN _⟩
    · have HR := Lib.hid hR
      have ek : ((k + 1 : Nat) : Int) - 1 = (k : Int) := by omega
      rw [ek]
      have hk1 : (k : Int) + (ys.length : Int) ≤ (xs.length : Int) := by have := HL.out; omega
      have hk2 : k + ys.length + 1 - k = ys.length + 1 := by omega
      have hkL : k < L := by omega
      have HS := Lib.hid (long_round hR HM.out htop dy (by have := HL.out; omega))
      clear hR ek
      go_upto_region 9 with fail
      have HK := Lib.hid hk2
      clear hk2
      obtain ⟨hps, hest⟩ := HS.out
      have hE := estimate_calls wr w.heap.size k b' off' _ ys (xs.length + 1 - k) cy m HM.out hps (by rw [hps]; have := HL.out; have := HM.out; omega) (by omega) ky by_ ((HR.out.2.2.1.cells.dropAt k).take (ys.length + 1)) ((HR.out.2.1.drop k).take _) (hy.ext HR.out.2.2.2.2.2.2.1) dy hest.1
      rw [← HM.out, show m + 3 = ys.length + 1 by have := HM.out; omega] at hE
      obtain ⟨q, hq⟩ : ∃ q, q = val (((zs.drop k).take (ys.length + 1)).drop m) / val (ys.drop m) := ⟨_, rfl⟩
      rw [← hq] at hE hest
      rw [← HK.out] at hE
      have HE := Lib.hid hE
      have HEst := Lib.hid hest.2
      have hqI : (q : Int) ≤ 1000000000 := by have := hest.2.2.2; omega
      clear hE hest hps HS hq
      go_wp2_with fail
      refine HE.out.mono ?_
      rintro e w1 ⟨rfl, e1⟩
      clear HE
      have hSub := subtractMultiple_calls w w1 w.heap.size zs k (some ⟨b', off', none⟩) ys (xs.length + 1 - k) cy q (Nat.le_refl _) (HR.out.2.2.1.ext e1) HR.out.2.1 (HR.out.2.2.2.2.2.2.1.trans e1) hy dy (by rw [HR.out.1]; have := HL.out; omega) (by rw [HR.out.1]; omega) HEst.out.2.2
      rw [← HK.out] at hSub
      have HSub := Lib.hid hSub
      clear hSub
      go_wp2_with fail
      refine HSub.out.mono ?_
      rintro e w2 ⟨c, ws, rfl, hMS⟩
      clear HSub
      have HMS := Lib.hid hMS
      clear hMS
      rcases (show q = val ((zs.drop k).take (ys.length + 1)) / val ys ∨ q = val ((zs.drop k).take (ys.length + 1)) / val ys + 1 by have := HEst.out; omega) with hex | hex
      · obtain ⟨d1, d2⟩ := long_exact HR.out (by have := HL.out; omega) dy HMS.out hex
        have hst := HR.out.step (Nat.le_refl _) (by have := HL.out; omega) HMS.out.1 HMS.out.2.1 HMS.out.2.2.1 HMS.out.2.2.2.1 ((Only.ext e1).trans HMS.out.2.2.2.2.1) (fun i hi => HMS.out.2.2.2.2.2.1 i (.inl hi)) d2 q hex (V := (q : Int)) rfl
        have HST := Lib.hid hst
        have hbq := HMS.out.2.2.2.2.1 (w.heap.size + 1) qs (by omega) (HR.out.2.2.2.2.2.1.ext e1)
        have hzc := hbq.cell k (by have := HR.out.2.2.2.1; have := HL.out; omega)
        have hzf := hbq.frozen k
        rw [d1]
        clear d1 d2 hex hst hbq
        go_wp2
        go_roundw
        case rel => exact ⟨k, _, _, by omega, by go_num, HST.out⟩
        case measure => simp [intOf]
      · obtain ⟨d1, d2⟩ := long_over HR.out (by have := HL.out; omega) dy HMS.out hex
        have D2 := Lib.hid d2
        have HEX := Lib.hid hex
        rw [d1]
        clear d1 d2 hex
        have hAdd := addBack_calls w w2 w.heap.size ws k (some ⟨b', off', none⟩) ys (xs.length + 1 - k) cy (Nat.le_refl _) HMS.out.2.2.1 HMS.out.2.1 HMS.out.2.2.2.1 hy dy (by have := HMS.out.1; have := HR.out.1; have := HL.out; omega) (by have := HMS.out.1; have := HR.out.1; omega)
        rw [← HK.out] at hAdd
        have HAdd := Lib.hid hAdd
        obtain ⟨q1, hq1⟩ : ∃ q1, q1 = q - 1 := ⟨_, rfl⟩
        have hqn : 1 ≤ q := by rw [HEX.out]; exact Nat.le_add_left 1 _
        have hqq : (1 : Int) ≤ (q : Int) := by omega
        have hq1I : (q : Int) - 1 = (q1 : Int) := by omega
        have HQ1 := Lib.hid (show q1 = val ((zs.drop k).take (ys.length + 1)) / val ys by have := HEX.out; omega)
        have hq1w : (q1 : Int) ≤ 1000000000 := by omega
        clear hAdd hq1
        go_wp2_with fail
        refine HAdd.out.mono ?_
        rintro e w3 ⟨c2, us, rfl, hAB⟩
        have HAB := Lib.hid hAB
        have hst := HR.out.step (Nat.le_refl _) (by have := HL.out; omega) (hAB.1.trans HMS.out.1) hAB.2.1 hAB.2.2.1 hAB.2.2.2.1 (((Only.ext e1).trans HMS.out.2.2.2.2.1).trans hAB.2.2.2.2.1) (fun i hi => (hAB.2.2.2.2.2.1 i (.inl hi)).trans (HMS.out.2.2.2.2.2.1 i (.inl hi))) (D2.out _ _ _ hAB) q1 HQ1.out (V := (q1 : Int)) rfl
        have HST := Lib.hid hst
        have hbq := hAB.2.2.2.2.1 (w.heap.size + 1) qs (by omega) (HMS.out.2.2.2.2.1 (w.heap.size + 1) qs (by omega) (HR.out.2.2.2.2.2.1.ext e1))
        have hzc := hbq.cell k (by have := HR.out.2.2.2.1; have := HL.out; omega)
        have hzf := hbq.frozen k
        clear hAB hst hbq HAdd
        go_wp2
        go_roundw
        case rel => exact ⟨k, _, _, by omega, by go_num, HST.out⟩
        case measure => simp [intOf]

end Go.Proofs.Ytdleiiboffkidaa
end

/- ---- Divok ---- -/
section
/-
  The division of limbs, in all cases.
-/
set_option maxRecDepth 100000
namespace Go.Proofs.Ytdleiiboffkidaa
open Go.RowKit

theorem limbs_top {n m : Nat} (h : (limbs n).length = m + 2) : (limbs n).getD (m + 1) 0 ≠ 0 := by
  have := limbs_last n (by intro e; rw [e] at h; simp at h)
  rwa [h, show m + 2 - 1 = m + 1 by omega] at this

set_option maxRecDepth 100000 in
set_option maxHeartbeats 800000 in
theorem divOK_long (m n : Nat) (lx : (limbs m).length ≤ 1048576) (h : 2 < (limbs m).length) (hn : 2 ≤ (limbs n).length) (hmn : (limbs n).length ≤ (limbs m).length) : DivOK m n := by
  intro w ax ay cx cy kx ky bx by_ hx hy
  obtain ⟨k, hk⟩ : ∃ k, (limbs n).length = k + 2 := ⟨(limbs n).length - 2, by omega⟩
  obtain ⟨b, off, rfl, _⟩ := hx.at_ (by omega)
  obtain ⟨b', off', rfl, _⟩ := hy.at_ (by omega)
  have hcall := divideLong_calls w b off b' off' (limbs m) (limbs n) cx cy k hk hmn lx kx bx ky by_ hx (dig_limbs m) hy (dig_limbs n) (limbs_top hk)
  rw [val_limbs, val_limbs] at hcall
  have HS := Lib.hid hcall
  have l0 : ¬ ((limbs m).length : Int) < ((limbs n).length : Int) := by omega
  have l1 : decide (((limbs m).length : Int) ≤ 2) = false := decide_eq_false (by omega)
  have l2 : (((limbs n).length : Int) == 1) = false := by rw [beq_eq_false_iff_ne]; omega
  clear hcall hk h hn hmn kx ky bx by_ hx hy lx
  go_enter Try.func93, Try.ntmps93
  go_wp2_with fail
  refine HS.out.mono ?_
  rintro e w1 ⟨v1, v2, rfl, hv1, hv2, e1⟩
  obtain ⟨a1, c1, rfl, k1, k2, k3⟩ := hv1
  obtain ⟨a2, c2, rfl, j1, j2, j3⟩ := hv2
  go_wp2
  go_ret2
  exact ⟨_, _, rfl, ⟨a1, c1, rfl, k1, k2, k3⟩, ⟨a2, c2, rfl, j1, j2, j3⟩, e1⟩

theorem divOK (m n : Nat) (lx : (limbs m).length ≤ 1048576) (hn : 0 < n) : DivOK m n := by
  have hl := limbs_pos hn
  by_cases h1 : (limbs m).length < (limbs n).length
  · exact divOK_less m n lx h1
  by_cases h2 : (limbs m).length ≤ 2
  · exact divOK_small m n h1 h2 (by omega)
  by_cases h3 : (limbs n).length = 1
  · exact divOK_short m n lx (by omega) h3
  exact divOK_long m n lx (by omega) (by omega) (by omega)

/-- What DivMod returns: the quotient, rounded down, and what is left. -/
theorem divMod_any (w : World) (v1 v2 : Value) (z1 z2 : Int) (h : IsInt w v1 z1) (k : IsInt w v2 z2) (l1 : Sm z1) (l2 : Sm z2) (hz2 : z2 ≠ 0) :
    Calls Try.prog 74 #[v1, v2] w (RetDM z1 z2 w) :=
  divMod_calls w v1 v2 z1 z2 h k l1 l2 hz2 (divOK _ _ l1 (by omega))

end Go.Proofs.Ytdleiiboffkidaa
end
