/-
  Valid, Small, small and cp: what the statements ask of their arguments.
-/
import Derived.Test.YtfjaboolfjgleaaRint
namespace Go.Proofs.Ytfjaboolfjgleaa
open Go.RowKit

/-- A struct that may be no valid integer. -/
def Raw (w : World) (v : Value) (neg : Bool) (xs : List Nat) : Prop :=
  ∃ ao cap, v = .agg #[.bool neg, .slice ao xs.length cap] ∧ xs.length ≤ cap ∧ cap ≤ 9223372036854775807 ∧ Cells w ao xs
theorem Raw.ext {w w' : World} {v : Value} {neg : Bool} {xs : List Nat} (h : Raw w v neg xs) (e : Ext w w') : Raw w' v neg xs := by
  obtain ⟨ao, cap, h1, h2, h3, h4⟩ := h
  exact ⟨ao, cap, h1, h2, h3, h4.ext e⟩
def allB (xs : List Nat) : Bool := xs.all fun x => decide (x < 1000000000)
theorem allB_dig {xs : List Nat} : allB xs = true ↔ Dig xs := by
  unfold allB
  rw [dig_iff, List.all_eq_true]
  constructor
  · intro h i hi
    have := h xs[i] (List.getElem_mem hi)
    rw [List.getD_eq_getElem?_getD, List.getElem?_eq_getElem hi]
    simpa using this
  · intro h x hx
    obtain ⟨i, hi, rfl⟩ := List.mem_iff_getElem.1 hx
    have := h i hi
    rw [List.getD_eq_getElem?_getD, List.getElem?_eq_getElem hi] at this
    simpa using this
/-- The valid integers. -/
def okB (neg : Bool) (xs : List Nat) : Bool := allB xs && (if xs.length = 0 then !neg else !(xs.getD (xs.length - 1) 0 == 0))
theorem okB_bad {neg : Bool} {xs : List Nat} {i : Nat} (hi : 1000000000 ≤ xs.getD i 0) : okB neg xs = false := by
  unfold okB
  have : allB xs = false := by
    rw [Bool.eq_false_iff]; intro h; have := allB_dig.1 h i; omega
  rw [this]; rfl
theorem okB_nil (neg : Bool) : okB neg [] = !neg := by simp [okB, allB]
theorem okB_dig {neg : Bool} {xs : List Nat} (hd : Dig xs) (h0 : 0 < xs.length) : okB neg xs = !(xs.getD (xs.length - 1) 0 == 0) := by
  unfold okB; rw [allB_dig.2 hd, if_neg (by omega)]; rfl
theorem okB_int {w : World} {v : Value} {neg : Bool} {xs : List Nat} (h : Raw w v neg xs) (hk : okB neg xs = true) : IsInt w v (sgn neg (val xs)) ∧ (limbs (val xs)).length = xs.length := by
  have hd : Dig xs := allB_dig.1 (by unfold okB at hk; rw [Bool.and_eq_true] at hk; exact hk.1)
  obtain ⟨ao, cap, rfl, h1, h2, h3⟩ := h
  rcases Nat.eq_zero_or_pos xs.length with h0 | h0
  · obtain rfl : xs = [] := List.eq_nil_of_length_eq_zero h0
    rw [okB_nil] at hk
    have : neg = false := by simpa using hk
    subst this
    exact ⟨isInt_zero' h2, rfl⟩
  · rw [okB_dig hd h0] at hk
    have hl : limbs (val xs) = xs := limbs_val hd (fun _ => by simpa using hk)
    have hn : val xs ≠ 0 := by intro e; rw [e, limbs_zero] at hl; rw [← hl] at h0; simp at h0
    refine ⟨?_, by rw [hl]⟩
    have := isInt_of (w := w) (s := neg) (ao := ao) (cap := cap) hn (by rw [hl]; exact h1) h2 (by rw [hl]; exact h3)
    rwa [hl] at this
/-- A struct boxed. -/
theorem box1 (w : World) (u0 u1 : Value) (t : TypeId) : ∃ W, w.alloc (.cells #[u0, u1] t) = W ∧ Ext w W ∧ W.cell? ⟨w.heap.size, 0, none⟩ = some u0 ∧ W.cell? ⟨w.heap.size, 1, none⟩ = some u1 :=
  ⟨_, rfl, (Ext.refl w).alloc _, by simp, by simp⟩

set_option maxRecDepth 100000 in
set_option maxHeartbeats 800000 in
theorem valid_calls (w : World) (v : Value) (neg : Bool) (xs : List Nat) (h : Raw w v neg xs) :
    Calls Try.prog 12 #[v] w fun e w' => e = .returned (.bool (okB neg xs)) ∧ Ext w w' := by
  obtain ⟨ao, cap, rfl, h1, h2, h3⟩ := h
  obtain ⟨W, hW, eW, c0, c1⟩ := box1 w (.bool neg) (.slice ao xs.length cap) 24
  rcases Nat.eq_zero_or_pos xs.length with h0 | h0
  · obtain rfl : xs = [] := List.eq_nil_of_length_eq_zero h0
    have HZ := Lib.hid (okB_nil neg)
    clear h0
    go_enter Try.func12, Try.ntmps12
    go_wp2
    go_ret
    exact ⟨ret_bool HZ.out.symm, (Ext.refl w).alloc _⟩
  · have hbe : ((xs.length : Int) == 0) = false := by rw [beq_eq_false_iff_ne]; omega
    obtain ⟨b1, o1, rfl, hx1⟩ := (h3.ext eW).at_ h0
    have hlast := hx1 (xs.length - 1) (by omega)
    have h0I : (0 : Int) < (xs.length : Int) := by omega
    go_enter Try.func12, Try.ntmps12
    go_wp2
    clear hW hbe
    go_loop [5, 17] (fun _ i => ∃ k : Nat, k ≤ xs.length ∧ i = .int .i64 k ∧ Hid (∀ j, j < k → xs.getD j 0 < 1000000000)) (fun _ i => xs.length - (intOf i).toNat)
    case atStart => exact ⟨0, Nat.zero_le _, rfl, fun j hj => by omega⟩
    case round =>
      obtain ⟨k, hk, rfl, HD⟩ := hrel
      by_cases hk2 : k < xs.length
      · have hcx := hx1 k hk2
        have HB := Lib.hid (fun hi => okB_bad (neg := neg) (xs := xs) (i := k) hi)
        have HS : Hid (xs.getD k 0 < 1000000000 → ∀ j, j < k + 1 → xs.getD j 0 < 1000000000) := by
          intro h j hj
          by_cases e : j = k
          · subst e; exact h
          · exact HD.out j (by omega)
        clear hx1 hlast
        generalize xs.getD k 0 = x at *
        by_cases hb : (1000000000 : Int) ≤ x
        rotate_left
        · have HS2 := Lib.hid (HS.out (by omega))
          go_wp2
          go_round
          case rel => exact ⟨k + 1, by omega, by go_num, HS2.out⟩
          case measure => simp [intOf]; omega
        · have HB2 := Lib.hid (HB.out (by omega))
          go_wp2
          go_ret
          exact ⟨ret_bool HB2.out.symm, eW⟩
      · have hd : Dig xs := dig_iff.2 (fun i hi => HD.out i (by omega))
        have HF := Lib.hid (okB_dig (neg := neg) hd h0)
        have HN := Lib.hid h0
        clear hx1 hd h0
        generalize xs.getD (xs.length - 1) 0 = x at *
        rcases x with _ | x
        · go_wp2
          go_ret
          exact ⟨ret_bool (by rw [HF.out]; rfl), eW⟩
        · go_wp2
          go_ret
          exact ⟨ret_bool (by rw [HF.out]; rfl), eW⟩

theorem okB_dig' {neg : Bool} {xs : List Nat} (hd : Dig xs) : okB neg xs = (((limbs (val xs)).length == xs.length) && (!neg || decide (0 < xs.length))) := by
  rcases Nat.eq_zero_or_pos xs.length with h0 | h0
  · obtain rfl : xs = [] := List.eq_nil_of_length_eq_zero h0
    rw [okB_nil]; simp [val, limbs_zero]
  · rw [okB_dig hd h0]
    have hlen := trimN_length hd
    obtain ⟨n, hn⟩ : ∃ n, xs.length = n + 1 := ⟨xs.length - 1, by omega⟩
    rw [hn] at hlen ⊢
    rw [trimN] at hlen
    have hle := trimN_le xs n
    by_cases hx : xs.getD n 0 = 0
    · rw [if_pos hx] at hlen
      have e1 : (xs.getD (n + 1 - 1) 0 == 0) = true := by rw [Nat.add_sub_cancel, hx]; rfl
      have e2 : ((limbs (val xs)).length == n + 1) = false := by rw [beq_eq_false_iff_ne]; omega
      rw [e1, e2]; rfl
    · rw [if_neg hx] at hlen
      have e1 : (xs.getD (n + 1 - 1) 0 == 0) = false := by rw [Nat.add_sub_cancel, beq_eq_false_iff_ne]; exact hx
      have e2 : ((limbs (val xs)).length == n + 1) = true := by rw [beq_iff_eq]; omega
      rw [e1, e2]; simp

set_option maxRecDepth 100000 in
set_option maxHeartbeats 800000 in
theorem rvalid_calls (w : World) (v : Value) (neg : Bool) (xs : List Nat) (h : Raw w v neg xs) :
    Calls Try.prog 14 #[v] w fun e w' => e = .returned (.bool (okB neg xs)) ∧ Ext w w' := by
  obtain ⟨ao, cap, rfl, h1, h2, h3⟩ := h
  obtain ⟨W, hW, eW, c0, c1⟩ := box1 w (.bool neg) (.slice ao xs.length cap) 24
  go_enter Try.func14, Try.ntmps14
  go_wp2
  clear hW
  go_loop [3] (fun i => ∃ k : Nat, k ≤ xs.length ∧ i = .int .i64 k ∧ Hid (∀ j, j < k → xs.getD j 0 < 1000000000)) (fun i => xs.length - (intOf i).toNat)
  case atStart => exact ⟨0, Nat.zero_le _, rfl, fun j hj => by omega⟩
  case round =>
    obtain ⟨k, hk, rfl, HD⟩ := hrel
    by_cases hk2 : k < xs.length
    · obtain ⟨b1, o1, rfl, hx1⟩ := (h3.ext eW).at_ (by omega)
      have hcx := hx1 k hk2
      have HB := Lib.hid (fun hi => okB_bad (neg := neg) (xs := xs) (i := k) hi)
      have HS : Hid (xs.getD k 0 < 1000000000 → ∀ j, j < k + 1 → xs.getD j 0 < 1000000000) := by
        intro h j hj
        by_cases e : j = k
        · subst e; exact h
        · exact HD.out j (by omega)
      clear hx1
      generalize xs.getD k 0 = x at *
      by_cases hb : (1000000000 : Int) ≤ x
      rotate_left
      · have HS2 := Lib.hid (HS.out (by omega))
        go_wp2
        go_round
        case rel => exact ⟨k + 1, by omega, by go_num, HS2.out⟩
        case measure => simp [intOf]; omega
      · have HB2 := Lib.hid (HB.out (by omega))
        go_wp2
        go_ret
        exact ⟨ret_bool HB2.out.symm, eW⟩
    · have hd : Dig xs := dig_iff.2 (fun i hi => HD.out i (by omega))
      have HF := Lib.hid (okB_dig' (neg := neg) hd)
      have HT := Lib.hid (fun n => quiet_eq (P := Try.prog) (n := n) (rtrim_calls (W.drewN n) ao xs cap h1 h2 (h3.ext (eW.drewN n)) hd))
      clear hd
      generalize hL : (limbs (val xs)).length = L at *
      clear hL
      by_cases hl : L = xs.length
      · have hbL : ((L : Int) == (xs.length : Int)) = true := by simp [hl]
        have HFL : Hid ((L == xs.length) = true) := by unfold Hid; simp [hl]
        clear hl
        cases neg
        · go_wp2
          go_quiet ((go_at_call 40; exact HT.out _))
          go_wp2
          go_ret
          exact ⟨ret_bool (by rw [HF.out, HFL.out]; rfl), eW.drewN _⟩
        · by_cases hp : 0 < xs.length
          · have hp2 : decide (0 < xs.length) = true := by simpa using hp
            have HP := Lib.hid hp2
            have hp3 : (0 : Int) < (xs.length : Int) := by omega
            go_wp2
            go_quiet ((go_at_call 40; exact HT.out _))
            go_wp2
            go_ret
            exact ⟨ret_bool (by rw [HF.out, HFL.out, HP.out]; rfl), eW.drewN _⟩
          · have hp2 : decide (0 < xs.length) = false := by simpa using hp
            have HP := Lib.hid hp2
            go_wp2
            go_quiet ((go_at_call 40; exact HT.out _))
            go_wp2
            go_ret
            exact ⟨ret_bool (by rw [HF.out, HFL.out, HP.out]; rfl), eW.drewN _⟩
      · have hbL : ((L : Int) == (xs.length : Int)) = false := by rw [beq_eq_false_iff_ne]; omega
        have HFL : Hid ((L == xs.length) = false) := by unfold Hid; rw [beq_eq_false_iff_ne]; exact hl
        clear hl
        go_wp2
        go_quiet ((go_at_call 40; exact HT.out _))
        go_wp2
        go_ret
        exact ⟨ret_bool (by rw [HF.out, HFL.out]; rfl), eW.drewN _⟩

set_option maxHeartbeats 400000 in
theorem rsmall_calls (w : World) (v : Value) (neg : Bool) (xs : List Nat) (K : Nat) (h : Raw w v neg xs) :
    Calls Try.prog 35 #[v, .int .i64 (K : Int)] w fun e w' => e = .returned (.bool (decide (xs.length ≤ K) && okB neg xs)) ∧ Ext w w' := by
  have hR := h
  obtain ⟨ao, cap, rfl, h1, h2, h3⟩ := h
  obtain ⟨W, hW, eW, c0, c1⟩ := box1 w (.bool neg) (.slice ao xs.length cap) 24
  by_cases hl : xs.length ≤ K
  · have HL := Lib.hid (decide_eq_true hl)
    have hlI : (xs.length : Int) ≤ (K : Int) := by omega
    clear hl
    go_enter Try.func35, Try.ntmps35
    go_wp2_with fail
    clear hW
    refine (rvalid_calls _ _ neg xs (hR.ext eW)).mono ?_
    rintro e w2 ⟨rfl, e2⟩
    go_wp2
    go_ret
    exact ⟨ret_bool (by rw [HL.out]; simp), eW.trans e2⟩
  · have HL := Lib.hid (decide_eq_false hl)
    have hlI : (K : Int) < (xs.length : Int) := by omega
    clear hl
    go_enter Try.func35, Try.ntmps35
    go_wp2
    go_ret
    exact ⟨ret_bool (by rw [HL.out]; rfl), eW⟩

end Go.Proofs.Ytfjaboolfjgleaa
