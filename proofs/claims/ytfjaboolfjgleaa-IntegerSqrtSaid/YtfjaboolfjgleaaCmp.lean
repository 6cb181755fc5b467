/-
  Comparisons: cmp.Compare, compareLimbs, the reference's compare, Sign, Cmp, Same.
-/
import Derived.Test.YtfjaboolfjgleaaTrim
import Derived.Deep.RegionHeld3
namespace Go.Proofs.Ytfjaboolfjgleaa
open Go.RowKit

/-- The sign of a - b. -/
def cmpZ (a b : Int) : Int := if a < b then -1 else if b < a then 1 else 0
theorem cmpZ_lt {a b : Int} (h : a < b) : cmpZ a b = -1 := by unfold cmpZ; rw [if_pos h]
theorem cmpZ_gt {a b : Int} (h : b < a) : cmpZ a b = 1 := by unfold cmpZ; rw [if_neg (by omega), if_pos h]
theorem cmpZ_eq {a b : Int} (h : a = b) : cmpZ a b = 0 := by unfold cmpZ; rw [if_neg (by omega), if_neg (by omega)]

theorem quiet_eq {P : Program} {f : FuncId} {args : Array Value} {w : World} {n : Nat} {v : Value}
    (h : Calls P f args (w.drewN n) fun e w' => e = .returned v ∧ w.drewN n = w') : Calls P f args (w.drewN n) fun e w'' => e = .returned v ∧ ∃ m, w'' = w.drewN m :=
  h.mono fun _ _ ⟨he, hm⟩ => ⟨he, n, hm.symm⟩
theorem ret_int {k : IntKind} {a b : Int} (h : a = b) : Ending.returned (.int k a) = .returned (.int k b) := by rw [h]

set_option maxHeartbeats 400000 in
theorem cmpInt_calls (w : World) (a b : Int) :
    Calls Try.prog 53 #[.int .i64 a, .int .i64 b] w fun e w' => e = .returned (.int .i64 (cmpZ a b)) ∧ w = w' := by
  rcases Int.lt_trichotomy a b with h | h | h
  · have HZ := Lib.hid (cmpZ_lt h)
    go_enter Try.func53, Try.ntmps53
    go_wp2
    go_ret
    exact ⟨ret_int HZ.out.symm, rfl⟩
  · have HZ := Lib.hid (cmpZ_eq h)
    subst h
    go_enter Try.func53, Try.ntmps53
    go_wp2
    go_ret
    exact ⟨ret_int HZ.out.symm, rfl⟩
  · have HZ := Lib.hid (cmpZ_gt h)
    go_enter Try.func53, Try.ntmps53
    go_wp2
    go_ret
    exact ⟨ret_int HZ.out.symm, rfl⟩

set_option maxHeartbeats 400000 in
theorem cmpU32_calls (w : World) (a b : Int) :
    Calls Try.prog 69 #[.int .u32 a, .int .u32 b] w fun e w' => e = .returned (.int .i64 (cmpZ a b)) ∧ w = w' := by
  rcases Int.lt_trichotomy a b with h | h | h
  · have HZ := Lib.hid (cmpZ_lt h)
    go_enter Try.func69, Try.ntmps69
    go_wp2
    go_ret
    exact ⟨ret_int HZ.out.symm, rfl⟩
  · have HZ := Lib.hid (cmpZ_eq h)
    subst h
    go_enter Try.func69, Try.ntmps69
    go_wp2
    go_ret
    exact ⟨ret_int HZ.out.symm, rfl⟩
  · have HZ := Lib.hid (cmpZ_gt h)
    go_enter Try.func69, Try.ntmps69
    go_wp2
    go_ret
    exact ⟨ret_int HZ.out.symm, rfl⟩

/-- The first limb from behind at which two lists differ decides. -/
theorem val_lt_of {xs ys : List Nat} {k : Nat} (hx : Dig xs) (hk : k < xs.length) (hk' : k < ys.length) (hd : val (xs.drop (k + 1)) = val (ys.drop (k + 1))) (hlt : xs.getD k 0 < ys.getD k 0) : val xs < val ys := by
  rw [val_split xs k (by omega), val_split ys k (by omega), val_drop xs k hk, val_drop ys k hk', hd]
  have h1 := val_lt (hx.take k)
  rw [List.length_take, Nat.min_eq_left (by omega)] at h1
  generalize 1000000000 ^ k = p at *
  generalize val (ys.drop (k + 1)) = d
  have : p * (xs.getD k 0 + 1000000000 * d) + p ≤ p * (ys.getD k 0 + 1000000000 * d) := by
    rw [← Nat.mul_succ]; exact Nat.mul_le_mul_left _ (by omega)
  omega

theorem lt_of_len {m n : Nat} (h : (limbs m).length < (limbs n).length) : m < n := by
  rcases Nat.lt_or_ge m n with h1 | h1
  · exact h1
  · have := limbs_len_mono h1; omega


theorem limbs_eq_of {m n : Nat} (h : val (limbs m) = val (limbs n)) : m = n := by rwa [val_limbs, val_limbs] at h
theorem lt_of_digit {m n k : Nat} (hk : k < (limbs m).length) (hk' : k < (limbs n).length) (hd : val ((limbs m).drop (k + 1)) = val ((limbs n).drop (k + 1))) (hlt : (limbs m).getD k 0 < (limbs n).getD k 0) : m < n := by
  have := val_lt_of (dig_limbs m) hk hk' hd hlt
  rwa [val_limbs, val_limbs] at this

/-- One round's step: the same from k + 1 on, and limb k the same. -/
theorem drop_eq_step {xs ys : List Nat} {k : Nat} (hk : k < xs.length) (hk' : k < ys.length) (hd : val (xs.drop (k + 1)) = val (ys.drop (k + 1))) (he : xs.getD k 0 = ys.getD k 0) : val (xs.drop k) = val (ys.drop k) := by
  rw [val_drop _ _ hk, val_drop _ _ hk', hd, he]

set_option maxHeartbeats 800000 in
theorem compareLimbs_calls (w : World) (ax ay : Option Addr) (m n cx cy : Nat) (lx : (limbs m).length ≤ 9223372036854775807) (ly : (limbs n).length ≤ 9223372036854775807) (hx : Cells w ax (limbs m)) (hy : Cells w ay (limbs n)) :
    Calls Try.prog 54 #[.slice ax (limbs m).length cx, .slice ay (limbs n).length cy] w fun e w' => e = .returned (.int .i64 (cmpZ m n)) ∧ ∃ k, w' = w.drewN k := by
  rcases Nat.lt_trichotomy (limbs m).length (limbs n).length with hl | hl | hl
  · have H1 := Lib.hid (cmpZ_lt (Int.ofNat_lt.2 hl))
    have H2 := Lib.hid (cmpZ_lt (Int.ofNat_lt.2 (lt_of_len hl)))
    go_enter Try.func54, Try.ntmps54
    go_wp2_with (go_at_call 53; refine (cmpInt_calls _ _ _).mono ?_; rintro e w' ⟨rfl, rfl⟩; rw [H1.out])
    go_ret
    exact ⟨ret_int H2.out.symm, 0, rfl⟩
  · have H1 := Lib.hid (cmpZ_eq (congrArg (fun x : Nat => (x : Int)) hl))
    have HL := Lib.hid hl
    clear hl
    go_enter Try.func54, Try.ntmps54
    go_wp2_with (go_at_call 53; refine (cmpInt_calls _ _ _).mono ?_; rintro e w' ⟨rfl, rfl⟩; rw [H1.out])
    go_loopw [6, 7] (fun i _ wr => ∃ k j : Nat, k ≤ (limbs m).length ∧ i = .int .i64 ((k : Int) - 1) ∧ Hid (wr = w.drewN j) ∧ Hid (val ((limbs m).drop k) = val ((limbs n).drop k))) (fun i _ _ => (intOf i + 1).toNat)
    case atStart => exact ⟨_, 0, Nat.le_refl _, rfl, rfl, by rw [val_drop_len, HL.out, val_drop_len]; rfl⟩
    case round =>
      obtain ⟨k, j, hk, rfl, HW, HD⟩ := hrel
      rcases k with _ | k
      · go_wp2
        go_ret
        exact ⟨ret_int (cmpZ_eq (congrArg (fun x : Nat => (x : Int)) (limbs_eq_of HD.out))).symm, j, HW.out⟩
      · have hk2 : k < (limbs m).length := by omega
        have hk3 : k < (limbs n).length := by rw [← HL.out]; omega
        obtain ⟨b1, o1, rfl, hx1⟩ := hx.at_ (by omega)
        obtain ⟨b2, o2, rfl, hy1⟩ := hy.at_ (by omega)
        have hcx : wr.cell? ⟨b1, o1 + k, none⟩ = some (.int .u32 (((limbs m).getD k 0 : Nat) : Int)) := by rw [HW.out]; exact hx1 k (by omega)
        have hcy : wr.cell? ⟨b2, o2 + k, none⟩ = some (.int .u32 (((limbs n).getD k 0 : Nat) : Int)) := by rw [HW.out]; exact hy1 k (by omega)
        clear hx hy hx1 hy1
        have ek : ((k + 1 : Nat) : Int) - 1 = (k : Int) := by omega
        rw [ek]
        clear ek
        have HR := Lib.hid (fun he => drop_eq_step hk2 hk3 HD.out he)
        have H1 := Lib.hid (fun hlt => lt_of_digit hk2 hk3 HD.out hlt)
        have H2 := Lib.hid (fun hlt => lt_of_digit hk3 hk2 HD.out.symm hlt)
        obtain ⟨x, hxx⟩ : ∃ x, x = (limbs m).getD k 0 := ⟨_, rfl⟩
        obtain ⟨y, hyy⟩ : ∃ y, y = (limbs n).getD k 0 := ⟨_, rfl⟩
        rw [← hxx] at hcx HR H1 H2
        rw [← hyy] at hcy HR H1 H2
        clear hxx hyy
        have bx1 : (0 : Int) ≤ (k : Int) := by omega
        have bx2 : (k : Int) < ((limbs m).length : Int) := by omega
        have bx3 : (k : Int) < ((limbs n).length : Int) := by omega
        rcases Nat.lt_trichotomy x y with hxy | hxy | hxy
        · have HZ := Lib.hid (cmpZ_lt (Int.ofNat_lt.2 hxy))
          have HF := Lib.hid (cmpZ_lt (Int.ofNat_lt.2 (H1.out hxy)))
          go_wp2
          go_quiet ((go_at_call 69; exact quiet_eq (cmpU32_calls _ _ _)))
          rw [HZ.out]
          go_wp2
          go_ret
          exact ⟨ret_int HF.out.symm, _, by rw [HW.out, World.drewN_drewN]⟩
        · have HZ := Lib.hid (cmpZ_eq (congrArg (fun x : Nat => (x : Int)) hxy))
          have HE := Lib.hid (HR.out hxy)
          subst hxy
          go_wp2
          go_quiet ((go_at_call 69; exact quiet_eq (cmpU32_calls _ _ _)))
          rw [HZ.out]
          go_wp2
          go_roundw
          case rel => exact ⟨k, j + nq, by omega, by go_num, by unfold Hid; rw [HW.out, World.drewN_drewN], HE⟩
          case measure => simp [intOf]
        · have HZ := Lib.hid (cmpZ_gt (Int.ofNat_lt.2 hxy))
          have HF := Lib.hid (cmpZ_gt (Int.ofNat_lt.2 (H2.out hxy)))
          go_wp2
          go_quiet ((go_at_call 69; exact quiet_eq (cmpU32_calls _ _ _)))
          rw [HZ.out]
          go_wp2
          go_ret
          exact ⟨ret_int HF.out.symm, _, by rw [HW.out, World.drewN_drewN]⟩
  · have H1 := Lib.hid (cmpZ_gt (Int.ofNat_lt.2 hl))
    have H2 := Lib.hid (cmpZ_gt (Int.ofNat_lt.2 (lt_of_len hl)))
    go_enter Try.func54, Try.ntmps54
    go_wp2_with (go_at_call 53; refine (cmpInt_calls _ _ _).mono ?_; rintro e w' ⟨rfl, rfl⟩; rw [H1.out])
    go_ret
    exact ⟨ret_int H2.out.symm, 0, rfl⟩

set_option maxHeartbeats 800000 in
theorem rcompare_calls (w : World) (ax ay : Option Addr) (m n cx cy : Nat) (lx : (limbs m).length ≤ 9223372036854775807) (ly : (limbs n).length ≤ 9223372036854775807) (hx : Cells w ax (limbs m)) (hy : Cells w ay (limbs n)) :
    Calls Try.prog 50 #[.slice ax (limbs m).length cx, .slice ay (limbs n).length cy] w fun e w' => e = .returned (.int .i64 (cmpZ m n)) ∧ ∃ k, w' = w.drewN k := by
  rcases Nat.lt_trichotomy (limbs m).length (limbs n).length with hl | hl | hl
  · have H1 := Lib.hid (cmpZ_lt (Int.ofNat_lt.2 hl))
    have H2 := Lib.hid (cmpZ_lt (Int.ofNat_lt.2 (lt_of_len hl)))
    go_enter Try.func50, Try.ntmps50
    go_wp2
    go_ret
    exact ⟨ret_int H2.out.symm, 0, rfl⟩
  · have H1 := Lib.hid (cmpZ_eq (congrArg (fun x : Nat => (x : Int)) hl))
    have HL := Lib.hid hl
    have hb0 : (((limbs m).length : Int) != ((limbs n).length : Int)) = false := by simp [hl]
    clear hl
    go_enter Try.func50, Try.ntmps50
    go_wp2
    go_loopw [5] (fun i wr => ∃ k j : Nat, k ≤ (limbs m).length ∧ i = .int .i64 ((k : Int) - 1) ∧ Hid (wr = w.drewN j) ∧ Hid (val ((limbs m).drop k) = val ((limbs n).drop k))) (fun i _ => (intOf i + 1).toNat)
    case atStart => exact ⟨_, 0, Nat.le_refl _, rfl, rfl, by rw [val_drop_len, HL.out, val_drop_len]; rfl⟩
    case round =>
      obtain ⟨k, j, hk, rfl, HW, HD⟩ := hrel
      rcases k with _ | k
      · go_wp2
        go_ret
        exact ⟨ret_int (cmpZ_eq (congrArg (fun x : Nat => (x : Int)) (limbs_eq_of HD.out))).symm, j, HW.out⟩
      · have hk2 : k < (limbs m).length := by omega
        have hk3 : k < (limbs n).length := by rw [← HL.out]; omega
        obtain ⟨b1, o1, rfl, hx1⟩ := hx.at_ (by omega)
        obtain ⟨b2, o2, rfl, hy1⟩ := hy.at_ (by omega)
        have hcx : wr.cell? ⟨b1, o1 + k, none⟩ = some (.int .u32 (((limbs m).getD k 0 : Nat) : Int)) := by rw [HW.out]; exact hx1 k (by omega)
        have hcy : wr.cell? ⟨b2, o2 + k, none⟩ = some (.int .u32 (((limbs n).getD k 0 : Nat) : Int)) := by rw [HW.out]; exact hy1 k (by omega)
        clear hx hy hx1 hy1
        have ek : ((k + 1 : Nat) : Int) - 1 = (k : Int) := by omega
        rw [ek]
        clear ek
        have HR := Lib.hid (fun he => drop_eq_step hk2 hk3 HD.out he)
        have H1 := Lib.hid (fun hlt => lt_of_digit hk2 hk3 HD.out hlt)
        have H2 := Lib.hid (fun hlt => lt_of_digit hk3 hk2 HD.out.symm hlt)
        obtain ⟨x, hxx⟩ : ∃ x, x = (limbs m).getD k 0 := ⟨_, rfl⟩
        obtain ⟨y, hyy⟩ : ∃ y, y = (limbs n).getD k 0 := ⟨_, rfl⟩
        rw [← hxx] at hcx HR H1 H2
        rw [← hyy] at hcy HR H1 H2
        clear hxx hyy
        have bx1 : (0 : Int) ≤ (k : Int) := by omega
        have bx2 : (k : Int) < ((limbs m).length : Int) := by omega
        have bx3 : (k : Int) < ((limbs n).length : Int) := by omega
        rcases Nat.lt_trichotomy x y with hxy | hxy | hxy
        · have hxz : (x : Int) < (y : Int) := by omega
          have HF := Lib.hid (cmpZ_lt (Int.ofNat_lt.2 (H1.out hxy)))
          go_wp2
          go_quiet (fail)
          go_wp2
          go_ret
          exact ⟨ret_int HF.out.symm, _, by rw [HW.out, World.drewN_drewN]⟩
        · have HE := Lib.hid (HR.out hxy)
          subst hxy
          go_wp2
          go_quiet (fail)
          go_wp2
          go_quiet (fail)
          go_wp2
          go_roundw
          case rel => exact ⟨k, _, by omega, by go_num, by unfold Hid; rw [HW.out, World.drewN_drewN], HE⟩
          case measure => simp [intOf]
        · have hxz : (y : Int) < (x : Int) := by omega
          have HF := Lib.hid (cmpZ_gt (Int.ofNat_lt.2 (H2.out hxy)))
          go_wp2
          go_quiet (fail)
          go_wp2
          go_quiet (fail)
          go_wp2
          go_ret
          exact ⟨ret_int HF.out.symm, _, by rw [HW.out, World.drewN_drewN, World.drewN_drewN]⟩
  · have H1 := Lib.hid (cmpZ_gt (Int.ofNat_lt.2 hl))
    have H2 := Lib.hid (cmpZ_gt (Int.ofNat_lt.2 (lt_of_len hl)))
    go_enter Try.func50, Try.ntmps50
    go_wp2
    go_ret
    exact ⟨ret_int H2.out.symm, 0, rfl⟩


end Go.Proofs.Ytfjaboolfjgleaa
