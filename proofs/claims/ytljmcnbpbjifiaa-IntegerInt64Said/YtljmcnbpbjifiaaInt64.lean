/-
  Int64, of the program and of the reference.
-/
import Derived.Test.YtljmcnbpbjifiaaLawValid
namespace Go.Proofs.Ytljmcnbpbjifiaa
open Go.RowKit

theorem limbs_top {n : Nat} (h : (limbs n).length = 3) : n = val ((limbs n).take 2) + 1000000000000000000 * (limbs n).getD 2 0 ∧ val ((limbs n).take 2) < 1000000000000000000 := by
  have h1 := val_split (limbs n) 2 (by omega)
  rw [val_limbs, val_drop _ 2 (by omega)] at h1
  have h2 : (limbs n).drop (2 + 1) = [] := List.drop_of_length_le (by omega)
  rw [h2] at h1
  have h3 := val_lt ((dig_limbs n).take 2)
  rw [List.length_take, h] at h3
  simp only [val] at h1
  have e : 1000000000 ^ min 2 3 = 1000000000000000000 := rfl
  rw [e] at h3
  omega
/-- Which integers Int64 looks into: those below 10^19. -/
theorem big_len {n : Nat} (h : 10000000000000000000 ≤ n) : 3 < (limbs n).length ∨ ((limbs n).length = 3 ∧ 9 < (limbs n).getD 2 0) := by
  rcases Nat.lt_or_ge 3 (limbs n).length with h1 | h1
  · exact .inl h1
  · right
    have h3 : (limbs n).length = 3 := by
      rcases Nat.lt_or_ge (limbs n).length 3 with h2 | h2
      · have := lt_of_limbs_len (n := n) (k := 2) (by omega); omega
      · omega
    obtain ⟨h4, h5⟩ := limbs_top h3
    exact ⟨h3, by omega⟩
theorem small_len {n : Nat} (h : n < 10000000000000000000) : (limbs n).length ≤ 3 ∧ ((limbs n).length = 3 → (limbs n).getD 2 0 ≤ 9) := by
  refine ⟨limbs_len_le (by omega), fun h3 => ?_⟩
  obtain ⟨h4, h5⟩ := limbs_top h3
  omega
theorem neg_conv (n : Nat) (h0 : 0 < n) (h : n ≤ 9223372036854775808) : wrap64 (IntKind.u64.wrap (-(n : Int))) = -(n : Int) := by
  simp only [wrap64, IntKind.wrap_u64]
  omega
theorem wrap64_small {m : Int} (n : Nat) (h : (n : Int) = m) (k : m ≤ 9223372036854775807) : wrap64 m = m := by
  simp only [wrap64]
  omega
theorem ret2 {a b : Int} {c d : Bool} (h : a = b) (k : c = d) : Ending.returned (.tuple #[.int .i64 a, .bool c]) = .returned (.tuple #[.int .i64 b, .bool d]) := by rw [h, k]

set_option maxRecDepth 100000 in
set_option maxHeartbeats 1600000 in
theorem int64_calls (w : World) (v : Value) (z : Int) (h : IsInt w v z) :
    Calls Try.prog 16 #[v] w fun e w' => e = .returned (.tuple #[.int .i64 (i64v z), .bool (i64ok z)]) ∧ Ext w w' := by
  obtain ⟨ao, cap, s, n, rfl, h1, h2, h3, H4, H5, H6⟩ := h.open_
  obtain ⟨W, hW, eW, c0, c1⟩ := box1 w (.bool s) (.slice ao (limbs n).length cap) 24
  by_cases hb : 10000000000000000000 ≤ n
  · have HO := Lib.hid (i64_out (z := z) (by have := H4.out; omega))
    rcases big_len hb with hl | ⟨hl, ht⟩
    · have hlI : decide ((3 : Int) < ((limbs n).length : Int)) = true := decide_eq_true (by omega)
      clear hb hl
      go_enter Try.func16, Try.ntmps16
      go_wp2
      go_ret2
      exact ⟨ret2 HO.out.1.symm HO.out.2.symm, eW⟩
    · obtain ⟨b1, o1, rfl, hx⟩ := (h3.ext eW).at_ (by omega)
      have hc := hx 2 (by omega)
      clear hx
      generalize (limbs n).getD 2 0 = t at *
      have htI : (9 : Int) < (t : Int) := by omega
      generalize (limbs n).length = L at *
      subst hl
      clear hb ht
      go_enter Try.func16, Try.ntmps16
      go_wp2
      go_ret2
      exact ⟨ret2 HO.out.1.symm HO.out.2.symm, eW⟩
  · obtain ⟨hl, ht⟩ := small_len (n := n) (by omega)
    have hv := valueOf_calls W ao (limbs n) cap h1 h2 (h3.ext eW) (by rw [val_limbs]; omega)
    rw [val_limbs] at hv
    have HV := Lib.hid hv
    have hfin : Hid ((∃ L : Nat, L = (limbs n).length ∧ L ≤ 3 ∧ (L = 3 → ∃ b1 o1 t, ao = some ⟨b1, o1, none⟩ ∧ W.cell? ⟨b1, o1 + 2, none⟩ = some (.int .u32 ((t : Nat) : Int)) ∧ t ≤ 9))) := by
      refine ⟨_, rfl, hl, fun h' => ?_⟩
      obtain ⟨b1, o1, rfl, hx⟩ := (h3.ext eW).at_ (by omega)
      exact ⟨b1, o1, _, rfl, hx 2 (by omega), ht h'⟩
    obtain ⟨L, hL, hL3, hLt⟩ := hfin.out
    rw [← hL] at HV
    rw [← hL] at hW c1
    have HLE := Lib.hid (show (Value.slice ao (limbs n).length cap) = .slice ao L cap by rw [hL])
    have HN := Lib.hid (show n < 10000000000000000000 by omega)
    have hz : z = sgn s n := H5.out
    clear hv hl ht h1 h2 h3 hb hfin h
    rw [HLE.out]
    clear hL HLE
    have hgo : ∀ (P : Prop), True := fun _ => trivial
    have HZ := Lib.hid hz
    clear hz hgo
    rcases Nat.lt_or_ge L 3 with hl | hl
    · have hlI : (L : Int) < 3 := by omega
      clear hLt hl hL3
      cases s
      by_cases hn : n ≤ 9223372036854775807
      · have HI := Lib.hid (i64_in (z := z) (by rw [HZ.out]; simp only [sgn]; simp; try omega) (by rw [HZ.out]; simp only [sgn]; simp; try omega))
        have hnI : (n : Int) ≤ 9223372036854775807 := by omega
        have HE : Hid (z = n) := HZ.out
        clear hn
        go_enter Try.func16, Try.ntmps16
        go_wp2_with fail
        refine HV.out.mono ?_
        rintro e w' ⟨rfl, rfl⟩
        generalize hm : (n : Int) = m at hnI ⊢
        have HM := Lib.hid hm
        clear hm
        go_wp2
        go_ret2
        exact ⟨ret2 (by rw [HI.out.1, HE.out, HM.out]; exact wrap64_small n HM.out hnI) HI.out.2.symm, eW⟩
      · have HI := Lib.hid (i64_out (z := z) (.inr (by rw [HZ.out]; simp only [sgn]; simp; try omega)))
        have hnI : (9223372036854775807 : Int) < n := by omega
        clear hn
        go_enter Try.func16, Try.ntmps16
        go_wp2_with fail
        refine HV.out.mono ?_
        rintro e w' ⟨rfl, rfl⟩
        generalize hm : (n : Int) = m at hnI ⊢
        have HM := Lib.hid hm
        clear hm
        go_wp2
        go_ret2
        exact ⟨ret2 HI.out.1.symm HI.out.2.symm, eW⟩
      by_cases hn : n ≤ 9223372036854775808
      · have HI := Lib.hid (i64_in (z := z) (by rw [HZ.out]; simp only [sgn]; simp; try omega) (by rw [HZ.out]; simp only [sgn]; simp; try omega))
        have hnI : decide ((n : Int) ≤ 9223372036854775808) = true := decide_eq_true (by omega)
        have HE : Hid (z = -n) := HZ.out
        have HP := Lib.hid (H6.out rfl)
        have HB := Lib.hid hn
        clear hn
        go_enter Try.func16, Try.ntmps16
        go_wp2_with fail
        refine HV.out.mono ?_
        rintro e w' ⟨rfl, rfl⟩
        go_wp2
        go_ret2
        exact ⟨ret2 (by rw [HI.out.1, HE.out]; exact neg_conv n HP.out HB.out) HI.out.2.symm, eW⟩
      · have HI := Lib.hid (i64_out (z := z) (.inl (by rw [HZ.out]; simp only [sgn]; simp; try omega)))
        have hnI : decide ((n : Int) ≤ 9223372036854775808) = false := decide_eq_false (by omega)
        clear hn
        go_enter Try.func16, Try.ntmps16
        go_wp2_with fail
        refine HV.out.mono ?_
        rintro e w' ⟨rfl, rfl⟩
        go_wp2
        go_ret2
        exact ⟨ret2 HI.out.1.symm HI.out.2.symm, eW⟩
    · obtain ⟨b1, o1, t, rfl, hc, htt⟩ := hLt (by omega)
      obtain rfl : L = 3 := by omega
      have htI : (t : Int) ≤ 9 := by omega
      clear hLt hl hL3 htt
      cases s
      by_cases hn : n ≤ 9223372036854775807
      · have HI := Lib.hid (i64_in (z := z) (by rw [HZ.out]; simp only [sgn]; simp; try omega) (by rw [HZ.out]; simp only [sgn]; simp; try omega))
        have hnI : (n : Int) ≤ 9223372036854775807 := by omega
        have HE : Hid (z = n) := HZ.out
        clear hn
        go_enter Try.func16, Try.ntmps16
        go_wp2_with fail
        refine HV.out.mono ?_
        rintro e w' ⟨rfl, rfl⟩
        generalize hm : (n : Int) = m at hnI ⊢
        have HM := Lib.hid hm
        clear hm
        go_wp2
        go_ret2
        exact ⟨ret2 (by rw [HI.out.1, HE.out, HM.out]; exact wrap64_small n HM.out hnI) HI.out.2.symm, eW⟩
      · have HI := Lib.hid (i64_out (z := z) (.inr (by rw [HZ.out]; simp only [sgn]; simp; try omega)))
        have hnI : (9223372036854775807 : Int) < n := by omega
        clear hn
        go_enter Try.func16, Try.ntmps16
        go_wp2_with fail
        refine HV.out.mono ?_
        rintro e w' ⟨rfl, rfl⟩
        generalize hm : (n : Int) = m at hnI ⊢
        have HM := Lib.hid hm
        clear hm
        go_wp2
        go_ret2
        exact ⟨ret2 HI.out.1.symm HI.out.2.symm, eW⟩
      by_cases hn : n ≤ 9223372036854775808
      · have HI := Lib.hid (i64_in (z := z) (by rw [HZ.out]; simp only [sgn]; simp; try omega) (by rw [HZ.out]; simp only [sgn]; simp; try omega))
        have hnI : decide ((n : Int) ≤ 9223372036854775808) = true := decide_eq_true (by omega)
        have HE : Hid (z = -n) := HZ.out
        have HP := Lib.hid (H6.out rfl)
        have HB := Lib.hid hn
        clear hn
        go_enter Try.func16, Try.ntmps16
        go_wp2_with fail
        refine HV.out.mono ?_
        rintro e w' ⟨rfl, rfl⟩
        go_wp2
        go_ret2
        exact ⟨ret2 (by rw [HI.out.1, HE.out]; exact neg_conv n HP.out HB.out) HI.out.2.symm, eW⟩
      · have HI := Lib.hid (i64_out (z := z) (.inl (by rw [HZ.out]; simp only [sgn]; simp; try omega)))
        have hnI : decide ((n : Int) ≤ 9223372036854775808) = false := decide_eq_false (by omega)
        clear hn
        go_enter Try.func16, Try.ntmps16
        go_wp2_with fail
        refine HV.out.mono ?_
        rintro e w' ⟨rfl, rfl⟩
        go_wp2
        go_ret2
        exact ⟨ret2 HI.out.1.symm HI.out.2.symm, eW⟩

end Go.Proofs.Ytljmcnbpbjifiaa
