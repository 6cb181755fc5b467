/-
  Int64, of the reference.
-/
import Derived.Test.YtljmcnbpbjifiaaInt64
namespace Go.Proofs.Ytljmcnbpbjifiaa
open Go.RowKit

theorem cmpZ_nonneg {a b : Int} (h : b ≤ a) : 0 ≤ cmpZ a b := by
  rcases Int.lt_or_le b a with k | k
  · rw [cmpZ_gt k]; decide
  · rw [cmpZ_eq (by omega)]; decide
theorem cmpZ_nonpos {a b : Int} (h : a ≤ b) : cmpZ a b ≤ 0 := by
  rcases Int.lt_or_le a b with k | k
  · rw [cmpZ_lt k]; decide
  · rw [cmpZ_eq (by omega)]; decide
theorem rcmp_as {w : World} {v1 v2 : Value} {z1 z2 : Int} {k : Int} (h : Hid (cmpZ z1 z2 = k)) (h1 : IsInt w v1 z1) (h2 : IsInt w v2 z2) :
    Calls Try.prog 30 #[v1, v2] w fun e w' => e = .returned (.int .i64 k) ∧ Ext w w' := by
  rw [← h.out]
  exact rcmp_calls w v1 v2 z1 z2 h1 h2
theorem neg_conv2 {m : Int} (n : Nat) (h : (n : Int) = m) (h0 : 0 < n) (k : n ≤ 9223372036854775808) : wrap64 (-(wrap64 m)) = -(n : Int) := by
  simp only [wrap64]
  omega

set_option maxRecDepth 100000 in
set_option maxHeartbeats 1600000 in
theorem rint64_calls (w : World) (v : Value) (z : Int) (h : IsInt w v z) :
    Calls Try.prog 18 #[v] w fun e w' => e = .returned (.tuple #[.int .i64 (i64v z), .bool (i64ok z)]) ∧ Ext w w' := by
  have hI := h
  obtain ⟨ao, cap, s, n, rfl, h1, h2, h3, H4, H5, H6⟩ := h.open_
  obtain ⟨W, hW, eW, c0, c1⟩ := box1 w (.bool s) (.slice ao (limbs n).length cap) 24
  have HC := Lib.hid (And.intro h1 (And.intro h2 h3))
  clear h1 h2 h3
  go_enter Try.func18, Try.ntmps18
  go_wp2_with fail
  clear hW
  refine (rfromInt64_calls _ _ (by omega) (by omega)).mono ?_
  rintro e w1 ⟨x1, rfl, hx1, e1⟩
  replace c0 := e1.cell c0
  replace c1 := e1.cell c1
  replace eW := eW.trans e1
  clear e1
  go_wp2_with fail
  refine (rfromInt64_calls _ _ (by omega) (by omega)).mono ?_
  rintro e w2 ⟨x2, rfl, hx2, e2⟩
  replace c0 := e2.cell c0
  replace c1 := e2.cell c1
  replace eW := eW.trans e2
  replace hx1 := hx1.ext e2
  clear e2
  have i1 := hx1
  have i2 := hx2
  obtain ⟨a1, cp1, s1, n1, rfl, _, _, _, _, _, _⟩ := hx1.open_
  obtain ⟨a2, cp2, s2, n2, rfl, _, _, _, _, _, _⟩ := hx2.open_
  clear hx1 hx2
  obtain ⟨W3, hW3, e3, _, l0, l1, m0, m1⟩ := boxes2 w2 (.bool s1) (.slice a1 (limbs n1).length cp1) (.bool s2) (.slice a2 (limbs n2).length cp2) 24
  replace c0 := e3.cell c0
  replace c1 := e3.cell c1
  replace i1 := i1.ext e3
  replace i2 := i2.ext e3
  have i0 := hI.ext (eW.trans e3)
  replace eW := eW.trans e3
  have HI := Lib.hid (And.intro i0 (And.intro i1 i2))
  clear i0 i1 i2 e3
  rcases Int.lt_or_le z (-9223372036854775808) with hz | hz
  · have HK : Hid (cmpZ z (-9223372036854775808) = -1) := Lib.hid (cmpZ_lt hz)
    have HO := Lib.hid (i64_out (z := z) (.inl hz))
    clear hz
    go_wp2_with fail
    refine (rcmp_as HK HI.out.1 HI.out.2.1).mono ?_
    rintro e w4 ⟨rfl, e4⟩
    go_wp2
    go_ret2
    exact ⟨ret2 HO.out.1.symm HO.out.2.symm, eW.trans e4⟩
  have HK : Hid (∃ k, cmpZ z (-9223372036854775808) = k ∧ 0 ≤ k) := Lib.hid ⟨_, rfl, cmpZ_nonneg hz⟩
  obtain ⟨k, HK1, hk⟩ := HK.out
  replace HK1 := Lib.hid HK1
  clear HK
  rcases Int.lt_or_le 9223372036854775807 z with hy | hy
  · have HK2 : Hid (cmpZ z 9223372036854775807 = 1) := Lib.hid (cmpZ_gt hy)
    have HO := Lib.hid (i64_out (z := z) (.inr hy))
    clear hz hy
    go_wp2_with fail
    refine (rcmp_as HK1 HI.out.1 HI.out.2.1).mono ?_
    rintro e w4 ⟨rfl, e4⟩
    replace c0 := e4.cell c0
    replace c1 := e4.cell c1
    replace m0 := e4.cell m0
    replace m1 := e4.cell m1
    go_wp2_with fail
    refine (rcmp_as HK2 (HI.out.1.ext e4) (HI.out.2.2.ext e4)).mono ?_
    rintro e w5 ⟨rfl, e5⟩
    go_wp2
    go_ret2
    exact ⟨ret2 HO.out.1.symm HO.out.2.symm, (eW.trans e4).trans e5⟩
  have HK : Hid (∃ k, cmpZ z 9223372036854775807 = k ∧ k ≤ 0) := Lib.hid ⟨_, rfl, cmpZ_nonpos hy⟩
  obtain ⟨k', HK2, hk'⟩ := HK.out
  replace HK2 := Lib.hid HK2
  clear HK
  have HZ := Lib.hid (i64_in hz hy)
  have HN := Lib.hid (And.intro hz hy)
  clear hz hy
  go_wp2_with fail
  refine (rcmp_as HK1 HI.out.1 HI.out.2.1).mono ?_
  rintro e w4 ⟨rfl, e4⟩
  replace c0 := e4.cell c0
  replace c1 := e4.cell c1
  replace m0 := e4.cell m0
  replace m1 := e4.cell m1
  go_wp2_with fail
  refine (rcmp_as HK2 (HI.out.1.ext e4) (HI.out.2.2.ext e4)).mono ?_
  rintro e w5 ⟨rfl, e5⟩
  replace c0 := e5.cell c0
  replace c1 := e5.cell c1
  replace eW := (eW.trans e4).trans e5
  clear e4 e5 m0 m1 l0 l1
  have hsc := short_calls w5 ao (limbs n) cap HC.out.1 HC.out.2.1 (HC.out.2.2.ext eW) (by rw [val_limbs]; have := H4.out; have := HN.out; omega)
  rw [val_limbs] at hsc
  have HS := Lib.hid hsc
  clear hsc
  go_wp2_with fail
  refine HS.out.mono ?_
  rintro e w6 ⟨rfl, rfl⟩
  generalize hm : (n : Int) = m
  have HM := Lib.hid hm
  clear hm
  cases s
  · go_wp2
    go_ret2
    exact ⟨ret2 (by rw [HZ.out.1, H5.out]; have := HN.out; have := HM.out; have := H5.out; simp [sgn] at this ⊢; exact (wrap64_small n HM.out (by omega)).trans HM.out.symm) HZ.out.2.symm, eW⟩
  · have HP := Lib.hid (H6.out rfl)
    go_wp2
    go_ret2
    exact ⟨ret2 (by rw [HZ.out.1, H5.out]; have := HN.out; have := HP.out; have := H5.out; have := H4.out; simp [sgn]; exact neg_conv2 n HM.out (by omega) (by omega)) HZ.out.2.symm, eW⟩

end Go.Proofs.Ytljmcnbpbjifiaa
