/-
  awake returns true.
-/
import Derived.Test.YtfjaboolfjgleaaAwake
namespace Go.Proofs.Ytfjaboolfjgleaa
open Go.RowKit

theorem dm_7_2 {q r : Int} (h : DM (-7) 2 q r) : q = -4 ∧ r = 1 := by obtain ⟨h1, h2, _⟩ := h; omega
theorem dm_7_m2 {q r : Int} (h : DM 7 (-2) q r) : q = -4 ∧ r = -1 := by obtain ⟨h1, h2, _⟩ := h; omega
theorem sm_lit {z : Int} (h : z.natAbs < 1000000000) : Sm z := by
  unfold Sm; have := limbs_len_le (n := z.natAbs) (k := 1) (by omega); omega
theorem divOK_lit (m n : Nat) (hm : m < 1000000000) (hn : n < 1000000000) (h0 : 0 < n) : DivOK m n := by
  have l1 := limbs_len_le (n := m) (k := 1) (by omega)
  by_cases h : (limbs m).length < (limbs n).length
  · exact divOK_less m n (by omega) h
  · exact divOK_small m n h (by omega) (by omega)
theorem fi (w : World) (n : Int) (h1 : -1000000000 ≤ n) (h2 : n ≤ 1000000000) : Calls Try.prog 17 #[.int .i64 n] w (Ret (fun v w' => IsInt w' v n) w) := fromInt64_calls w n (by omega) (by omega)
theorem dm1 (w : World) (v1 v2 : Value) (h : IsInt w v1 (-7)) (k : IsInt w v2 2) :
    Calls Try.prog 33 #[v1, v2] w fun e w' => ∃ u1 u2, e = .returned (.tuple #[u1, u2, .int .i64 0]) ∧ IsInt w' u1 (-4) ∧ IsInt w' u2 1 ∧ Ext w w' :=
  (divMod_calls w v1 v2 (-7) 2 h k (sm_lit (by decide)) (sm_lit (by decide)) (by omega) (divOK_lit _ _ (by decide) (by decide) (by decide))).mono fun e w' ⟨u1, u2, q, r, he, h1, h2, h3, h4⟩ => by
    obtain ⟨rfl, rfl⟩ := dm_7_2 h3
    exact ⟨u1, u2, he, h1, h2, h4⟩
theorem dm2 (w : World) (v1 v2 : Value) (h : IsInt w v1 7) (k : IsInt w v2 (-2)) :
    Calls Try.prog 33 #[v1, v2] w fun e w' => ∃ u1 u2, e = .returned (.tuple #[u1, u2, .int .i64 0]) ∧ IsInt w' u1 (-4) ∧ IsInt w' u2 (-1) ∧ Ext w w' :=
  (divMod_calls w v1 v2 7 (-2) h k (sm_lit (by decide)) (sm_lit (by decide)) (by omega) (divOK_lit _ _ (by decide) (by decide) (by decide))).mono fun e w' ⟨u1, u2, q, r, he, h1, h2, h3, h4⟩ => by
    obtain ⟨rfl, rfl⟩ := dm_7_m2 h3
    exact ⟨u1, u2, he, h1, h2, h4⟩

theorem isInt_1e9 (w : World) : IsInt (w.alloc (.cells #[.int .u32 0, .int .u32 1] 46)) (.agg #[.bool false, .slice (some ⟨w.heap.size, 0, none⟩) 2 2]) 1000000000 := by
  have hl : limbs 1000000000 = [0, 1] := by
    rw [limbs_step (by omega), show 1000000000 % 1000000000 = 0 from rfl, show 1000000000 / 1000000000 = 1 from rfl, limbs_step (by omega), show 1 % 1000000000 = 1 from rfl, show 1 / 1000000000 = 0 from rfl, limbs_zero]
  have hn : (1000000000 : Int).natAbs = 1000000000 := rfl
  refine ⟨some ⟨w.heap.size, 0, none⟩, 2, ?_, ?_, by omega, ?_⟩
  · rw [hn, hl]; rfl
  · rw [hn, hl]; simp
  · rw [hn, hl]; exact (Blk.new w [0, 1]).cells
theorem gcd1 (w : World) (v1 v2 : Value) (h : IsInt w v1 (-12)) (k : IsInt w v2 18) : Calls Try.prog 36 #[v1, v2] w (Ret (fun v w' => IsInt w' v 6) w) :=
  gcd_small w v1 v2 (-12) 18 h k (sm_lit (by decide)) (sm_lit (by decide)) ⟨limbs_len_le (by decide), limbs_len_le (by decide)⟩
    (fun m n hn hmn => by
      refine divOK_lit m n ?_ ?_ hn
      · rcases hmn with ⟨rfl, _⟩ | ⟨rfl, _⟩ <;> decide
      · rcases hmn with ⟨_, rfl⟩ | ⟨_, rfl⟩ <;> decide)
theorem is_true (w : World) (v : Value) (n : Int) (h : IsInt w v n) (h1 : -1000000000 ≤ n) (h2 : n ≤ 1000000000) :
    Calls Try.prog 34 #[v, .int .i64 n] w fun e w' => e = .returned (.bool true) ∧ Ext w w' :=
  (is_calls w v n n h (by omega) (by omega)).mono fun _ _ ⟨he, hE⟩ => ⟨by rw [he, decide_eq_true rfl], hE⟩
theorem same_true (w : World) (v1 v2 : Value) (n : Int) (h : IsInt w v1 n) (k : IsInt w v2 n) :
    Calls Try.prog 19 #[v1, v2] w fun e w' => e = .returned (.bool true) ∧ Ext w w' :=
  (same_calls w v1 v2 n n h k).mono fun _ _ ⟨he, hE⟩ => ⟨by rw [he, decide_eq_true rfl], hE⟩

set_option maxRecDepth 100000 in
set_option maxHeartbeats 6400000 in
theorem awake_calls (w : World) : Calls Try.prog 11 #[] w fun e w' => e = .returned (.bool true) ∧ Ext w w' := by
  go_enter Try.func11, Try.ntmps11
  go_wp2_with fail
  refine (fi _ (-7) (by omega) (by omega)).mono ?_
  rintro e w1 ⟨a1, rfl, i1, e1⟩
  go_wp2_with fail
  refine (fi _ 2 (by omega) (by omega)).mono ?_
  rintro e w2 ⟨a2, rfl, i2, e2⟩
  go_wp2_with fail
  refine (dm1 _ _ _ (i1.ext e2) i2).mono ?_
  rintro e w3 ⟨q1, r1, rfl, jq1, jr1, e3⟩
  obtain ⟨ao1, cap1, s1, n1, rfl, _⟩ := jq1.open_
  obtain ⟨ao2, cap2, s2, n2, rfl, _⟩ := jr1.open_
  have E := (e1.trans e2).trans e3
  clear i1 i2 e1 e2 e3
  obtain ⟨W1, hW1, eW1, _, cq0, cq1, cr0, cr1⟩ := boxes2 w3 (.bool s1) (.slice ao1 (limbs n1).length cap1) (.bool s2) (.slice ao2 (limbs n2).length cap2) 24
  replace E := E.trans eW1
  have F1 := Lib.hid (And.intro (jq1.ext eW1) (And.intro (jr1.ext eW1) (And.intro cq0 (And.intro cq1 (And.intro cr0 cr1)))))
  clear jq1 jr1 cq0 cq1 cr0 cr1 eW1
  go_wp2_with fail
  clear hW1
  refine (fi _ 7 (by omega) (by omega)).mono ?_
  rintro e w4 ⟨a4, rfl, i4, e4⟩
  go_wp2_with fail
  refine (fi _ (-2) (by omega) (by omega)).mono ?_
  rintro e w5 ⟨a5, rfl, i5, e5⟩
  go_wp2_with fail
  refine (dm2 _ _ _ (i4.ext e5) i5).mono ?_
  rintro e w6 ⟨q2, r2, rfl, jq2, jr2, e6⟩
  obtain ⟨ao3, cap3, s3, n3, rfl, _⟩ := jq2.open_
  obtain ⟨ao4, cap4, s4, n4, rfl, _⟩ := jr2.open_
  have G1 := (e4.trans e5).trans e6
  clear i4 i5 e4 e5 e6
  obtain ⟨W2, hW2, eW2, _, cq0, cq1, cr0, cr1⟩ := boxes2 w6 (.bool s3) (.slice ao3 (limbs n3).length cap3) (.bool s4) (.slice ao4 (limbs n4).length cap4) 24
  replace G1 := G1.trans eW2
  have F2 := Lib.hid (And.intro (jq2.ext eW2) (And.intro (jr2.ext eW2) (And.intro cq0 (And.intro cq1 (And.intro cr0 cr1)))))
  clear jq2 jr2 cq0 cq1 cr0 cr1 eW2
  go_wp2_with fail
  clear hW2
  refine (fi _ 99 (by omega) (by omega)).mono ?_
  rintro e w7 ⟨a7, rfl, i7, e7⟩
  go_wp2_with fail
  refine (sqrt_99 _ _ i7).mono ?_
  rintro e w8 ⟨u8, rfl, ju, e8⟩
  obtain ⟨ao5, cap5, s5, n5, rfl, _⟩ := ju.open_
  have G2 := e7.trans e8
  clear i7 e7 e8
  obtain ⟨W3, hW3, eW3, cu0, cu1⟩ := box1 w8 (.bool s5) (.slice ao5 (limbs n5).length cap5) 24
  replace G2 := G2.trans eW3
  have F3 := Lib.hid (And.intro (ju.ext eW3) (And.intro cu0 cu1))
  clear ju cu0 cu1 eW3
  go_wp2_with fail
  clear hW3
  refine (parse_0 _).mono ?_
  rintro e w9 ⟨rfl, e9⟩
  go_wp2_with fail
  refine (parse_01 _).mono ?_
  rintro e w10 ⟨rfl, e10⟩
  have G3 := ((e9.trans ((Ext.refl w9).alloc (.cells #[.bool false, .slice none 0 0] 24))).trans e10).trans ((Ext.refl w10).alloc (.cells #[.bool false, .slice none 0 0] 24))
  clear e9 e10
  go_wp2_with fail
  refine (fi _ 1000000000 (by omega) (by omega)).mono ?_
  rintro e w11 ⟨a11, rfl, i11, e11⟩
  go_wp2_with fail
  refine (same_true _ _ _ 1000000000 (i11.ext ((Ext.refl w11).alloc _)) (isInt_1e9 w11)).mono ?_
  rintro e w12 ⟨rfl, e12⟩
  have G4 := (G3.trans e11).trans (((Ext.refl w11).alloc _).trans e12)
  clear G3 e11 e12 i11
  have H3 := F3.out
  have H2 := F2.out
  have H1 := F1.out
  have x3 := G4
  have x2 := G2.trans G4
  have x1 := G1.trans x2
  have JQ1 := Lib.hid (H1.1.ext x1)
  have JR1 := Lib.hid (H1.2.1.ext x1)
  have JQ2 := Lib.hid (H2.1.ext x2)
  have JR2 := Lib.hid (H2.2.1.ext x2)
  have JU := Lib.hid (H3.1.ext x3)
  have CQ1 := Lib.hid (And.intro (x1.cell H1.2.2.1) (x1.cell H1.2.2.2.1))
  have CR1 := Lib.hid (And.intro (x1.cell H1.2.2.2.2.1) (x1.cell H1.2.2.2.2.2))
  have CQ2 := Lib.hid (And.intro (x2.cell H2.2.2.1) (x2.cell H2.2.2.2.1))
  have CR2 := Lib.hid (And.intro (x2.cell H2.2.2.2.2.1) (x2.cell H2.2.2.2.2.2))
  have CU := Lib.hid (And.intro (x3.cell H3.2.1) (x3.cell H3.2.2))
  replace E := E.trans x1
  clear H1 H2 H3 x1 x2 x3 G1 G2 G4 F1 F2 F3
  obtain ⟨k0, k1⟩ := CQ1.out
  go_wp2_with fail
  clear k0 k1
  refine (is_true _ _ (-4) JQ1.out (by omega) (by omega)).mono ?_
  rintro e w13 ⟨rfl, y⟩
  obtain ⟨k0, k1⟩ := CR1.out
  replace k0 := y.cell k0
  replace k1 := y.cell k1
  go_wp2_with fail
  clear k0 k1
  refine (is_true _ _ 1 (JR1.out.ext y) (by omega) (by omega)).mono ?_
  rintro e w14 ⟨rfl, e14⟩
  replace y := y.trans e14
  clear e14
  obtain ⟨k0, k1⟩ := CQ2.out
  replace k0 := y.cell k0
  replace k1 := y.cell k1
  go_wp2_with fail
  clear k0 k1
  refine (is_true _ _ (-4) (JQ2.out.ext y) (by omega) (by omega)).mono ?_
  rintro e w15 ⟨rfl, e15⟩
  replace y := y.trans e15
  clear e15
  obtain ⟨k0, k1⟩ := CR2.out
  replace k0 := y.cell k0
  replace k1 := y.cell k1
  go_wp2_with fail
  clear k0 k1
  refine (is_true _ _ (-1) (JR2.out.ext y) (by omega) (by omega)).mono ?_
  rintro e w16 ⟨rfl, e16⟩
  replace y := y.trans e16
  clear e16
  obtain ⟨k0, k1⟩ := CU.out
  replace k0 := y.cell k0
  replace k1 := y.cell k1
  go_wp2_with fail
  clear k0 k1
  refine (is_true _ _ 9 (JU.out.ext y) (by omega) (by omega)).mono ?_
  rintro e w17 ⟨rfl, e17⟩
  replace y := y.trans e17
  clear e17
  go_wp2_with fail
  refine (fi _ (-12) (by omega) (by omega)).mono ?_
  rintro e w18 ⟨a18, rfl, i18, e18⟩
  go_wp2_with fail
  refine (fi _ 18 (by omega) (by omega)).mono ?_
  rintro e w19 ⟨a19, rfl, i19, e19⟩
  go_wp2_with fail
  refine (gcd1 _ _ _ (i18.ext e19) i19).mono ?_
  rintro e w20 ⟨a20, rfl, i20, e20⟩
  go_wp2_with fail
  refine (is_true _ _ 6 i20 (by omega) (by omega)).mono ?_
  rintro e w21 ⟨rfl, e21⟩
  go_wp2
  go_ret
  exact ⟨rfl, (E.trans y).trans (((e18.trans e19).trans e20).trans e21)⟩

end Go.Proofs.Ytfjaboolfjgleaa
