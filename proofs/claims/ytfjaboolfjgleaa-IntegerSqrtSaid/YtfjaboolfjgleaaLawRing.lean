/-
  What the statement on sums, products and the order does when it is called.
-/
import Derived.Test.YtfjaboolfjgleaaLawMul
import Derived.Test.YtfjaboolfjgleaaLim
namespace Go.Proofs.Ytfjaboolfjgleaa
open Go.RowKit

theorem item_new3 {w : World} {b1 b2 b3 : Bool} {a1 a2 a3 : Option Addr} {x1 x2 x3 : List Nat} {c1 c2 c3 : Nat} (k1 : x1.length ≤ c1) (k2 : x2.length ≤ c2) (k3 : x3.length ≤ c3) (l1 : c1 ≤ 9223372036854775807) (l2 : c2 ≤ 9223372036854775807) (l3 : c3 ≤ 9223372036854775807) (h1 : Cells w a1 x1) (h2 : Cells w a2 x2) (h3 : Cells w a3 x3) :
    ∀ k, k < [(b1, x1), (b2, x2), (b3, x3)].length → Item (w.alloc (.cells #[.bool b1, .slice a1 x1.length c1, .bool b2, .slice a2 x2.length c2, .bool b3, .slice a3 x3.length c3] 24)) w.heap.size k ([(b1, x1), (b2, x2), (b3, x3)].getD k (false, [])) := by
  have e := (Ext.refl w).alloc (.cells #[.bool b1, .slice a1 x1.length c1, .bool b2, .slice a2 x2.length c2, .bool b3, .slice a3 x3.length c3] 24)
  intro k hk
  match k, hk with
  | 0, _ => exact ⟨a1, c1, by simp, by simp, k1, l1, h1.ext e⟩
  | 1, _ => exact ⟨a2, c2, by simp, by simp, k2, l2, h2.ext e⟩
  | 2, _ => exact ⟨a3, c3, by simp, by simp, k3, l3, h3.ext e⟩
/-- Three structs, boxed one behind the other: their cells. -/
theorem boxes3 (w : World) (u0 u1 v0 v1 x0 x1 : Value) (t : TypeId) : ∃ W, (((w.alloc (.cells #[u0, u1] t)).alloc (.cells #[v0, v1] t)).alloc (.cells #[x0, x1] t)) = W ∧ Ext w W ∧
    W.cell? ⟨w.heap.size, 0, none⟩ = some u0 ∧ W.cell? ⟨w.heap.size, 1, none⟩ = some u1 ∧ W.cell? ⟨w.heap.size + 1, 0, none⟩ = some v0 ∧ W.cell? ⟨w.heap.size + 1, 1, none⟩ = some v1 ∧ W.cell? ⟨w.heap.size + 2, 0, none⟩ = some x0 ∧ W.cell? ⟨w.heap.size + 2, 1, none⟩ = some x1 := by
  obtain ⟨V, hV, eV, hz, c0, c1, d0, d1⟩ := boxes2 w u0 u1 v0 v1 t
  have e := (Ext.refl V).alloc (.cells #[x0, x1] t)
  refine ⟨_, rfl, ?_, ?_, ?_, ?_, ?_, ?_, ?_⟩
  all_goals rw [hV]
  · exact eV.trans e
  · exact e.cell c0
  · exact e.cell c1
  · exact e.cell d0
  · exact e.cell d1
  · rw [← hz]; simp
  · rw [← hz]; simp
theorem smB_lim {w : World} {v : Value} {neg : Bool} {xs : List Nat} (h : Raw w v neg xs) (hs : smB (neg, xs) = true) : Lim 16 (sgn neg (val xs)) := by
  have h0 := hs
  unfold smB at hs
  rw [Bool.and_eq_true, decide_eq_true_iff] at hs
  unfold Lim
  rw [natAbs_sgn, (okB_int h hs.2).2]
  exact hs.1
theorem cmpZ_add (a b c : Int) : cmpZ (a + c) (b + c) = cmpZ a b := by
  have := cmpZ_cases (a + c) (b + c)
  have := cmpZ_cases a b
  omega
theorem cmpZ_mul (a b c : Int) : cmpZ (a * c) (b * c) = cmpZ a b * cmpZ c 0 := by
  rcases Int.lt_trichotomy c 0 with h | h | h
  · rw [cmpZ_lt h]
    rcases Int.lt_trichotomy a b with h1 | h1 | h1
    · rw [cmpZ_lt h1, cmpZ_gt (Int.mul_lt_mul_of_neg_right h1 h)]; rfl
    · subst h1; rw [cmpZ_eq rfl, cmpZ_eq rfl]; rfl
    · rw [cmpZ_gt h1, cmpZ_lt (Int.mul_lt_mul_of_neg_right h1 h)]; rfl
  · subst h; rw [Int.mul_zero, Int.mul_zero, cmpZ_eq rfl, Int.mul_zero]
  · rw [cmpZ_gt h]
    rcases Int.lt_trichotomy a b with h1 | h1 | h1
    · rw [cmpZ_lt h1, cmpZ_lt (Int.mul_lt_mul_of_pos_right h1 h)]; rfl
    · subst h1; rw [cmpZ_eq rfl, cmpZ_eq rfl]; rfl
    · rw [cmpZ_gt h1, cmpZ_gt (Int.mul_lt_mul_of_pos_right h1 h)]; rfl
theorem wrap_small (a b c d : Int) : (cmpZ a b * cmpZ c d == IntKind.i64.wrap (cmpZ a b * cmpZ c d)) = true := by
  have h : -1 ≤ cmpZ a b * cmpZ c d ∧ cmpZ a b * cmpZ c d ≤ 1 := by
    rcases cmpZ_cases a b with ⟨_, h1⟩ | ⟨_, h1⟩ | ⟨_, h1⟩ <;> rcases cmpZ_cases c d with ⟨_, h2⟩ | ⟨_, h2⟩ | ⟨_, h2⟩ <;> rw [h1, h2] <;> decide
  rw [IntKind.wrap_i64, beq_iff_eq]
  omega
theorem cmpZ_range (a b : Int) : -1 ≤ cmpZ a b ∧ cmpZ a b ≤ 1 := by have := cmpZ_cases a b; omega
/-- The cells of the three arguments. -/
abbrev C6 (h : Nat) (a b c d e f : Value) (w : World) : Prop :=
  w.cell? ⟨h, 0, none⟩ = some a ∧ w.cell? ⟨h, 1, none⟩ = some b ∧ w.cell? ⟨h + 1, 0, none⟩ = some c ∧ w.cell? ⟨h + 1, 1, none⟩ = some d ∧ w.cell? ⟨h + 2, 0, none⟩ = some e ∧ w.cell? ⟨h + 2, 1, none⟩ = some f
theorem C6.ext {h : Nat} {a b c d e f : Value} {w w' : World} (k : C6 h a b c d e f w) (x : Ext w w') : C6 h a b c d e f w' :=
  ⟨x.cell k.1, x.cell k.2.1, x.cell k.2.2.1, x.cell k.2.2.2.1, x.cell k.2.2.2.2.1, x.cell k.2.2.2.2.2⟩

set_option maxRecDepth 100000 in
set_option maxHeartbeats 3200000 in
theorem lawRing_calls (w : World) (v1 v2 v3 : Value) (s1 s2 s3 : Bool) (xs ys zs : List Nat) (h : Raw w v1 s1 xs) (k : Raw w v2 s2 ys) (l : Raw w v3 s3 zs) :
    Calls Try.prog 7 #[v1, v2, v3] w fun e w' => e = .returned (.bool true) ∧ Ext w w' := by
  have hR := h
  have kR := k
  have lR := l
  obtain ⟨a1, p1, rfl, h1, h2, h3⟩ := h
  obtain ⟨a2, p2, rfl, k1, k2, k3⟩ := k
  obtain ⟨a3, p3, rfl, l1, l2, l3⟩ := l
  obtain ⟨W, hW, eW, c0, c1, d0, d1, g0, g1⟩ := boxes3 w (.bool s1) (.slice a1 xs.length p1) (.bool s2) (.slice a2 ys.length p2) (.bool s3) (.slice a3 zs.length p3) 24
  have HI := Lib.hid (And.intro h1 (And.intro h2 (And.intro h3 (And.intro k1 (And.intro k2 (And.intro k3 (And.intro l1 (And.intro l2 l3))))))))
  clear h1 h2 h3 k1 k2 k3 l1 l2 l3
  go_enter Try.func7, Try.ntmps7
  go_wp2_with fail
  clear hW
  refine (awake_calls _).mono ?_
  rintro e w1 ⟨rfl, e1⟩
  have C : C6 w.heap.size (.bool s1) (.slice a1 xs.length p1) (.bool s2) (.slice a2 ys.length p2) (.bool s3) (.slice a3 zs.length p3) w1 := C6.ext ⟨c0, c1, d0, d1, g0, g1⟩ e1
  replace eW := eW.trans e1
  clear e1 c0 c1 d0 d1 g0 g1
  obtain ⟨c0, c1, d0, d1, g0, g1⟩ := C
  have hsm := Lib.hid (small_calls _ w1.heap.size [(s1, xs), (s2, ys), (s3, zs)] (by simp) (item_new3 HI.out.1 HI.out.2.2.2.1 HI.out.2.2.2.2.2.2.1 HI.out.2.1 HI.out.2.2.2.2.1 HI.out.2.2.2.2.2.2.2.1 (HI.out.2.2.1.ext eW) (HI.out.2.2.2.2.2.1.ext eW) (HI.out.2.2.2.2.2.2.2.2.ext eW)))
  go_wp2_with fail
  refine hsm.out.mono ?_
  rintro e w2 ⟨rfl, e2⟩
  replace e2 := ((Ext.refl w1).alloc _).trans e2
  have C : C6 w.heap.size (.bool s1) (.slice a1 xs.length p1) (.bool s2) (.slice a2 ys.length p2) (.bool s3) (.slice a3 zs.length p3) w2 := C6.ext ⟨c0, c1, d0, d1, g0, g1⟩ e2
  replace eW := eW.trans e2
  clear e2 hsm HI c0 c1 d0 d1 g0 g1
  cases hb : [(s1, xs), (s2, ys), (s3, zs)].all smB
  · clear hb C
    go_wp2_with fail
    refine (awake_calls _).mono ?_
    rintro e w3 ⟨rfl, e3⟩
    go_wp2
    go_ret
    exact ⟨rfl, eW.trans e3⟩
  · have hb1 : smB (s1, xs) = true ∧ smB (s2, ys) = true ∧ smB (s3, zs) = true := by simpa using hb
    have i1 := (smB_int (hR.ext eW) hb1.1).1
    have i2 := (smB_int (kR.ext eW) hb1.2.1).1
    have i3 := (smB_int (lR.ext eW) hb1.2.2).1
    have m1 := smB_lim hR hb1.1
    have m2 := smB_lim kR hb1.2.1
    have m3 := smB_lim lR hb1.2.2
    clear hb hb1 hR kR lR
    generalize sgn s1 (val xs) = z1 at *
    generalize sgn s2 (val ys) = z2 at *
    generalize sgn s3 (val zs) = z3 at *
    obtain ⟨c0, c1, d0, d1, g0, g1⟩ := C
    go_wp2_with fail
    refine (cmp_calls _ _ _ _ _ i1 i2).mono ?_
    rintro e w3 ⟨rfl, e3⟩
    have C := C6.ext ⟨c0, c1, d0, d1, g0, g1⟩ e3
    replace i1 := i1.ext e3
    replace i2 := i2.ext e3
    replace i3 := i3.ext e3
    replace eW := eW.trans e3
    clear c0 c1 d0 d1 g0 g1 e3
    have Cd := C
    have Cdd : C6 w.heap.size (.bool s1) (.slice a1 xs.length p1) (.bool s2) (.slice a2 ys.length p2) (.bool s3) (.slice a3 zs.length p3) w3.drew := C
    have HD := Lib.hid (Int.add_mul z1 z2 z3).symm
    have HC := Lib.hid (cmpZ_add z1 z2 z3)
    go_wp2_with fail
    obtain ⟨c0, c1, d0, d1, g0, g1⟩ := C
    go_region_held3 (fun w' => w'.cell? ⟨w.heap.size, 0, none⟩ = some (.bool s1) ∧ w'.cell? ⟨w.heap.size, 1, none⟩ = some (.slice a1 xs.length p1) ∧ w'.cell? ⟨w.heap.size + 1, 0, none⟩ = some (.bool s2) ∧ w'.cell? ⟨w.heap.size + 1, 1, none⟩ = some (.slice a2 ys.length p2) ∧ w'.cell? ⟨w.heap.size + 2, 0, none⟩ = some (.bool s3) ∧ w'.cell? ⟨w.heap.size + 2, 1, none⟩ = some (.slice a3 zs.length p3))
      (first | with_reducible exact Cdd | with_reducible exact D1 | with_reducible exact D2 | with_reducible exact D3 | with_reducible exact D4 | with_reducible exact D5 | with_reducible exact D6 | with_reducible exact D7 | with_reducible exact D8 | with_reducible exact D9) ((first
        | (go_at_call 21; ((with_reducible refine (add_calls _ _ _ _ _ i1.drew i2.drew (m1.sm (by omega)) (m2.sm (by omega))).mono ?_)); rintro e u1 ⟨y1, rfl, hy1, f1⟩; have E1 := (Ext.refl w3).trans f1.of_drew; have D1 := Cd.ext E1)
        | (go_at_call 31; ((with_reducible refine (mul_calls _ _ _ _ _ hy1 (i3.ext E1) ((m1.add m2).sm (by omega)) (m3.sm (by omega))).mono ?_)); rintro e u2 ⟨y2, rfl, hy2, f2⟩; have E2 := E1.trans f2; have D2 := Cd.ext E2)
        | (go_at_call 31; ((with_reducible refine (mul_calls _ _ _ _ _ (i1.ext E2) (i3.ext E2) (m1.sm (by omega)) (m3.sm (by omega))).mono ?_)); rintro e u3 ⟨y3, rfl, hy3, f3⟩; have E3 := E2.trans f3; have D3 := Cd.ext E3)
        | (go_at_call 31; ((with_reducible refine (mul_calls _ _ _ _ _ (i2.ext E3) (i3.ext E3) (m2.sm (by omega)) (m3.sm (by omega))).mono ?_)); rintro e u4 ⟨y4, rfl, hy4, f4⟩; have E4 := E3.trans f4; have D4 := Cd.ext E4)
        | (go_at_call 21; ((with_reducible refine (add_calls _ _ _ _ _ (hy3.ext f4) hy4 ((m1.mul m3).sm (by omega)) ((m2.mul m3).sm (by omega))).mono ?_)); rintro e u5 ⟨y5, rfl, hy5, f5⟩; have E5 := E4.trans f5; have D5 := Cd.ext E5)
        | (go_at_call 19; ((with_reducible refine (same_true _ _ _ ((z1 + z2) * z3) (hy2.ext ((f3.trans f4).trans f5)) (HD.out ▸ hy5)).mono ?_)); rintro e u6 ⟨rfl, f6⟩; have E6 := E5.trans f6; have D6 := Cd.ext E6)
        | (go_at_call 21; ((with_reducible refine (add_calls _ _ _ _ _ (i1.ext E6) (i3.ext E6) (m1.sm (by omega)) (m3.sm (by omega))).mono ?_)); rintro e u7 ⟨y7, rfl, hy7, f7⟩; have E7 := E6.trans f7; have D7 := Cd.ext E7)
        | (go_at_call 21; ((with_reducible refine (add_calls _ _ _ _ _ (i2.ext E7) (i3.ext E7) (m2.sm (by omega)) (m3.sm (by omega))).mono ?_)); rintro e u8 ⟨y8, rfl, hy8, f8⟩; have E8 := E7.trans f8; have D8 := Cd.ext E8)
        | (go_at_call 29; ((with_reducible refine (cmp_calls _ _ _ _ _ (hy7.ext f8) hy8).mono ?_)); rintro e u9 ⟨rfl, f9⟩; have E9 := E8.trans f9; have D9 := Cd.ext E9)))
    rw [HC.out]
    replace i1 := i1.ext E9
    replace i2 := i2.ext E9
    replace i3 := i3.ext E9
    replace eW := eW.trans E9
    have D9d : C6 w.heap.size (.bool s1) (.slice a1 xs.length p1) (.bool s2) (.slice a2 ys.length p2) (.bool s3) (.slice a3 zs.length p3) u9.drew := D9
    have HM := Lib.hid (cmpZ_mul z1 z2 z3)
    have HR := Lib.hid (And.intro (cmpZ_range z1 z2) (cmpZ_range z3 0))
    clear c0 c1 d0 d1 g0 g1 E1 E2 E3 E4 E5 E6 E7 E8 E9 D1 D2 D3 D4 D5 D6 D7 D8 f1 f2 f3 f4 f5 f6 f7 f8 f9 hy1 hy2 hy3 hy4 hy5 hy7 hy8 HD HC Cd Cdd
    obtain ⟨c0, c1, d0, d1, g0, g1⟩ := id D9
    go_wp2_with fail
    go_region_held3 (fun w' => w'.cell? ⟨w.heap.size, 0, none⟩ = some (.bool s1) ∧ w'.cell? ⟨w.heap.size, 1, none⟩ = some (.slice a1 xs.length p1) ∧ w'.cell? ⟨w.heap.size + 1, 0, none⟩ = some (.bool s2) ∧ w'.cell? ⟨w.heap.size + 1, 1, none⟩ = some (.slice a2 ys.length p2) ∧ w'.cell? ⟨w.heap.size + 2, 0, none⟩ = some (.bool s3) ∧ w'.cell? ⟨w.heap.size + 2, 1, none⟩ = some (.slice a3 zs.length p3))
      (first | with_reducible exact D9d | with_reducible exact B1 | with_reducible exact B2 | with_reducible exact B3 | with_reducible exact B4) ((first
        | (go_at_call 31; ((with_reducible refine (mul_calls _ _ _ _ _ i1.drew i3.drew (m1.sm (by omega)) (m3.sm (by omega))).mono ?_)); rintro e t1 ⟨x1, rfl, hx1, g1⟩; have G1 := (Ext.refl u9).trans g1.of_drew; have B1 := D9.ext G1)
        | (go_at_call 31; ((with_reducible refine (mul_calls _ _ _ _ _ (i2.ext G1) (i3.ext G1) (m2.sm (by omega)) (m3.sm (by omega))).mono ?_)); rintro e t2 ⟨x2, rfl, hx2, g2⟩; have G2 := G1.trans g2; have B2 := D9.ext G2)
        | (go_at_call 29; ((with_reducible refine (cmp_calls _ _ _ _ _ (hx1.ext g2) hx2).mono ?_)); rintro e t3 ⟨rfl, g3⟩; have G3 := G2.trans g3; have B3 := D9.ext G3)
        | (go_at_call 27; ((with_reducible refine (sign_calls _ _ _ (i3.ext G3)).mono ?_)); rintro e t4 ⟨rfl, g4⟩; have G4 := G3.trans g4; have B4 := D9.ext G4)))
    rw [HM.out]
    go_wp2
    go_ret
    exact ⟨ret_bool (wrap_small _ _ _ _), eW.trans G4⟩

end Go.Proofs.Ytfjaboolfjgleaa
