/-
  What the statement on products does when it is called.
-/
import Derived.Test.YtfjaboolfjgleaaSmall
namespace Go.Proofs.Ytfjaboolfjgleaa
open Go.RowKit

theorem item_new2 {w : World} {b1 b2 : Bool} {a1 a2 : Option Addr} {x1 x2 : List Nat} {c1 c2 : Nat} (k1 : x1.length ≤ c1) (k2 : x2.length ≤ c2) (l1 : c1 ≤ 9223372036854775807) (l2 : c2 ≤ 9223372036854775807) (h1 : Cells w a1 x1) (h2 : Cells w a2 x2) :
    ∀ k, k < [(b1, x1), (b2, x2)].length → Item (w.alloc (.cells #[.bool b1, .slice a1 x1.length c1, .bool b2, .slice a2 x2.length c2] 24)) w.heap.size k ([(b1, x1), (b2, x2)].getD k (false, [])) := by
  have e := (Ext.refl w).alloc (.cells #[.bool b1, .slice a1 x1.length c1, .bool b2, .slice a2 x2.length c2] 24)
  intro k hk
  match k, hk with
  | 0, _ => exact ⟨a1, c1, by simp, by simp, k1, l1, h1.ext e⟩
  | 1, _ => exact ⟨a2, c2, by simp, by simp, k2, l2, h2.ext e⟩
theorem smB_int {w : World} {v : Value} {neg : Bool} {xs : List Nat} (h : Raw w v neg xs) (hs : smB (neg, xs) = true) : IsInt w v (sgn neg (val xs)) ∧ xs.length ≤ 16 ∧ Sm (sgn neg (val xs)) := by
  unfold smB at hs
  rw [Bool.and_eq_true, decide_eq_true_iff] at hs
  obtain ⟨h1, h2⟩ := okB_int h hs.2
  exact ⟨h1, hs.1, by unfold Sm; rw [natAbs_sgn, h2]; have := hs.1; simp at this; omega⟩

set_option maxRecDepth 100000 in
set_option maxHeartbeats 3200000 in
theorem lawMul_calls (w : World) (v1 v2 : Value) (s s' : Bool) (xs ys : List Nat) (h : Raw w v1 s xs) (k : Raw w v2 s' ys) :
    Calls Try.prog 6 #[v1, v2] w fun e w' => e = .returned (.bool true) ∧ Ext w w' := by
  have hR := h
  have kR := k
  obtain ⟨ao, cap, rfl, h1, h2, h3⟩ := h
  obtain ⟨ao', cap', rfl, k1, k2, k3⟩ := k
  obtain ⟨W, hW, eW, _, c0, c1, d0, d1⟩ := boxes2 w (.bool s) (.slice ao xs.length cap) (.bool s') (.slice ao' ys.length cap') 24
  have HI := Lib.hid (And.intro h1 (And.intro h2 (And.intro h3 (And.intro k1 (And.intro k2 k3)))))
  clear h1 h2 h3 k1 k2 k3
  go_enter Try.func6, Try.ntmps6
  go_wp2_with fail
  clear hW
  refine (awake_calls _).mono ?_
  rintro e w1 ⟨rfl, e1⟩
  replace c0 := e1.cell c0
  replace c1 := e1.cell c1
  replace d0 := e1.cell d0
  replace d1 := e1.cell d1
  replace eW := eW.trans e1
  clear e1
  have hsm := Lib.hid (small_calls _ w1.heap.size [(s, xs), (s', ys)] (by simp) (item_new2 HI.out.1 HI.out.2.2.2.1 HI.out.2.1 HI.out.2.2.2.2.1 (HI.out.2.2.1.ext eW) (HI.out.2.2.2.2.2.ext eW)))
  go_wp2_with fail
  refine hsm.out.mono ?_
  rintro e w2 ⟨rfl, e2⟩
  replace e2 := ((Ext.refl w1).alloc _).trans e2
  replace c0 := e2.cell c0
  replace c1 := e2.cell c1
  replace d0 := e2.cell d0
  replace d1 := e2.cell d1
  replace eW := eW.trans e2
  clear e2 hsm HI
  cases hb : [(s, xs), (s', ys)].all smB
  · clear hb
    go_wp2_with fail
    refine (awake_calls _).mono ?_
    rintro e w3 ⟨rfl, e3⟩
    go_wp2
    go_ret
    exact ⟨rfl, eW.trans e3⟩
  · have hb1 : smB (s, xs) = true ∧ smB (s', ys) = true := by simpa using hb
    obtain ⟨i1, l1, m1⟩ := smB_int hR hb1.1
    obtain ⟨i2, l2, m2⟩ := smB_int kR hb1.2
    have HP1 := Lib.hid (cp_calls w2.drew _ s xs (hR.ext eW.drew) (by omega))
    have HL := Lib.hid (And.intro l1 l2)
    have HB := Lib.hid hb1
    have c0d : w2.drew.cell? ⟨w.heap.size, 0, none⟩ = some (.bool s) := c0
    have c1d : w2.drew.cell? ⟨w.heap.size, 1, none⟩ = some (.slice ao xs.length cap) := c1
    have d0d : w2.drew.cell? ⟨w.heap.size + 1, 0, none⟩ = some (.bool s') := d0
    have d1d : w2.drew.cell? ⟨w.heap.size + 1, 1, none⟩ = some (.slice ao' ys.length cap') := d1
    clear hb hb1 l1 l2
    go_wp2_with fail
    go_region_held3 (fun w' => w'.cell? ⟨w.heap.size, 0, none⟩ = some (.bool s) ∧ w'.cell? ⟨w.heap.size, 1, none⟩ = some (.slice ao xs.length cap) ∧ w'.cell? ⟨w.heap.size + 1, 0, none⟩ = some (.bool s') ∧ w'.cell? ⟨w.heap.size + 1, 1, none⟩ = some (.slice ao' ys.length cap'))
      (first | with_reducible exact ⟨c0d, c1d, d0d, d1d⟩ | with_reducible exact ⟨p0, p1, p2, p3⟩ | with_reducible exact ⟨q0, q1, q2, q3⟩ | with_reducible exact ⟨r0, r1, r2, r3⟩ | with_reducible exact ⟨t0, t1, t2, t3⟩ | with_reducible exact ⟨u0, u1, u2, u3⟩) ((first
        | (go_at_call 13; ((with_reducible refine HP1.out.mono ?_)); rintro e w3 ⟨x3, rfl, hx3, e3⟩; have p0 := e3.of_drew.cell c0; have p1 := e3.of_drew.cell c1; have p2 := e3.of_drew.cell d0; have p3 := e3.of_drew.cell d1)
        | (go_at_call 13; ((with_reducible refine (cp_calls _ _ s' ys (kR.ext (eW.trans e3.of_drew)) (by have := HL.out.2; omega)).mono ?_)); rintro e w4 ⟨x4, rfl, hx4, e4⟩; have q0 := e4.cell p0; have q1 := e4.cell p1; have q2 := e4.cell p2; have q3 := e4.cell p3)
        | (go_at_call 31; refine (mul_calls _ _ _ _ _ (smB_int (hx3.ext e4) HB.out.1).1 (smB_int hx4 HB.out.2).1 m1 m2).mono ?_; rintro e w5 ⟨x5, rfl, hx5, e5⟩; have r0 := e5.cell q0; have r1 := e5.cell q1; have r2 := e5.cell q2; have r3 := e5.cell q3)
        | (go_at_call 32; have eX := ((eW.trans e3.of_drew).trans e4).trans e5; refine (rmul_calls _ _ _ _ _ (i1.ext eX) (i2.ext eX) m1 m2).mono ?_; rintro e w6 ⟨x6, rfl, hx6, e6⟩; have t0 := e6.cell r0; have t1 := e6.cell r1; have t2 := e6.cell r2; have t3 := e6.cell r3)
        | (go_at_call 19; refine (same_calls _ _ _ _ _ (hx5.ext e6) hx6).mono ?_; rintro e w7 ⟨rfl, e7⟩; have u0 := e7.cell t0; have u1 := e7.cell t1; have u2 := e7.cell t2; have u3 := e7.cell t3)))
    go_wp2
    go_ret
    exact ⟨ret_bool (by simp), (((((eW.trans e3.of_drew).trans e4).trans e5).trans e6).trans e7)⟩

end Go.Proofs.Ytfjaboolfjgleaa
