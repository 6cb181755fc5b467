/-
  What the statement on sums, differences, negation, signs and the order does when it is called.
-/
import Derived.Test.YtljmcnbpbjifiaaLawRing
import Derived.Deep.DeepCutAuto
namespace Go.Proofs.Ytljmcnbpbjifiaa
open Go.RowKit

abbrev C4 (h : Nat) (a b c d : Value) (w : World) : Prop :=
  w.cell? ⟨h, 0, none⟩ = some a ∧ w.cell? ⟨h, 1, none⟩ = some b ∧ w.cell? ⟨h + 1, 0, none⟩ = some c ∧ w.cell? ⟨h + 1, 1, none⟩ = some d
theorem C4.ext {h : Nat} {a b c d : Value} {w w' : World} (k : C4 h a b c d w) (x : Ext w w') : C4 h a b c d w' :=
  ⟨x.cell k.1, x.cell k.2.1, x.cell k.2.2.1, x.cell k.2.2.2⟩

/-- A struct's block as it is made: two cells, not frozen. -/
def Fresh (w : World) (b : Nat) : Prop :=
  w.cell? ⟨b, 0, none⟩ = some (.bool false) ∧ w.cell? ⟨b, 1, none⟩ = some (.slice none 0 0) ∧ w.frozen? ⟨b, 0, none⟩ = false ∧ w.frozen? ⟨b, 1, none⟩ = false
theorem Fresh.ext {w w' : World} {b : Nat} (h : Fresh w b) (e : Ext w w') : Fresh w' b :=
  ⟨e.cell h.1, e.cell h.2.1, e.frozen (lt_of_cell h.1) h.2.2.1, e.frozen (lt_of_cell h.2.1) h.2.2.2⟩
theorem fresh_new (w : World) (t : TypeId) : Fresh (w.alloc (.cells #[.bool false, .slice none 0 0] t)) w.heap.size := by
  obtain ⟨W, hW, _, _, h1, h2, h3, h4⟩ := res_new w t
  rw [hW]
  exact ⟨h1, h2, h3, h4⟩
theorem fresh_snd (w : World) (o : Obj) (t : TypeId) : Fresh ((w.alloc o).alloc (.cells #[.bool false, .slice none 0 0] t)) (w.heap.size + 1) := by
  have := fresh_new (w.alloc o) t
  rw [World.size_alloc] at this
  exact this
theorem Fresh.alloc {w : World} {b : Nat} (h : Fresh w b) (o : Obj) : Fresh (w.alloc o) b := h.ext ((Ext.refl w).alloc o)

theorem Raw.set {w : World} {v : Value} {neg : Bool} {xs : List Nat} (h : Raw w v neg xs) {p : Addr} {u : Value} (hp : w.cell? p = some u) (hu : ∀ x, u ≠ .int .u32 x) (u' : Value) : Raw (w.setCell p u') v neg xs := by
  obtain ⟨ao, cap, h1, h2, h3, h4⟩ := h
  exact ⟨ao, cap, h1, h2, h3, h4.store hp hu u'⟩
/-- A struct's block: what its two cells hold. -/
def Struct (w : World) (b : Nat) (u0 u1 : Value) : Prop := w.cell? ⟨b, 0, none⟩ = some u0 ∧ w.cell? ⟨b, 1, none⟩ = some u1
theorem Struct.ext {w w' : World} {b : Nat} {u0 u1 : Value} (h : Struct w b u0 u1) (e : Ext w w') : Struct w' b u0 u1 := ⟨e.cell h.1, e.cell h.2⟩
theorem Struct.set {w : World} {b b' : Nat} {u0 u1 : Value} (h : Struct w b u0 u1) (hb : b' ≠ b) (j : Nat) (u : Value) : Struct (w.setCell ⟨b', j, none⟩ u) b u0 u1 :=
  ⟨by rw [World.cell?_setCell_far _ _ _ _ hb]; exact h.1, by rw [World.cell?_setCell_far _ _ _ _ hb]; exact h.2⟩
theorem Fresh.set {w : World} {b b' : Nat} (h : Fresh w b) (hb : b' ≠ b) (j : Nat) (u : Value) : Struct (w.setCell ⟨b', j, none⟩ u) b (.bool false) (.slice none 0 0) :=
  Struct.set ⟨h.1, h.2.1⟩ hb j u
theorem Struct.put {w : World} {b : Nat} {u0 u1 v0 v1 : Value} (h : Struct w b u0 u1) : Struct ((w.setCell ⟨b, 0, none⟩ v0).setCell ⟨b, 1, none⟩ v1) b v0 v1 := by
  constructor
  · rw [World.cell?_setCell_other _ _ _ _ (by simp)]
    exact World.cell?_setCell_same _ _ _ h.1
  · refine World.cell?_setCell_same _ _ _ (u := u1) ?_
    rw [World.cell?_setCell_other _ _ _ _ (by simp)]
    exact h.2
theorem Raw.put {w : World} {v : Value} {neg : Bool} {xs : List Nat} {b : Nat} (h : Raw w v neg xs) (k : Struct w b (.bool false) (.slice none 0 0)) (v0 v1 : Value) : Raw ((w.setCell ⟨b, 0, none⟩ v0).setCell ⟨b, 1, none⟩ v1) v neg xs := by
  refine (h.set k.1 (by simp) v0).set (u := .slice none 0 0) ?_ (by simp) v1
  rw [World.cell?_setCell_other _ _ _ _ (by simp)]
  exact k.2
theorem Ext.put {a w : World} (h : Ext a w) {b : Nat} (hb : a.heap.size ≤ b) (v0 v1 : Value) : Ext a ((w.setCell ⟨b, 0, none⟩ v0).setCell ⟨b, 1, none⟩ v1) :=
  (h.setCell (p := ⟨b, 0, none⟩) hb v0).setCell (p := ⟨b, 1, none⟩) hb v1
theorem struct_new (w : World) (u0 u1 : Value) (t : TypeId) : Struct (w.alloc (.cells #[u0, u1] t)) w.heap.size u0 u1 := ⟨by simp, by simp⟩
/-- Two variables that hold copies of the two arguments. -/
def TwoC (w2 : World) (s s' : Bool) (xs ys : List Nat) (p q : Value) (W : World) : Prop :=
  ∃ b1 b2 a3 p3 a4 p4, p = .pointer (some ⟨b1, 0, none⟩) ∧ q = .pointer (some ⟨b2, 0, none⟩) ∧ Struct W b1 (.bool s) (.slice a3 xs.length p3) ∧ Struct W b2 (.bool s') (.slice a4 ys.length p4) ∧
    Raw W (.agg #[.bool s, .slice a3 xs.length p3]) s xs ∧ Raw W (.agg #[.bool s', .slice a4 ys.length p4]) s' ys ∧ Ext w2 W
section
variable {w2 w4 : World} {s s' : Bool} {xs ys : List Nat} {a3 a4 : Option Addr} {p3 p4 : Nat} {t : TypeId}
theorem two_a (E : Ext w2 w4) (r1 : Raw w4 (.agg #[.bool s, .slice a3 xs.length p3]) s xs) (r2 : Raw w4 (.agg #[.bool s', .slice a4 ys.length p4]) s' ys) :
    TwoC w2 s s' xs ys (.pointer (some ⟨w4.heap.size, 0, none⟩)) (.pointer (some ⟨w4.heap.size + 1, 0, none⟩)) ((w4.alloc (.cells #[.bool s, .slice a3 xs.length p3] t)).alloc (.cells #[.bool s', .slice a4 ys.length p4] t)) := by
  have e1 := (Ext.refl w4).alloc (.cells #[.bool s, .slice a3 xs.length p3] t)
  have e2 := (Ext.refl (w4.alloc (.cells #[.bool s, .slice a3 xs.length p3] t))).alloc (.cells #[.bool s', .slice a4 ys.length p4] t)
  have n2 := struct_new (w4.alloc (.cells #[.bool s, .slice a3 xs.length p3] t)) (.bool s') (.slice a4 ys.length p4) t
  rw [World.size_alloc] at n2
  exact ⟨_, _, _, _, _, _, rfl, rfl, (struct_new _ _ _ _).ext e2, n2, r1.ext (e1.trans e2), r2.ext (e1.trans e2), E.trans (e1.trans e2)⟩
theorem two_a' (E : Ext w2 w4) (r1 : Raw w4 (.agg #[.bool s, .slice a3 xs.length p3]) s xs) (r2 : Raw w4 (.agg #[.bool s', .slice a4 ys.length p4]) s' ys) :
    TwoC w2 s s' xs ys (.pointer (some ⟨w4.heap.size + 1, 0, none⟩)) (.pointer (some ⟨w4.heap.size, 0, none⟩)) ((w4.alloc (.cells #[.bool s', .slice a4 ys.length p4] t)).alloc (.cells #[.bool s, .slice a3 xs.length p3] t)) := by
  have e1 := (Ext.refl w4).alloc (.cells #[.bool s', .slice a4 ys.length p4] t)
  have e2 := (Ext.refl (w4.alloc (.cells #[.bool s', .slice a4 ys.length p4] t))).alloc (.cells #[.bool s, .slice a3 xs.length p3] t)
  have n2 := struct_new (w4.alloc (.cells #[.bool s', .slice a4 ys.length p4] t)) (.bool s) (.slice a3 xs.length p3) t
  rw [World.size_alloc] at n2
  exact ⟨_, _, _, _, _, _, rfl, rfl, n2, (struct_new _ _ _ _).ext e2, r1.ext (e1.trans e2), r2.ext (e1.trans e2), E.trans (e1.trans e2)⟩
theorem two_b {b1 b2 : Nat} (E : Ext w2 w4) (r1 : Raw w4 (.agg #[.bool s, .slice a3 xs.length p3]) s xs) (r2 : Raw w4 (.agg #[.bool s', .slice a4 ys.length p4]) s' ys)
    (h1 : w2.heap.size ≤ b1) (h2 : w2.heap.size ≤ b2) (F1 : Fresh w4 b1) (F2 : Fresh w4 b2) (hne : ¬ b1 = b2) :
    TwoC w2 s s' xs ys (.pointer (some ⟨b1, 0, none⟩)) (.pointer (some ⟨b2, 0, none⟩)) ((((w4.setCell ⟨b1, 0, none⟩ (.bool s)).setCell ⟨b1, 1, none⟩ (.slice a3 xs.length p3)).setCell ⟨b2, 0, none⟩ (.bool s')).setCell ⟨b2, 1, none⟩ (.slice a4 ys.length p4)) := by
  have S1 : Struct w4 b1 (.bool false) (.slice none 0 0) := ⟨F1.1, F1.2.1⟩
  have S2 : Struct w4 b2 (.bool false) (.slice none 0 0) := ⟨F2.1, F2.2.1⟩
  have S2' := (S2.set hne 0 (.bool s)).set hne 1 (.slice a3 xs.length p3)
  have hne' : b2 ≠ b1 := fun h => hne h.symm
  exact ⟨_, _, _, _, _, _, rfl, rfl, ((S1.put).set hne' 0 _).set hne' 1 _, S2'.put, (r1.put S1 _ _).put S2' _ _, (r2.put S1 _ _).put S2' _ _, (E.put h1 _ _).put h2 _ _⟩
theorem two_c {b2 : Nat} (E : Ext w2 w4) (r1 : Raw w4 (.agg #[.bool s, .slice a3 xs.length p3]) s xs) (r2 : Raw w4 (.agg #[.bool s', .slice a4 ys.length p4]) s' ys)
    (h2 : w2.heap.size ≤ b2) (F2 : Fresh w4 b2) :
    TwoC w2 s s' xs ys (.pointer (some ⟨w4.heap.size, 0, none⟩)) (.pointer (some ⟨b2, 0, none⟩)) (((w4.alloc (.cells #[.bool s, .slice a3 xs.length p3] t)).setCell ⟨b2, 0, none⟩ (.bool s')).setCell ⟨b2, 1, none⟩ (.slice a4 ys.length p4)) := by
  have e1 := (Ext.refl w4).alloc (.cells #[.bool s, .slice a3 xs.length p3] t)
  have S2 : Struct (w4.alloc (.cells #[.bool s, .slice a3 xs.length p3] t)) b2 (.bool false) (.slice none 0 0) := Struct.ext ⟨F2.1, F2.2.1⟩ e1
  have hne : b2 ≠ w4.heap.size := Nat.ne_of_lt (lt_of_cell F2.1)
  exact ⟨_, _, _, _, _, _, rfl, rfl, ((struct_new _ _ _ _).set hne 0 _).set hne 1 _, S2.put, (r1.ext e1).put S2 _ _, (r2.ext e1).put S2 _ _, (E.trans e1).put h2 _ _⟩
end

abbrev C8 (h b1 b2 : Nat) (a b c d a' b' c' d' : Value) (w : World) : Prop :=
  w.cell? ⟨h, 0, none⟩ = some a ∧ w.cell? ⟨h, 1, none⟩ = some b ∧ w.cell? ⟨h + 1, 0, none⟩ = some c ∧ w.cell? ⟨h + 1, 1, none⟩ = some d ∧
    w.cell? ⟨b1, 0, none⟩ = some a' ∧ w.cell? ⟨b1, 1, none⟩ = some b' ∧ w.cell? ⟨b2, 0, none⟩ = some c' ∧ w.cell? ⟨b2, 1, none⟩ = some d'
theorem C8.ext {h b1 b2 : Nat} {a b c d a' b' c' d' : Value} {w w' : World} (k : C8 h b1 b2 a b c d a' b' c' d' w) (x : Ext w w') : C8 h b1 b2 a b c d a' b' c' d' w' :=
  ⟨x.cell k.1, x.cell k.2.1, x.cell k.2.2.1, x.cell k.2.2.2.1, x.cell k.2.2.2.2.1, x.cell k.2.2.2.2.2.1, x.cell k.2.2.2.2.2.2.1, x.cell k.2.2.2.2.2.2.2⟩

set_option maxRecDepth 100000 in
set_option maxHeartbeats 3200000 in
theorem lawSums_calls (w : World) (v1 v2 : Value) (s s' : Bool) (xs ys : List Nat) (h : Raw w v1 s xs) (k : Raw w v2 s' ys) :
    Calls Try.prog 5 #[v1, v2] w fun e w' => e = .returned (.bool true) ∧ Ext w w' := by
  have hR := h
  have kR := k
  obtain ⟨ao, cap, rfl, h1, h2, h3⟩ := h
  obtain ⟨ao', cap', rfl, k1, k2, k3⟩ := k
  obtain ⟨W, hW, eW, _, c0, c1, d0, d1⟩ := boxes2 w (.bool s) (.slice ao xs.length cap) (.bool s') (.slice ao' ys.length cap') 24
  have HI := Lib.hid (And.intro h1 (And.intro h2 (And.intro h3 (And.intro k1 (And.intro k2 k3)))))
  clear h1 h2 h3 k1 k2 k3
  go_enter Try.func5, Try.ntmps5
  go_wp2_with fail
  clear hW
  refine (awake_calls _).mono ?_
  rintro e w1 ⟨rfl, e1⟩
  replace c0 := e1.cell c0
  replace c1 := e1.cell c1
  replace d0 := e1.cell d0
  replace d1 := e1.cell d1
  replace eW := eW.trans e1
  clear e1
  have hsm := Lib.hid (small_calls _ w1.heap.size [(s, xs), (s', ys)] (by simp) (item_new2 HI.out.1 HI.out.2.2.2.1 HI.out.2.1 HI.out.2.2.2.2.1 (HI.out.2.2.1.ext eW) (HI.out.2.2.2.2.2.ext eW)))
  go_wp2_with fail
  refine hsm.out.mono ?_
  rintro e w2 ⟨rfl, e2⟩
  replace e2 := ((Ext.refl w1).alloc _).trans e2
  replace c0 := e2.cell c0
  replace c1 := e2.cell c1
  replace d0 := e2.cell d0
  replace d1 := e2.cell d1
  replace eW := eW.trans e2
  clear e2 hsm HI
  cases hb : [(s, xs), (s', ys)].all smB
  · clear hb
    go_wp2_with fail
    refine (awake_calls _).mono ?_
    rintro e w3 ⟨rfl, e3⟩
    go_wp2
    go_ret
    exact ⟨rfl, eW.trans e3⟩
  · have hb1 : smB (s, xs) = true ∧ smB (s', ys) = true := by simpa using hb
    have m1 := smB_lim hR hb1.1
    have m2 := smB_lim kR hb1.2
    have l1 := (smB_int hR hb1.1).2.1
    have l2 := (smB_int kR hb1.2).2.1
    have HL := Lib.hid (And.intro (show xs.length ≤ 1048576 by omega) (show ys.length ≤ 1048576 by omega))
    have HB := Lib.hid hb1
    replace hR := hR.ext eW
    replace kR := kR.ext eW
    have C : C4 w.heap.size (.bool s) (.slice ao xs.length cap) (.bool s') (.slice ao' ys.length cap') w2 := ⟨c0, c1, d0, d1⟩
    have Cd : C4 w.heap.size (.bool s) (.slice ao xs.length cap) (.bool s') (.slice ao' ys.length cap') w2.drew := ⟨c0, c1, d0, d1⟩
    clear hb hb1 l1 l2
    go_upto_region 3 with fail
    go_cut [5, 6] (fun p q wx => TwoC w2 s s' xs ys p q wx)
    case first =>
      go_region_held3 (fun w' => w'.cell? ⟨w.heap.size, 0, none⟩ = some (.bool s) ∧ w'.cell? ⟨w.heap.size, 1, none⟩ = some (.slice ao xs.length cap) ∧ w'.cell? ⟨w.heap.size + 1, 0, none⟩ = some (.bool s') ∧ w'.cell? ⟨w.heap.size + 1, 1, none⟩ = some (.slice ao' ys.length cap'))
        (first | with_reducible exact Cd | ((with_reducible refine C4.ext C ?_); (repeat (first | with_reducible exact Ext.refl _ | with_reducible exact E4 | with_reducible exact E3 | with_reducible refine Ext.alloc ?_ _ | with_reducible refine Ext.drew ?_ | with_reducible refine Ext.setCell ?_ (by first | exact le3 | exact le4 | exact Nat.le_refl _ | exact Nat.le_succ _ | exact Nat.le_succ_of_le le3 | exact Nat.le_succ_of_le le4) _)); done)) ((first
          | (go_at_call 13; ((with_reducible refine (cp_calls _ _ s xs (hR.ext ?_) HL.out.1).mono ?_)); (repeat (first | with_reducible exact Ext.refl _ | with_reducible refine Ext.alloc ?_ _ | with_reducible refine Ext.drew ?_ | with_reducible refine Ext.trans ?_ e4 | with_reducible refine Ext.trans ?_ e3)); rintro e w3 ⟨x3, rfl, hx3, e3⟩; (have E3 : Ext w2 w3 := by (repeat (first | with_reducible exact Ext.refl _ | with_reducible refine Ext.alloc ?_ _ | with_reducible refine Ext.drew ?_ | with_reducible refine Ext.trans ?_ e4 | with_reducible refine Ext.trans ?_ e3))); have le3 := E3.size; have hy3 := hx3; obtain ⟨a3, p3, rfl, _, _, _⟩ := hy3;
              (try have f1 := ((fresh_new w2 24).alloc _).ext ((Ext.refl _).drew.trans e3)); (try have f1 := (fresh_new w2 24).ext ((Ext.refl _).drew.trans e3)); (try have f2 := (fresh_snd w2 _ 24).ext ((Ext.refl _).drew.trans e3));
              (try (have n13 : ¬ w2.heap.size = w3.heap.size := Nat.ne_of_lt (lt_of_cell f1.1); have n13' : ¬ w3.heap.size = w2.heap.size := Nat.ne_of_gt (lt_of_cell f1.1))); (try (have n23 : ¬ w2.heap.size + 1 = w3.heap.size := Nat.ne_of_lt (lt_of_cell f2.1); have n23' : ¬ w3.heap.size = w2.heap.size + 1 := Nat.ne_of_gt (lt_of_cell f2.1))))
          | (go_at_call 13; ((with_reducible refine (cp_calls _ _ s' ys (kR.ext ?_) HL.out.2).mono ?_)); (repeat (first | with_reducible exact Ext.refl _ | with_reducible refine Ext.alloc ?_ _ | with_reducible refine Ext.drew ?_ | with_reducible refine Ext.trans ?_ e4 | with_reducible refine Ext.trans ?_ e3)); rintro e w4 ⟨x4, rfl, hx4, e4⟩; (have E4 : Ext w2 w4 := by (repeat (first | with_reducible exact Ext.refl _ | with_reducible refine Ext.alloc ?_ _ | with_reducible refine Ext.drew ?_ | with_reducible refine Ext.trans ?_ e4 | with_reducible refine Ext.trans ?_ e3))); have le4 := E4.size; (have E34 : Ext w3 w4 := by (repeat (first | with_reducible exact Ext.refl _ | with_reducible refine Ext.alloc ?_ _ | with_reducible refine Ext.drew ?_ | with_reducible refine Ext.trans ?_ e4))); have hz3 := hx3.ext E34; have hy4 := hx4; obtain ⟨a4, p4, rfl, _, _, _⟩ := hy4;
              (try have f3 := ((fresh_new w3 24).alloc _).ext e4); (try have f3 := (fresh_new w3 24).ext e4); (try have f4 := (fresh_snd w3 _ 24).ext e4);
              (try have f1 := f1.ext ((Ext.refl w3).trans e4)); (try have f1 := f1.ext (((Ext.refl w3).alloc _).trans e4)); (try have f2 := f2.ext e4);
              (try (have n14 : ¬ w2.heap.size = w4.heap.size := Nat.ne_of_lt (lt_of_cell f1.1); have n14' : ¬ w4.heap.size = w2.heap.size := Nat.ne_of_gt (lt_of_cell f1.1))); (try (have n24 : ¬ w2.heap.size + 1 = w4.heap.size := Nat.ne_of_lt (lt_of_cell f2.1); have n24' : ¬ w4.heap.size = w2.heap.size + 1 := Nat.ne_of_gt (lt_of_cell f2.1))); (try (have n34 : ¬ w3.heap.size = w4.heap.size := Nat.ne_of_lt (lt_of_cell f3.1); have n34' : ¬ w4.heap.size = w3.heap.size := Nat.ne_of_gt (lt_of_cell f3.1))); (try (have n44 : ¬ w3.heap.size + 1 = w4.heap.size := Nat.ne_of_lt (lt_of_cell f4.1); have n44' : ¬ w4.heap.size = w3.heap.size + 1 := Nat.ne_of_gt (lt_of_cell f4.1)));
              (try (have g1 := f1.alloc (.cells #[.bool false, .slice none 0 0] 24); obtain ⟨gg10, gg11, gg12, gg13⟩ := id g1; obtain ⟨ff10, ff11, ff12, ff13⟩ := id f1; have j1 := f1.alloc (.cells #[.bool s, .slice a3 xs.length p3] 24); obtain ⟨jj10, jj11, jj12, jj13⟩ := id j1));
              (try (have g2 := f2.alloc (.cells #[.bool false, .slice none 0 0] 24); obtain ⟨gg20, gg21, gg22, gg23⟩ := id g2; obtain ⟨ff20, ff21, ff22, ff23⟩ := id f2; have j2 := f2.alloc (.cells #[.bool s, .slice a3 xs.length p3] 24); obtain ⟨jj20, jj21, jj22, jj23⟩ := id j2));
              (try (have g3 := f3.alloc (.cells #[.bool false, .slice none 0 0] 24); obtain ⟨gg30, gg31, gg32, gg33⟩ := id g3; obtain ⟨ff30, ff31, ff32, ff33⟩ := id f3; have j3 := f3.alloc (.cells #[.bool s, .slice a3 xs.length p3] 24); obtain ⟨jj30, jj31, jj32, jj33⟩ := id j3));
              (try (have g4 := f4.alloc (.cells #[.bool false, .slice none 0 0] 24); obtain ⟨gg40, gg41, gg42, gg43⟩ := id g4; obtain ⟨ff40, ff41, ff42, ff43⟩ := id f4; have j4 := f4.alloc (.cells #[.bool s, .slice a3 xs.length p3] 24); obtain ⟨jj40, jj41, jj42, jj43⟩ := id j4)))))
      all_goals (go_wp2_with fail; go_meet)
      all_goals (first
        | with_reducible exact two_a E4 hz3 hx4
        | with_reducible exact two_a' E4 hz3 hx4
        | with_reducible exact two_c E4 hz3 hx4 (by first | exact le3 | exact le4 | exact Nat.le_refl _ | exact Nat.le_add_right _ 1 | exact Nat.le_trans le3 (Nat.le_add_right _ 1) | exact Nat.le_trans le4 (Nat.le_add_right _ 1)) (by first | exact f1 | exact f2 | exact f3 | exact f4)
        | with_reducible exact two_b E4 hz3 hx4 (by first | exact le3 | exact le4 | exact Nat.le_refl _ | exact Nat.le_add_right _ 1 | exact Nat.le_trans le3 (Nat.le_add_right _ 1) | exact Nat.le_trans le4 (Nat.le_add_right _ 1)) (by first | exact le3 | exact le4 | exact Nat.le_refl _ | exact Nat.le_add_right _ 1 | exact Nat.le_trans le3 (Nat.le_add_right _ 1) | exact Nat.le_trans le4 (Nat.le_add_right _ 1)) (by first | exact f1 | exact f2 | exact f3 | exact f4) (by first | exact f1 | exact f2 | exact f3 | exact f4) (by first | assumption | simp | omega)
        | with_reducible exact two_b (E4.alloc _) (hz3.ext ((Ext.refl _).alloc _)) (hx4.ext ((Ext.refl _).alloc _)) (by first | exact le3 | exact le4 | exact Nat.le_refl _ | exact Nat.le_add_right _ 1 | exact Nat.le_trans le3 (Nat.le_add_right _ 1) | exact Nat.le_trans le4 (Nat.le_add_right _ 1)) (by first | exact le3 | exact le4 | exact Nat.le_refl _ | exact Nat.le_add_right _ 1 | exact Nat.le_trans le3 (Nat.le_add_right _ 1) | exact Nat.le_trans le4 (Nat.le_add_right _ 1)) (by first | exact g1 | exact g2 | exact g3 | exact g4) (fresh_new w4 _) (by first | assumption | simp | omega))
    case rest =>
      obtain ⟨b1, b2, a3, p3, a4, p4, rfl, rfl, ⟨x0, x1⟩, ⟨y0, y1⟩, r1, r2, E⟩ := hcut
      have B : C8 w.heap.size b1 b2 (.bool s) (.slice ao xs.length cap) (.bool s') (.slice ao' ys.length cap') (.bool s) (.slice a3 xs.length p3) (.bool s') (.slice a4 ys.length p4) wc := ⟨E.cell c0, E.cell c1, E.cell d0, E.cell d1, x0, x1, y0, y1⟩
      have Bd : C8 w.heap.size b1 b2 (.bool s) (.slice ao xs.length cap) (.bool s') (.slice ao' ys.length cap') (.bool s) (.slice a3 xs.length p3) (.bool s') (.slice a4 ys.length p4) wc.drew := B
      have i1 := (smB_int (hR.ext E) HB.out.1).1
      have i2 := (smB_int (kR.ext E) HB.out.2).1
      have j1 := (smB_int r1 HB.out.1).1
      have j2 := (smB_int r2 HB.out.2).1
      replace eW := eW.trans E
      generalize sgn s (val xs) = z1 at *
      generalize sgn s' (val ys) = z2 at *
      clear c0 c1 d0 d1 x0 x1 y0 y1 hR kR r1 r2 E C Cd HL HB
      go_wp2_with fail
      go_region_held3 (fun w' => w'.cell? ⟨w.heap.size, 0, none⟩ = some (.bool s) ∧ w'.cell? ⟨w.heap.size, 1, none⟩ = some (.slice ao xs.length cap) ∧ w'.cell? ⟨w.heap.size + 1, 0, none⟩ = some (.bool s') ∧ w'.cell? ⟨w.heap.size + 1, 1, none⟩ = some (.slice ao' ys.length cap') ∧ w'.cell? ⟨b1, 0, none⟩ = some (.bool s) ∧ w'.cell? ⟨b1, 1, none⟩ = some (.slice a3 xs.length p3) ∧ w'.cell? ⟨b2, 0, none⟩ = some (.bool s') ∧ w'.cell? ⟨b2, 1, none⟩ = some (.slice a4 ys.length p4))
        (first | with_reducible exact Bd | with_reducible exact D1 | with_reducible exact D2 | with_reducible exact D3 | with_reducible exact D4 | with_reducible exact D5 | with_reducible exact D6 | with_reducible exact D7 | with_reducible exact D8 | with_reducible exact D9 | with_reducible exact D10 | with_reducible exact D11 | with_reducible exact D12 | with_reducible exact D13 | with_reducible exact D14 | with_reducible exact D15) ((first
          | (go_at_call 21; ((with_reducible refine (add_calls _ _ _ _ _ j1.drew j2.drew (m1.sm (by omega)) (m2.sm (by omega))).mono ?_)); rintro e v1 ⟨y1, rfl, hy1, k1⟩; have K1 := (Ext.refl wc).trans k1.of_drew; have D1 := C8.ext B K1)
          | (go_at_call 22; ((with_reducible refine (radd_calls _ _ _ _ _ (i1.ext K1) (i2.ext K1) (m1.sm (by omega)) (m2.sm (by omega))).mono ?_)); rintro e v2 ⟨y2, rfl, hy2, k2⟩; have K2 := K1.trans k2; have D2 := C8.ext B K2)
          | (go_at_call 19; ((with_reducible refine (same_true _ _ _ _ (hy1.ext k2) hy2).mono ?_)); rintro e v3 ⟨rfl, k3⟩; have K3 := K2.trans k3; have D3 := C8.ext B K3)
          | (go_at_call 23; ((with_reducible refine (sub_calls _ _ _ _ _ (j1.ext K3) (j2.ext K3) (m1.sm (by omega)) (m2.sm (by omega))).mono ?_)); rintro e v4 ⟨y4, rfl, hy4, k4⟩; have K4 := K3.trans k4; have D4 := C8.ext B K4)
          | (go_at_call 24; ((with_reducible refine (rsub_calls _ _ _ _ _ (i1.ext K4) (i2.ext K4) (m1.sm (by omega)) (m2.sm (by omega))).mono ?_)); rintro e v5 ⟨y5, rfl, hy5, k5⟩; have K5 := K4.trans k5; have D5 := C8.ext B K5)
          | (go_at_call 19; ((with_reducible refine (same_true _ _ _ _ (hy4.ext k5) hy5).mono ?_)); rintro e v6 ⟨rfl, k6⟩; have K6 := K5.trans k6; have D6 := C8.ext B K6)
          | (go_at_call 25; ((with_reducible refine (neg_calls _ _ _ (j1.ext K6) (m1.sm (by omega))).mono ?_)); rintro e v7 ⟨y7, rfl, hy7, k7⟩; have K7 := K6.trans k7; have D7 := C8.ext B K7)
          | (go_at_call 26; ((with_reducible refine (rneg_calls _ _ _ (i1.ext K7)).mono ?_)); rintro e v8 ⟨y8, rfl, hy8, k8⟩; have K8 := K7.trans k8; have D8 := C8.ext B K8)
          | (go_at_call 19; ((with_reducible refine (same_true _ _ _ _ (hy7.ext k8) hy8).mono ?_)); rintro e v9 ⟨rfl, k9⟩; have K9 := K8.trans k9; have D9 := C8.ext B K9)
          | (go_at_call 27; ((with_reducible refine (sign_calls _ _ _ (j1.ext K9)).mono ?_)); rintro e v10 ⟨rfl, k10⟩; have K10 := K9.trans k10; have D10 := C8.ext B K10)
          | (go_at_call 28; ((with_reducible refine (rsign_calls _ _ _ (i1.ext K10)).mono ?_)); rintro e v11 ⟨rfl, k11⟩; have K11 := K10.trans k11; have D11 := C8.ext B K11)
          | (go_at_call 29; ((with_reducible refine (cmp_calls _ _ _ _ _ (j1.ext K11) (j2.ext K11)).mono ?_)); rintro e v12 ⟨rfl, k12⟩; have K12 := K11.trans k12; have D12 := C8.ext B K12)
          | (go_at_call 30; ((with_reducible refine (rcmp_calls _ _ _ _ _ (i1.ext K12) (i2.ext K12)).mono ?_)); rintro e v13 ⟨rfl, k13⟩; have K13 := K12.trans k13; have D13 := C8.ext B K13)
          | (go_at_call 19; ((with_reducible refine (same_true _ _ _ _ (j1.ext K13) (i1.ext K13)).mono ?_)); rintro e v14 ⟨rfl, k14⟩; have K14 := K13.trans k14; have D14 := C8.ext B K14)
          | (go_at_call 19; ((with_reducible refine (same_true _ _ _ _ (j2.ext K14) (i2.ext K14)).mono ?_)); rintro e v15 ⟨rfl, k15⟩; have K15 := K14.trans k15; have D15 := C8.ext B K15)))
      go_wp2
      go_ret
      exact ⟨ret_bool (by simp), eW.trans K15⟩

end Go.Proofs.Ytljmcnbpbjifiaa
