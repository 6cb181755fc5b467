/-
  What the statement on quotients and remainders does when it is called.
-/
import Derived.Test.YtfjaboolfjgleaaDmf
import Derived.Test.YtfjaboolfjgleaaKeep
import Derived.Test.YtfjaboolfjgleaaLawMul
import Derived.Test.YtfjaboolfjgleaaLawRing
namespace Go.Proofs.Ytfjaboolfjgleaa
open Go.RowKit

/-- What is known in region 3 of the statement, as its operations come up. -/
structure RegDM (w2 : World) (s s' : Bool) (xs ys : List Nat) (l : Array Bool) (s5 s6 s7 s19 s20 s21 s22 s23 s24 s25 s26 s27 : Value) (w : World) : Prop where
  base : Ext w2 w
  f0 : l.getD 0 false = true → Raw w s20 s xs
  f1 : l.getD 1 false = true → Raw w s21 s xs
  f2 : l.getD 2 false = true → Raw w s22 s' ys
  f3 : l.getD 3 false = true → Raw w s23 s' ys
  f4 : l.getD 4 false = true → TupII w s24 (dq ((sgn s (val xs))) ((sgn s' (val ys)))) (dr ((sgn s (val xs))) ((sgn s' (val ys)))) (de ((sgn s' (val ys))))
  f5 : l.getD 5 false = true → TupII w s19 (dq ((sgn s (val xs))) ((sgn s' (val ys)))) (dr ((sgn s (val xs))) ((sgn s' (val ys)))) (de ((sgn s' (val ys))))
  f6 : l.getD 6 false = true → IsInt w s25 (dq ((sgn s (val xs))) ((sgn s' (val ys))))
  f7 : l.getD 7 false = true → IsInt w s26 (dr ((sgn s (val xs))) ((sgn s' (val ys))))
  f8 : l.getD 8 false = true → s27 = (.int .i64 (de ((sgn s' (val ys)))))
  f9 : l.getD 9 false = true → VarInt w2.heap.size w s5
  f10 : l.getD 10 false = true → VarInt w2.heap.size w s6
  c11 : l.getD 11 false = true → l.getD 9 false = true
  f11 : l.getD 11 false = true → BoxInt w s5 (dq ((sgn s (val xs))) ((sgn s' (val ys))))
  c12 : l.getD 12 false = true → l.getD 10 false = true
  f12 : l.getD 12 false = true → BoxInt w s6 (dr ((sgn s (val xs))) ((sgn s' (val ys))))
  f13 : l.getD 13 false = true → s7 = (.int .i64 (de ((sgn s' (val ys)))))
  n9_10 : l.getD 9 false = true → l.getD 10 false = true → s5 ≠ s6

structure RegDM6a (w3 : World) (z2 r : Int) (l : Array Bool) (s8 s41 s42 s43 s44 s45 s46 s47 s48 s49 s50 s51 s52 s53 s54 s55 s56 s57 s58 s59 : Value) (w : World) : Prop where
  base : Ext w3 w
  f0 : l.getD 0 false = true → IsInt w s41 (r)
  f1 : l.getD 1 false = true → s42 = (.int .i64 0)
  f2 : l.getD 2 false = true → s43 = (.bool true)
  f3 : l.getD 3 false = true → s44 = (.bool true)
  f4 : l.getD 4 false = true → s45 = undef
  f5 : l.getD 5 false = true → s46 = undef
  f6 : l.getD 6 false = true → s47 = undef
  f7 : l.getD 7 false = true → s48 = undef
  f8 : l.getD 8 false = true → s49 = undef
  f9 : l.getD 9 false = true → s50 = undef
  f10 : l.getD 10 false = true → s51 = undef
  f11 : l.getD 11 false = true → s52 = undef
  f12 : l.getD 12 false = true → s53 = undef
  f13 : l.getD 13 false = true → s54 = undef
  f14 : l.getD 14 false = true → s55 = undef
  f15 : l.getD 15 false = true → s56 = undef
  f16 : l.getD 16 false = true → s57 = undef
  f17 : l.getD 17 false = true → s58 = undef
  f18 : l.getD 18 false = true → s59 = (.bool true)
  f19 : l.getD 19 false = true → s8 = (.bool true)

structure RegDM6b (w3 : World) (z2 r : Int) (l : Array Bool) (s8 s41 s42 s43 s44 s45 s46 s47 s48 s49 s50 s51 s52 s53 s54 s55 s56 s57 s58 s59 : Value) (w : World) : Prop where
  base : Ext w3 w
  f0 : l.getD 0 false = true → IsInt w s41 (r)
  f1 : l.getD 1 false = true → s42 = (.int .i64 1)
  f2 : l.getD 2 false = true → s43 = (.bool false)
  f3 : l.getD 3 false = true → s44 = (.bool false)
  f4 : l.getD 4 false = true → IsInt w s45 (r)
  f5 : l.getD 5 false = true → s46 = (.int .i64 1)
  f6 : l.getD 6 false = true → IsInt w s47 (z2)
  f7 : l.getD 7 false = true → s48 = (.int .i64 1)
  f8 : l.getD 8 false = true → s49 = (.bool true)
  f9 : l.getD 9 false = true → s50 = (.bool true)
  f10 : l.getD 10 false = true → IsInt w s51 (r)
  f11 : l.getD 11 false = true → IsInt w s52 (z2)
  f12 : l.getD 12 false = true → s53 = (.int .i64 (-1))
  f13 : l.getD 13 false = true → IsInt w s54 (z2)
  f14 : l.getD 14 false = true → s55 = (.int .i64 1)
  f15 : l.getD 15 false = true → s56 = (.int .i64 (-1))
  f16 : l.getD 16 false = true → s57 = (.bool true)
  f17 : l.getD 17 false = true → s58 = (.bool true)
  f18 : l.getD 18 false = true → s59 = (.bool true)
  f19 : l.getD 19 false = true → s8 = (.bool true)

structure RegDM6c (w3 : World) (z2 r : Int) (l : Array Bool) (s8 s41 s42 s43 s44 s45 s46 s47 s48 s49 s50 s51 s52 s53 s54 s55 s56 s57 s58 s59 : Value) (w : World) : Prop where
  base : Ext w3 w
  f0 : l.getD 0 false = true → IsInt w s41 (r)
  f1 : l.getD 1 false = true → s42 = (.int .i64 (-1))
  f2 : l.getD 2 false = true → s43 = (.bool false)
  f3 : l.getD 3 false = true → s44 = (.bool false)
  f4 : l.getD 4 false = true → IsInt w s45 (r)
  f5 : l.getD 5 false = true → s46 = (.int .i64 (-1))
  f6 : l.getD 6 false = true → IsInt w s47 (z2)
  f7 : l.getD 7 false = true → s48 = (.int .i64 (-1))
  f8 : l.getD 8 false = true → s49 = (.bool true)
  f9 : l.getD 9 false = true → s50 = (.bool true)
  f10 : l.getD 10 false = true → IsInt w s51 (r)
  f11 : l.getD 11 false = true → IsInt w s52 (z2)
  f12 : l.getD 12 false = true → s53 = (.int .i64 1)
  f13 : l.getD 13 false = true → IsInt w s54 (z2)
  f14 : l.getD 14 false = true → s55 = (.int .i64 (-1))
  f15 : l.getD 15 false = true → s56 = (.int .i64 1)
  f16 : l.getD 16 false = true → s57 = (.bool true)
  f17 : l.getD 17 false = true → s58 = (.bool true)
  f18 : l.getD 18 false = true → s59 = (.bool true)
  f19 : l.getD 19 false = true → s8 = (.bool true)

structure RegDM7 (w3 : World) (z1 z2 q r : Int) (l : Array Bool) (s4 s60 s61 s62 s63 s64 s65 s66 s67 s68 s69 s70 s71 s72 s73 s74 s75 s76 s77 s78 s79 s80 s81 : Value) (w : World) : Prop where
  base : Ext w3 w
  f0 : l.getD 0 false = true → s60 = (.int .i64 0)
  f1 : l.getD 1 false = true → s61 = (.bool true)
  f2 : l.getD 2 false = true → s62 = (.bool true)
  f3 : l.getD 3 false = true → IsInt w s63 (q)
  f4 : l.getD 4 false = true → s64 = (.bool true)
  f5 : l.getD 5 false = true → s65 = (.bool true)
  f6 : l.getD 6 false = true → s66 = (.bool true)
  f7 : l.getD 7 false = true → IsInt w s67 (r)
  f8 : l.getD 8 false = true → s68 = (.bool true)
  f9 : l.getD 9 false = true → s69 = (.bool true)
  f10 : l.getD 10 false = true → s70 = (.bool true)
  f11 : l.getD 11 false = true → s71 = (.bool true)
  f12 : l.getD 12 false = true → s72 = (.bool true)
  f13 : l.getD 13 false = true → s73 = (.bool true)
  f14 : l.getD 14 false = true → IsInt w s74 (q)
  f15 : l.getD 15 false = true → IsInt w s75 (z2)
  f16 : l.getD 16 false = true → IsInt w s76 ((q) * (z2))
  f17 : l.getD 17 false = true → IsInt w s77 (r)
  f18 : l.getD 18 false = true → IsInt w s78 (((q) * (z2)) + (r))
  f19 : l.getD 19 false = true → IsInt w s79 (z1)
  f20 : l.getD 20 false = true → s80 = (.bool true)
  f21 : l.getD 21 false = true → s81 = (.bool true)
  f22 : l.getD 22 false = true → s4 = (.bool true)

abbrev C4p (h g : Nat) (a b c d : Value) (w : World) : Prop :=
  w.cell? ⟨h, 0, none⟩ = some a ∧ w.cell? ⟨h, 1, none⟩ = some b ∧ w.cell? ⟨g, 0, none⟩ = some c ∧ w.cell? ⟨g, 1, none⟩ = some d
theorem C4p.ext {h g : Nat} {a b c d : Value} {w w' : World} (k : C4p h g a b c d w) (x : Ext w w') : C4p h g a b c d w' :=
  ⟨x.cell k.1, x.cell k.2.1, x.cell k.2.2.1, x.cell k.2.2.2⟩
theorem dm_sizes {z1 z2 q r : Int} (h : Lim 16 z1 ∧ Lim 16 z2) (ha : q.natAbs ≤ z1.natAbs ∧ r.natAbs < z2.natAbs) : Sm q ∧ Sm z2 ∧ Sm (q * z2) ∧ Sm r := by
  have hq := h.1.natAbs_le ha.1
  exact ⟨hq.sm (by omega), h.2.sm (by omega), (hq.mul h.2).sm (by omega), (h.2.natAbs_le (Nat.le_of_lt ha.2)).sm (by omega)⟩
theorem rsign_lit (w : World) (v : Value) (z σ : Int) (h : IsInt w v z) (hz : cmpZ z 0 = σ) : Calls Try.prog 28 #[v] w fun e w' => e = .returned (.int .i64 σ) ∧ Ext w w' := by
  subst hz; exact rsign_calls w v z h
theorem rcmp_lit (w : World) (v v' : Value) (z z' σ : Int) (h : IsInt w v z) (h' : IsInt w v' z') (hz : cmpZ z z' = σ) : Calls Try.prog 30 #[v, v'] w fun e w' => e = .returned (.int .i64 σ) ∧ Ext w w' := by
  subst hz; exact rcmp_calls w v v' z z' h h'
theorem rvalid_true (w : World) (v : Value) (z : Int) (h : IsInt w v z) : Calls Try.prog 14 #[v] w fun e w' => e = .returned (.bool true) ∧ Ext w w' := by
  obtain ⟨ao, cap, s, n, rfl, h1, h2, h3, H4, H5, H6⟩ := h.open_
  obtain ⟨k1, k2⟩ := isInt_raw h1 h2 h3 H6.out
  refine (rvalid_calls w _ _ _ k1).mono ?_
  rintro e w' ⟨rfl, e1⟩
  exact ⟨by rw [k2], e1⟩
/-- The signs in the statement. -/
theorem dm_signs {a b : Int} (hb : b ≠ 0) : dr a b = 0 ∧ cmpZ (dr a b) 0 = 0 ∨ (cmpZ (dr a b) 0 = 1 ∧ cmpZ b 0 = 1 ∧ cmpZ (dr a b) b = -1) ∨ (cmpZ (dr a b) 0 = -1 ∧ cmpZ b 0 = -1 ∧ cmpZ (dr a b) b = 1) := by
  have h := (dq_dr (a := a) hb).2
  generalize dr a b = r at *
  by_cases hr : r = 0
  · exact .inl ⟨hr, cmpZ_eq hr⟩
  · rcases h with h | h
    · exact .inr (.inl ⟨cmpZ_gt (by omega), cmpZ_gt (by omega), cmpZ_lt (by omega)⟩)
    · exact .inr (.inr ⟨cmpZ_lt (by omega), cmpZ_lt (by omega), cmpZ_gt (by omega)⟩)
theorem dq_zero (a : Int) : dq a 0 = 0 ∧ dr a 0 = 0 ∧ de 0 = 6 := ⟨if_pos rfl, if_pos rfl, if_pos rfl⟩
theorem de_ne {b : Int} (h : b ≠ 0) : de b = 0 := if_neg h

set_option maxRecDepth 100000 in
set_option maxHeartbeats 3200000 in
theorem lawDivMod_calls (w : World) (v1 v2 : Value) (s s' : Bool) (xs ys : List Nat) (h : Raw w v1 s xs) (k : Raw w v2 s' ys) :
    Calls Try.prog 8 #[v1, v2] w fun e w' => e = .returned (.bool true) ∧ Ext w w' := by
  have hR := h
  have kR := k
  obtain ⟨ao, cap, rfl, h1, h2, h3⟩ := h
  obtain ⟨ao', cap', rfl, k1, k2, k3⟩ := k
  obtain ⟨W, hW, eW, _, c0, c1, d0, d1⟩ := boxes2 w (.bool s) (.slice ao xs.length cap) (.bool s') (.slice ao' ys.length cap') 24
  have HI := Lib.hid (And.intro h1 (And.intro h2 (And.intro h3 (And.intro k1 (And.intro k2 k3)))))
  clear h1 h2 h3 k1 k2 k3
  go_enter Try.func8, Try.ntmps8
  go_wp2_with fail
  clear hW
  refine (awake_calls _).mono ?_
  rintro e w1 ⟨rfl, e1⟩
  replace c0 := e1.cell c0
  replace c1 := e1.cell c1
  replace d0 := e1.cell d0
  replace d1 := e1.cell d1
  replace eW := eW.trans e1
  clear e1
  have hsm := Lib.hid (small_calls _ w1.heap.size [(s, xs), (s', ys)] (by simp) (item_new2 HI.out.1 HI.out.2.2.2.1 HI.out.2.1 HI.out.2.2.2.2.1 (HI.out.2.2.1.ext eW) (HI.out.2.2.2.2.2.ext eW)))
  go_wp2_with fail
  refine hsm.out.mono ?_
  rintro e w2 ⟨rfl, e2⟩
  replace e2 := ((Ext.refl w1).alloc _).trans e2
  replace c0 := e2.cell c0
  replace c1 := e2.cell c1
  replace d0 := e2.cell d0
  replace d1 := e2.cell d1
  replace eW := eW.trans e2
  clear e2 hsm HI
  cases hb : [(s, xs), (s', ys)].all smB
  · clear hb
    go_wp2_with fail
    refine (awake_calls _).mono ?_
    rintro e w3 ⟨rfl, e3⟩
    go_wp2
    go_ret
    exact ⟨rfl, eW.trans e3⟩
  · have hb1 : smB (s, xs) = true ∧ smB (s', ys) = true := by simpa using hb
    have l1 := (smB_int hR hb1.1).2
    have l2 := (smB_int kR hb1.2).2
    have HL := Lib.hid (And.intro (show xs.length ≤ 1048576 by omega) (And.intro (show ys.length ≤ 1048576 by omega) (And.intro (smB_lim hR hb1.1) (smB_lim kR hb1.2))))
    have HB := Lib.hid hb1
    replace hR := hR.ext eW
    replace kR := kR.ext eW
    clear hb hb1 l1 l2
    go_upto_region 3 with fail
    go_cut [5, 6, 7] (fun p q r wx => Ext w2 wx ∧ BoxInt wx p (dq (sgn s (val xs)) (sgn s' (val ys))) ∧ BoxInt wx q (dr (sgn s (val xs)) (sgn s' (val ys))) ∧ r = .int .i64 (de (sgn s' (val ys))))
    case first =>
      refine wp_region_inv (fun a0 l a w' => ∃ s5 s6 s7 s19 s20 s21 s22 s23 s24 s25 s26 s27, a = setAll a0 [(5, s5), (6, s6), (7, s7), (19, s19), (20, s20), (21, s21), (22, s22), (23, s23), (24, s24), (25, s25), (26, s26), (27, s27)] ∧ RegDM w2 s s' xs ys l s5 s6 s7 s19 s20 s21 s22 s23 s24 s25 s26 s27 w') (by kernel_rfl) (by kernel_rfl) 82 rfl ?h0 ?hs ?he
      case h0 =>
        intro a hn
        refine ⟨_, _, _, _, _, _, _, _, _, _, _, _, (setAll_self a 82 hn [5, 6, 7, 19, 20, 21, 22, 23, 24, 25, 26, 27] (by decide)).symm, ?_⟩
        exact { base := (Ext.refl _).drew, f0 := fun h => (none_yet h).elim, f1 := fun h => (none_yet h).elim, f2 := fun h => (none_yet h).elim, f3 := fun h => (none_yet h).elim, f4 := fun h => (none_yet h).elim, f5 := fun h => (none_yet h).elim, f6 := fun h => (none_yet h).elim, f7 := fun h => (none_yet h).elim, f8 := fun h => (none_yet h).elim, f9 := fun h => (none_yet h).elim, f10 := fun h => (none_yet h).elim, c11 := fun h => (none_yet h).elim, f11 := fun h => (none_yet h).elim, c12 := fun h => (none_yet h).elim, f12 := fun h => (none_yet h).elim, f13 := fun h => (none_yet h).elim, n9_10 := fun h => (none_yet h).elim }
      case hs =>
        rintro l _ w' ⟨s5, s6, s7, s19, s20, s21, s22, s23, s24, s25, s26, s27, rfl, I⟩
        have II := Lib.hid I
        clear I
        simp only [setAll, Act.put, List.setIfInBounds_toArray, List.set_cons_zero, List.set_cons_succ]
        refine AllOps.cons ?_ ?_
        · intro hu hp K hK
          clear hp
          have HU := Lib.hid hu
          clear hu
          have c0x := II.out.base.cell c0
          have c1x := II.out.base.cell c1
          rw [if_pos (by rfl)]
          go_simp
          refine hK.out _ _ ⟨s5, s6, s7, s19, _, s21, s22, s23, s24, s25, s26, s27, rfl, ?_⟩
          exact { base := II.out.base, f0 := fun _ => (hR.ext II.out.base), f1 := fun h => II.out.f1 (old (by decide) h), f2 := fun h => II.out.f2 (old (by decide) h), f3 := fun h => II.out.f3 (old (by decide) h), f4 := fun h => II.out.f4 (old (by decide) h), f5 := fun h => II.out.f5 (old (by decide) h), f6 := fun h => II.out.f6 (old (by decide) h), f7 := fun h => II.out.f7 (old (by decide) h), f8 := fun h => II.out.f8 (old (by decide) h), f9 := fun h => II.out.f9 (old (by decide) h), f10 := fun h => II.out.f10 (old (by decide) h), c11 := fun h => getD_set_true (II.out.c11 (old (by decide) h)), f11 := fun h => II.out.f11 (old (by decide) h), c12 := fun h => getD_set_true (II.out.c12 (old (by decide) h)), f12 := fun h => II.out.f12 (old (by decide) h), f13 := fun h => II.out.f13 (old (by decide) h), n9_10 := fun h k => II.out.n9_10 (old (by decide) h) (old (by decide) k) }
        refine AllOps.cons ?_ ?_
        · intro hu hp K hK
          have p0 := hp 0 (of_decide_eq_true (by kernel_rfl))
          have q0 := II.out.f0 p0
          clear hp
          have HU := Lib.hid hu
          clear hu
          have HC := Lib.hid (cp_calls w' s20 s xs q0 HL.out.1)
          rw [if_pos (by rfl)]
          go_simp
          go_at_call 13
          refine HC.out.mono ?_
          rintro e wx ⟨vv, rfl, hv, ex⟩
          go_wp2_with fail
          have kk := Keep.of ex II.out.base.size
          refine hK.out _ _ ⟨s5, s6, s7, s19, s20, vv, s22, s23, s24, s25, s26, s27, rfl, ?_⟩
          exact { base := II.out.base.trans ex, f0 := fun h => (II.out.f0 (old (by decide) h)).keep kk, f1 := fun _ => hv, f2 := fun h => (II.out.f2 (old (by decide) h)).keep kk, f3 := fun h => (II.out.f3 (old (by decide) h)).keep kk, f4 := fun h => (II.out.f4 (old (by decide) h)).keep kk, f5 := fun h => (II.out.f5 (old (by decide) h)).keep kk, f6 := fun h => (II.out.f6 (old (by decide) h)).keep kk, f7 := fun h => (II.out.f7 (old (by decide) h)).keep kk, f8 := fun h => II.out.f8 (old (by decide) h), f9 := fun h => (II.out.f9 (old (by decide) h)).keep kk, f10 := fun h => (II.out.f10 (old (by decide) h)).keep kk, c11 := fun h => getD_set_true (II.out.c11 (old (by decide) h)), f11 := fun h => (II.out.f11 (old (by decide) h)).ext ex, c12 := fun h => getD_set_true (II.out.c12 (old (by decide) h)), f12 := fun h => (II.out.f12 (old (by decide) h)).ext ex, f13 := fun h => II.out.f13 (old (by decide) h), n9_10 := fun h k => II.out.n9_10 (old (by decide) h) (old (by decide) k) }
        refine AllOps.cons ?_ ?_
        · intro hu hp K hK
          clear hp
          have HU := Lib.hid hu
          clear hu
          have d0x := II.out.base.cell d0
          have d1x := II.out.base.cell d1
          rw [if_pos (by rfl)]
          go_simp
          refine hK.out _ _ ⟨s5, s6, s7, s19, s20, s21, _, s23, s24, s25, s26, s27, rfl, ?_⟩
          exact { base := II.out.base, f0 := fun h => II.out.f0 (old (by decide) h), f1 := fun h => II.out.f1 (old (by decide) h), f2 := fun _ => (kR.ext II.out.base), f3 := fun h => II.out.f3 (old (by decide) h), f4 := fun h => II.out.f4 (old (by decide) h), f5 := fun h => II.out.f5 (old (by decide) h), f6 := fun h => II.out.f6 (old (by decide) h), f7 := fun h => II.out.f7 (old (by decide) h), f8 := fun h => II.out.f8 (old (by decide) h), f9 := fun h => II.out.f9 (old (by decide) h), f10 := fun h => II.out.f10 (old (by decide) h), c11 := fun h => getD_set_true (II.out.c11 (old (by decide) h)), f11 := fun h => II.out.f11 (old (by decide) h), c12 := fun h => getD_set_true (II.out.c12 (old (by decide) h)), f12 := fun h => II.out.f12 (old (by decide) h), f13 := fun h => II.out.f13 (old (by decide) h), n9_10 := fun h k => II.out.n9_10 (old (by decide) h) (old (by decide) k) }
        refine AllOps.cons ?_ ?_
        · intro hu hp K hK
          have p2 := hp 2 (of_decide_eq_true (by kernel_rfl))
          have q2 := II.out.f2 p2
          clear hp
          have HU := Lib.hid hu
          clear hu
          have HC := Lib.hid (cp_calls w' s22 s' ys q2 HL.out.2.1)
          rw [if_pos (by rfl)]
          go_simp
          go_at_call 13
          refine HC.out.mono ?_
          rintro e wx ⟨vv, rfl, hv, ex⟩
          go_wp2_with fail
          have kk := Keep.of ex II.out.base.size
          refine hK.out _ _ ⟨s5, s6, s7, s19, s20, s21, s22, vv, s24, s25, s26, s27, rfl, ?_⟩
          exact { base := II.out.base.trans ex, f0 := fun h => (II.out.f0 (old (by decide) h)).keep kk, f1 := fun h => (II.out.f1 (old (by decide) h)).keep kk, f2 := fun h => (II.out.f2 (old (by decide) h)).keep kk, f3 := fun _ => hv, f4 := fun h => (II.out.f4 (old (by decide) h)).keep kk, f5 := fun h => (II.out.f5 (old (by decide) h)).keep kk, f6 := fun h => (II.out.f6 (old (by decide) h)).keep kk, f7 := fun h => (II.out.f7 (old (by decide) h)).keep kk, f8 := fun h => II.out.f8 (old (by decide) h), f9 := fun h => (II.out.f9 (old (by decide) h)).keep kk, f10 := fun h => (II.out.f10 (old (by decide) h)).keep kk, c11 := fun h => getD_set_true (II.out.c11 (old (by decide) h)), f11 := fun h => (II.out.f11 (old (by decide) h)).ext ex, c12 := fun h => getD_set_true (II.out.c12 (old (by decide) h)), f12 := fun h => (II.out.f12 (old (by decide) h)).ext ex, f13 := fun h => II.out.f13 (old (by decide) h), n9_10 := fun h k => II.out.n9_10 (old (by decide) h) (old (by decide) k) }
        refine AllOps.cons ?_ ?_
        · intro hu hp K hK
          have p1 := hp 1 (of_decide_eq_true (by kernel_rfl))
          have q1 := II.out.f1 p1
          have p3 := hp 3 (of_decide_eq_true (by kernel_rfl))
          have q3 := II.out.f3 p3
          clear hp
          have HU := Lib.hid hu
          clear hu
          have HC := Lib.hid (divMod_fn w' s21 s23 ((sgn s (val xs))) ((sgn s' (val ys))) (smB_int q1 HB.out.1).1 (smB_int q3 HB.out.2).1 (HL.out.2.2.1.sm (by omega)) (HL.out.2.2.2.sm (by omega)))
          rw [if_pos (by rfl)]
          go_simp
          go_at_call 33
          refine HC.out.mono ?_
          rintro e wx ⟨u1, u2, rfl, hv1, hv2, ex⟩
          go_wp2_with fail
          have kk := Keep.of ex II.out.base.size
          refine hK.out _ _ ⟨s5, s6, s7, s19, s20, s21, s22, s23, (.tuple #[u1, u2, .int .i64 (de ((sgn s' (val ys))))]), s25, s26, s27, rfl, ?_⟩
          exact { base := II.out.base.trans ex, f0 := fun h => (II.out.f0 (old (by decide) h)).keep kk, f1 := fun h => (II.out.f1 (old (by decide) h)).keep kk, f2 := fun h => (II.out.f2 (old (by decide) h)).keep kk, f3 := fun h => (II.out.f3 (old (by decide) h)).keep kk, f4 := fun _ => ⟨u1, u2, rfl, hv1, hv2⟩, f5 := fun h => (II.out.f5 (old (by decide) h)).keep kk, f6 := fun h => (II.out.f6 (old (by decide) h)).keep kk, f7 := fun h => (II.out.f7 (old (by decide) h)).keep kk, f8 := fun h => II.out.f8 (old (by decide) h), f9 := fun h => (II.out.f9 (old (by decide) h)).keep kk, f10 := fun h => (II.out.f10 (old (by decide) h)).keep kk, c11 := fun h => getD_set_true (II.out.c11 (old (by decide) h)), f11 := fun h => (II.out.f11 (old (by decide) h)).ext ex, c12 := fun h => getD_set_true (II.out.c12 (old (by decide) h)), f12 := fun h => (II.out.f12 (old (by decide) h)).ext ex, f13 := fun h => II.out.f13 (old (by decide) h), n9_10 := fun h k => II.out.n9_10 (old (by decide) h) (old (by decide) k) }
        refine AllOps.cons ?_ ?_
        · intro hu hp K hK
          have p4 := hp 4 (of_decide_eq_true (by kernel_rfl))
          have q4 := II.out.f4 p4
          clear hp
          have HU := Lib.hid hu
          clear hu
          rw [if_pos (by rfl)]
          go_simp
          refine hK.out _ _ ⟨s5, s6, s7, s24, s20, s21, s22, s23, s24, s25, s26, s27, rfl, ?_⟩
          exact { base := II.out.base, f0 := fun h => II.out.f0 (old (by decide) h), f1 := fun h => II.out.f1 (old (by decide) h), f2 := fun h => II.out.f2 (old (by decide) h), f3 := fun h => II.out.f3 (old (by decide) h), f4 := fun h => II.out.f4 (old (by decide) h), f5 := fun _ => q4, f6 := fun h => II.out.f6 (old (by decide) h), f7 := fun h => II.out.f7 (old (by decide) h), f8 := fun h => II.out.f8 (old (by decide) h), f9 := fun h => II.out.f9 (old (by decide) h), f10 := fun h => II.out.f10 (old (by decide) h), c11 := fun h => getD_set_true (II.out.c11 (old (by decide) h)), f11 := fun h => II.out.f11 (old (by decide) h), c12 := fun h => getD_set_true (II.out.c12 (old (by decide) h)), f12 := fun h => II.out.f12 (old (by decide) h), f13 := fun h => II.out.f13 (old (by decide) h), n9_10 := fun h k => II.out.n9_10 (old (by decide) h) (old (by decide) k) }
        refine AllOps.cons ?_ ?_
        · intro hu hp K hK
          have p5 := hp 5 (of_decide_eq_true (by kernel_rfl))
          have q5 := II.out.f5 p5
          clear hp
          have HU := Lib.hid hu
          clear hu
          obtain ⟨v1, v2, rfl, g1, g2⟩ := q5
          rw [if_pos (by rfl)]
          go_simp
          refine hK.out _ _ ⟨s5, s6, s7, (.tuple #[v1, v2, .int .i64 (de ((sgn s' (val ys))))]), s20, s21, s22, s23, s24, v1, s26, s27, rfl, ?_⟩
          exact { base := II.out.base, f0 := fun h => II.out.f0 (old (by decide) h), f1 := fun h => II.out.f1 (old (by decide) h), f2 := fun h => II.out.f2 (old (by decide) h), f3 := fun h => II.out.f3 (old (by decide) h), f4 := fun h => II.out.f4 (old (by decide) h), f5 := fun h => II.out.f5 (old (by decide) h), f6 := fun _ => g1, f7 := fun h => II.out.f7 (old (by decide) h), f8 := fun h => II.out.f8 (old (by decide) h), f9 := fun h => II.out.f9 (old (by decide) h), f10 := fun h => II.out.f10 (old (by decide) h), c11 := fun h => getD_set_true (II.out.c11 (old (by decide) h)), f11 := fun h => II.out.f11 (old (by decide) h), c12 := fun h => getD_set_true (II.out.c12 (old (by decide) h)), f12 := fun h => II.out.f12 (old (by decide) h), f13 := fun h => II.out.f13 (old (by decide) h), n9_10 := fun h k => II.out.n9_10 (old (by decide) h) (old (by decide) k) }
        refine AllOps.cons ?_ ?_
        · intro hu hp K hK
          have p5 := hp 5 (of_decide_eq_true (by kernel_rfl))
          have q5 := II.out.f5 p5
          clear hp
          have HU := Lib.hid hu
          clear hu
          obtain ⟨v1, v2, rfl, g1, g2⟩ := q5
          rw [if_pos (by rfl)]
          go_simp
          refine hK.out _ _ ⟨s5, s6, s7, (.tuple #[v1, v2, .int .i64 (de ((sgn s' (val ys))))]), s20, s21, s22, s23, s24, s25, v2, s27, rfl, ?_⟩
          exact { base := II.out.base, f0 := fun h => II.out.f0 (old (by decide) h), f1 := fun h => II.out.f1 (old (by decide) h), f2 := fun h => II.out.f2 (old (by decide) h), f3 := fun h => II.out.f3 (old (by decide) h), f4 := fun h => II.out.f4 (old (by decide) h), f5 := fun h => II.out.f5 (old (by decide) h), f6 := fun h => II.out.f6 (old (by decide) h), f7 := fun _ => g2, f8 := fun h => II.out.f8 (old (by decide) h), f9 := fun h => II.out.f9 (old (by decide) h), f10 := fun h => II.out.f10 (old (by decide) h), c11 := fun h => getD_set_true (II.out.c11 (old (by decide) h)), f11 := fun h => II.out.f11 (old (by decide) h), c12 := fun h => getD_set_true (II.out.c12 (old (by decide) h)), f12 := fun h => II.out.f12 (old (by decide) h), f13 := fun h => II.out.f13 (old (by decide) h), n9_10 := fun h k => II.out.n9_10 (old (by decide) h) (old (by decide) k) }
        refine AllOps.cons ?_ ?_
        · intro hu hp K hK
          have p5 := hp 5 (of_decide_eq_true (by kernel_rfl))
          have q5 := II.out.f5 p5
          clear hp
          have HU := Lib.hid hu
          clear hu
          obtain ⟨v1, v2, rfl, g1, g2⟩ := q5
          rw [if_pos (by rfl)]
          go_simp
          refine hK.out _ _ ⟨s5, s6, s7, (.tuple #[v1, v2, .int .i64 (de ((sgn s' (val ys))))]), s20, s21, s22, s23, s24, s25, s26, (.int .i64 (de ((sgn s' (val ys))))), rfl, ?_⟩
          exact { base := II.out.base, f0 := fun h => II.out.f0 (old (by decide) h), f1 := fun h => II.out.f1 (old (by decide) h), f2 := fun h => II.out.f2 (old (by decide) h), f3 := fun h => II.out.f3 (old (by decide) h), f4 := fun h => II.out.f4 (old (by decide) h), f5 := fun h => II.out.f5 (old (by decide) h), f6 := fun h => II.out.f6 (old (by decide) h), f7 := fun h => II.out.f7 (old (by decide) h), f8 := fun _ => rfl, f9 := fun h => II.out.f9 (old (by decide) h), f10 := fun h => II.out.f10 (old (by decide) h), c11 := fun h => getD_set_true (II.out.c11 (old (by decide) h)), f11 := fun h => II.out.f11 (old (by decide) h), c12 := fun h => getD_set_true (II.out.c12 (old (by decide) h)), f12 := fun h => II.out.f12 (old (by decide) h), f13 := fun h => II.out.f13 (old (by decide) h), n9_10 := fun h k => II.out.n9_10 (old (by decide) h) (old (by decide) k) }
        refine AllOps.cons ?_ ?_
        · intro hu hp K hK
          clear hp
          have HU := Lib.hid hu
          clear hu
          have ea := (Ext.refl w').alloc (.cells #[.bool false, .slice none 0 0] 24)
          rw [if_pos (by rfl)]
          go_simp
          have kk := Keep.of ea II.out.base.size
          refine hK.out _ _ ⟨(.pointer (some ⟨w'.heap.size, 0, none⟩)), s6, s7, s19, s20, s21, s22, s23, s24, s25, s26, s27, rfl, ?_⟩
          exact { base := II.out.base.trans ea, f0 := fun h => (II.out.f0 (old (by decide) h)).keep kk, f1 := fun h => (II.out.f1 (old (by decide) h)).keep kk, f2 := fun h => (II.out.f2 (old (by decide) h)).keep kk, f3 := fun h => (II.out.f3 (old (by decide) h)).keep kk, f4 := fun h => (II.out.f4 (old (by decide) h)).keep kk, f5 := fun h => (II.out.f5 (old (by decide) h)).keep kk, f6 := fun h => (II.out.f6 (old (by decide) h)).keep kk, f7 := fun h => (II.out.f7 (old (by decide) h)).keep kk, f8 := fun h => II.out.f8 (old (by decide) h), f9 := fun _ => varInt_new II.out.base.size 24, f10 := fun h => (II.out.f10 (old (by decide) h)).keep kk, c11 := fun h => getD_set_true (II.out.c11 (old (by decide) h)), f11 := fun h => absurd (II.out.c11 (old (by decide) h)) (by rw [HU.out]; simp), c12 := fun h => getD_set_true (II.out.c12 (old (by decide) h)), f12 := fun h => (II.out.f12 (old (by decide) h)).ext ea, f13 := fun h => II.out.f13 (old (by decide) h), n9_10 := fun _ k => ((II.out.f10 (old (by decide) k)).ne_new).symm }
        refine AllOps.cons ?_ ?_
        · intro hu hp K hK
          clear hp
          have HU := Lib.hid hu
          clear hu
          have ea := (Ext.refl w').alloc (.cells #[.bool false, .slice none 0 0] 24)
          rw [if_pos (by rfl)]
          go_simp
          have kk := Keep.of ea II.out.base.size
          refine hK.out _ _ ⟨s5, (.pointer (some ⟨w'.heap.size, 0, none⟩)), s7, s19, s20, s21, s22, s23, s24, s25, s26, s27, rfl, ?_⟩
          exact { base := II.out.base.trans ea, f0 := fun h => (II.out.f0 (old (by decide) h)).keep kk, f1 := fun h => (II.out.f1 (old (by decide) h)).keep kk, f2 := fun h => (II.out.f2 (old (by decide) h)).keep kk, f3 := fun h => (II.out.f3 (old (by decide) h)).keep kk, f4 := fun h => (II.out.f4 (old (by decide) h)).keep kk, f5 := fun h => (II.out.f5 (old (by decide) h)).keep kk, f6 := fun h => (II.out.f6 (old (by decide) h)).keep kk, f7 := fun h => (II.out.f7 (old (by decide) h)).keep kk, f8 := fun h => II.out.f8 (old (by decide) h), f9 := fun h => (II.out.f9 (old (by decide) h)).keep kk, f10 := fun _ => varInt_new II.out.base.size 24, c11 := fun h => getD_set_true (II.out.c11 (old (by decide) h)), f11 := fun h => (II.out.f11 (old (by decide) h)).ext ea, c12 := fun h => getD_set_true (II.out.c12 (old (by decide) h)), f12 := fun h => absurd (II.out.c12 (old (by decide) h)) (by rw [HU.out]; simp), f13 := fun h => II.out.f13 (old (by decide) h), n9_10 := fun k _ => (II.out.f9 (old (by decide) k)).ne_new }
        refine AllOps.cons ?_ ?_
        · intro hu hp K hK
          have p6 := hp 6 (of_decide_eq_true (by kernel_rfl))
          have q6 := II.out.f6 p6
          have p9 := hp 9 (of_decide_eq_true (by kernel_rfl))
          have q9 := II.out.f9 p9
          clear hp
          have HU := Lib.hid hu
          clear hu
          obtain ⟨b, rfl, hB, ⟨x0, g0⟩, ⟨y0, m0, d0, g1⟩, fr0, fr1⟩ := q9
          have hI := q6
          obtain ⟨ao1, cap1, s1, n1, rfl, _⟩ := q6.open_
          rw [if_pos (by rfl)]
          go_simp
          have kk := keep_put hB g0 g1 s1 ao1 (limbs n1).length cap1
          refine hK.out _ _ ⟨(.pointer (some ⟨b, 0, none⟩)), s6, s7, s19, s20, s21, s22, s23, s24, (.agg #[.bool s1, .slice ao1 (limbs n1).length cap1]), s26, s27, rfl, ?_⟩
          exact { base := (II.out.base.setCell (p := ⟨b, 0, none⟩) hB _).setCell (p := ⟨b, 1, none⟩) hB _, f0 := fun h => (II.out.f0 (old (by decide) h)).keep kk, f1 := fun h => (II.out.f1 (old (by decide) h)).keep kk, f2 := fun h => (II.out.f2 (old (by decide) h)).keep kk, f3 := fun h => (II.out.f3 (old (by decide) h)).keep kk, f4 := fun h => (II.out.f4 (old (by decide) h)).keep kk, f5 := fun h => (II.out.f5 (old (by decide) h)).keep kk, f6 := fun h => (II.out.f6 (old (by decide) h)).keep kk, f7 := fun h => (II.out.f7 (old (by decide) h)).keep kk, f8 := fun h => II.out.f8 (old (by decide) h), f9 := fun h => (II.out.f9 (old (by decide) h)).keep kk, f10 := fun h => (II.out.f10 (old (by decide) h)).keep kk, c11 := fun _ => getD_set_true p9, f11 := fun _ => boxInt_put g0 g1 hI, c12 := fun h => getD_set_true (II.out.c12 (old (by decide) h)), f12 := fun h => (II.out.f12 (old (by decide) h)).put ((II.out.n9_10 p9 (II.out.c12 (old (by decide) h))).symm) g0 g1 s1 ao1 (limbs n1).length cap1, f13 := fun h => II.out.f13 (old (by decide) h), n9_10 := fun h k => II.out.n9_10 (old (by decide) h) (old (by decide) k) }
        refine AllOps.cons ?_ ?_
        · intro hu hp K hK
          have p7 := hp 7 (of_decide_eq_true (by kernel_rfl))
          have q7 := II.out.f7 p7
          have p10 := hp 10 (of_decide_eq_true (by kernel_rfl))
          have q10 := II.out.f10 p10
          clear hp
          have HU := Lib.hid hu
          clear hu
          obtain ⟨b, rfl, hB, ⟨x0, g0⟩, ⟨y0, m0, d0, g1⟩, fr0, fr1⟩ := q10
          have hI := q7
          obtain ⟨ao1, cap1, s1, n1, rfl, _⟩ := q7.open_
          rw [if_pos (by rfl)]
          go_simp
          have kk := keep_put hB g0 g1 s1 ao1 (limbs n1).length cap1
          refine hK.out _ _ ⟨s5, (.pointer (some ⟨b, 0, none⟩)), s7, s19, s20, s21, s22, s23, s24, s25, (.agg #[.bool s1, .slice ao1 (limbs n1).length cap1]), s27, rfl, ?_⟩
          exact { base := (II.out.base.setCell (p := ⟨b, 0, none⟩) hB _).setCell (p := ⟨b, 1, none⟩) hB _, f0 := fun h => (II.out.f0 (old (by decide) h)).keep kk, f1 := fun h => (II.out.f1 (old (by decide) h)).keep kk, f2 := fun h => (II.out.f2 (old (by decide) h)).keep kk, f3 := fun h => (II.out.f3 (old (by decide) h)).keep kk, f4 := fun h => (II.out.f4 (old (by decide) h)).keep kk, f5 := fun h => (II.out.f5 (old (by decide) h)).keep kk, f6 := fun h => (II.out.f6 (old (by decide) h)).keep kk, f7 := fun h => (II.out.f7 (old (by decide) h)).keep kk, f8 := fun h => II.out.f8 (old (by decide) h), f9 := fun h => (II.out.f9 (old (by decide) h)).keep kk, f10 := fun h => (II.out.f10 (old (by decide) h)).keep kk, c11 := fun h => getD_set_true (II.out.c11 (old (by decide) h)), f11 := fun h => (II.out.f11 (old (by decide) h)).put (II.out.n9_10 (II.out.c11 (old (by decide) h)) p10) g0 g1 s1 ao1 (limbs n1).length cap1, c12 := fun _ => getD_set_true p10, f12 := fun _ => boxInt_put g0 g1 hI, f13 := fun h => II.out.f13 (old (by decide) h), n9_10 := fun h k => II.out.n9_10 (old (by decide) h) (old (by decide) k) }
        refine AllOps.cons ?_ ?_
        · intro hu hp K hK
          have p8 := hp 8 (of_decide_eq_true (by kernel_rfl))
          have q8 := II.out.f8 p8
          clear hp
          have HU := Lib.hid hu
          clear hu
          subst q8
          rw [if_pos (by rfl)]
          go_simp
          refine hK.out _ _ ⟨s5, s6, (.int .i64 (de ((sgn s' (val ys))))), s19, s20, s21, s22, s23, s24, s25, s26, (.int .i64 (de ((sgn s' (val ys))))), rfl, ?_⟩
          exact { base := II.out.base, f0 := fun h => II.out.f0 (old (by decide) h), f1 := fun h => II.out.f1 (old (by decide) h), f2 := fun h => II.out.f2 (old (by decide) h), f3 := fun h => II.out.f3 (old (by decide) h), f4 := fun h => II.out.f4 (old (by decide) h), f5 := fun h => II.out.f5 (old (by decide) h), f6 := fun h => II.out.f6 (old (by decide) h), f7 := fun h => II.out.f7 (old (by decide) h), f8 := fun h => II.out.f8 (old (by decide) h), f9 := fun h => II.out.f9 (old (by decide) h), f10 := fun h => II.out.f10 (old (by decide) h), c11 := fun h => getD_set_true (II.out.c11 (old (by decide) h)), f11 := fun h => II.out.f11 (old (by decide) h), c12 := fun h => getD_set_true (II.out.c12 (old (by decide) h)), f12 := fun h => II.out.f12 (old (by decide) h), f13 := fun _ => rfl, n9_10 := fun h k => II.out.n9_10 (old (by decide) h) (old (by decide) k) }
        exact AllOps.nil
      case he =>
        rintro l _ w' hall ⟨s5, s6, s7, s19, s20, s21, s22, s23, s24, s25, s26, s27, rfl, I⟩
        have q11 := I.f11 (hall 11 (by decide))
        have q12 := I.f12 (hall 12 (by decide))
        have q13 := I.f13 (hall 13 (by decide))
        have e1 := I.base
        clear I hall
        simp only [setAll, Act.put, List.setIfInBounds_toArray, List.set_cons_zero, List.set_cons_succ]
        obtain rfl := q13
        go_wp2_with fail
        go_meet
        exact ⟨e1, q11, q12, rfl⟩
    case rest =>
      obtain ⟨e2, ⟨b5, t5, a5, n5, p5, rfl, x0, x1, i5⟩, ⟨b6, t6, a6, n6, p6, rfl, y0, y1, i6⟩, rfl⟩ := hcut
      replace c0 := e2.cell c0
      replace c1 := e2.cell c1
      replace d0 := e2.cell d0
      replace d1 := e2.cell d1
      replace hR := hR.ext e2
      replace kR := kR.ext e2
      replace eW := eW.trans e2
      clear e2
      have j1 := (smB_int hR HB.out.1).1
      have j2 := (smB_int kR HB.out.2).1
      have HS := Lib.hid HL.out.2.2
      generalize sgn s (val xs) = z1 at *
      generalize sgn s' (val ys) = z2 at *
      clear hR kR HB HL
      go_wp2_with fail
      refine (rsign_calls _ _ _ j2).mono ?_
      rintro e w3 ⟨rfl, e3⟩
      by_cases hz : z2 = 0
      · subst hz
        obtain ⟨m1, m2, m3⟩ := dq_zero z1
        rw [m1] at i5
        rw [m2] at i6
        rw [m3]
        replace x0 := e3.cell x0
        replace x1 := e3.cell x1
        replace y0 := e3.cell y0
        replace y1 := e3.cell y1
        replace i5 := i5.ext e3
        replace i6 := i6.ext e3
        have hz0 : cmpZ 0 0 = 0 := rfl
        clear m1 m2 m3
        go_wp2_with fail
        refine (is_true _ _ 0 i5 (by omega) (by omega)).mono ?_
        rintro e w4 ⟨rfl, e4⟩
        replace y0 := e4.cell y0
        replace y1 := e4.cell y1
        go_wp2_with fail
        refine (is_true _ _ 0 (i6.ext e4) (by omega) (by omega)).mono ?_
        rintro e w5 ⟨rfl, e5⟩
        go_wp2_with fail
        go_ret
        exact ⟨ret_bool (by simp), ((eW.trans e3).trans e4).trans e5⟩
      · have hb0 : (cmpZ z2 0 == 0) = false := by
          rcases cmpZ_cases z2 0 with ⟨h1, h2⟩ | ⟨h1, h2⟩ | ⟨h1, h2⟩
          · rw [h2]; rfl
          · exact absurd h1 hz
          · rw [h2]; rfl
        have hD := dq_dr (a := z1) hz
        have hG := dm_signs (a := z1) hz
        have HE := Lib.hid (de_ne hz)
        have HA := Lib.hid (And.intro (dq_abs z1 z2) (dr_abs z1 hz))
        rw [HE.out]
        clear HE
        generalize dq z1 z2 = q at *
        generalize dr z1 z2 = r at *
        have HDD := Lib.hid hD
        have HGG := Lib.hid hG
        clear hD hG hz
        replace c0 := e3.cell c0
        replace c1 := e3.cell c1
        replace d0 := e3.cell d0
        replace d1 := e3.cell d1
        replace x0 := e3.cell x0
        replace x1 := e3.cell x1
        replace y0 := e3.cell y0
        replace y1 := e3.cell y1
        replace i5 := i5.ext e3
        replace i6 := i6.ext e3
        replace j1 := j1.ext e3
        replace j2 := j2.ext e3
        replace eW := eW.trans e3
        clear e3
        go_upto_region 6 with fail
        go_cut [8] (fun t wx => t = .bool true ∧ Ext w3 wx)
        case first =>
          rcases HGG.out with ⟨_, g1⟩ | g1 | g1
          · have G := Lib.hid g1
            clear g1
            refine wp_region_inv (fun a0 l a w' => ∃ s8 s41 s42 s43 s44 s45 s46 s47 s48 s49 s50 s51 s52 s53 s54 s55 s56 s57 s58 s59, a = setAll a0 [(8, s8), (41, s41), (42, s42), (43, s43), (44, s44), (45, s45), (46, s46), (47, s47), (48, s48), (49, s49), (50, s50), (51, s51), (52, s52), (53, s53), (54, s54), (55, s55), (56, s56), (57, s57), (58, s58), (59, s59)] ∧ RegDM6a w3 z2 r l s8 s41 s42 s43 s44 s45 s46 s47 s48 s49 s50 s51 s52 s53 s54 s55 s56 s57 s58 s59 w') (by kernel_rfl) (by kernel_rfl) 82 rfl ?h0 ?hs ?he
            case h0 =>
              intro a hn
              refine ⟨_, _, _, _, _, _, _, _, _, _, _, _, _, _, _, _, _, _, _, _, (setAll_self a 82 hn [8, 41, 42, 43, 44, 45, 46, 47, 48, 49, 50, 51, 52, 53, 54, 55, 56, 57, 58, 59] (by decide)).symm, ?_⟩
              exact { base := (Ext.refl _).drew, f0 := fun h => (none_yet h).elim, f1 := fun h => (none_yet h).elim, f2 := fun h => (none_yet h).elim, f3 := fun h => (none_yet h).elim, f4 := fun h => (none_yet h).elim, f5 := fun h => (none_yet h).elim, f6 := fun h => (none_yet h).elim, f7 := fun h => (none_yet h).elim, f8 := fun h => (none_yet h).elim, f9 := fun h => (none_yet h).elim, f10 := fun h => (none_yet h).elim, f11 := fun h => (none_yet h).elim, f12 := fun h => (none_yet h).elim, f13 := fun h => (none_yet h).elim, f14 := fun h => (none_yet h).elim, f15 := fun h => (none_yet h).elim, f16 := fun h => (none_yet h).elim, f17 := fun h => (none_yet h).elim, f18 := fun h => (none_yet h).elim, f19 := fun h => (none_yet h).elim }
            case hs =>
              rintro l _ w' ⟨s8, s41, s42, s43, s44, s45, s46, s47, s48, s49, s50, s51, s52, s53, s54, s55, s56, s57, s58, s59, rfl, I⟩
              have II := Lib.hid I
              clear I
              simp only [setAll, Act.put, List.setIfInBounds_toArray, List.set_cons_zero, List.set_cons_succ]
              refine AllOps.cons ?_ ?_
              · intro hu hp K hK
                clear hp
                have HU := Lib.hid hu
                clear hu
                have y0x := II.out.base.cell y0
                have y1x := II.out.base.cell y1
                rw [if_pos (by rfl)]
                go_simp
                refine hK.out _ _ ⟨s8, _, s42, s43, s44, s45, s46, s47, s48, s49, s50, s51, s52, s53, s54, s55, s56, s57, s58, s59, rfl, ?_⟩
                exact { base := II.out.base, f0 := fun _ => (i6.ext II.out.base), f1 := fun h => II.out.f1 (old (by decide) h), f2 := fun h => II.out.f2 (old (by decide) h), f3 := fun h => II.out.f3 (old (by decide) h), f4 := fun h => II.out.f4 (old (by decide) h), f5 := fun h => II.out.f5 (old (by decide) h), f6 := fun h => II.out.f6 (old (by decide) h), f7 := fun h => II.out.f7 (old (by decide) h), f8 := fun h => II.out.f8 (old (by decide) h), f9 := fun h => II.out.f9 (old (by decide) h), f10 := fun h => II.out.f10 (old (by decide) h), f11 := fun h => II.out.f11 (old (by decide) h), f12 := fun h => II.out.f12 (old (by decide) h), f13 := fun h => II.out.f13 (old (by decide) h), f14 := fun h => II.out.f14 (old (by decide) h), f15 := fun h => II.out.f15 (old (by decide) h), f16 := fun h => II.out.f16 (old (by decide) h), f17 := fun h => II.out.f17 (old (by decide) h), f18 := fun h => II.out.f18 (old (by decide) h), f19 := fun h => II.out.f19 (old (by decide) h) }
              refine AllOps.cons ?_ ?_
              · intro hu hp K hK
                have p0 := hp 0 (of_decide_eq_true (by kernel_rfl))
                have q0 := II.out.f0 p0
                clear hp
                have HU := Lib.hid hu
                clear hu
                have HC := Lib.hid (rsign_lit w' s41 (r) (0) q0 G.out)
                rw [if_pos (by rfl)]
                go_simp
                go_at_call 28
                refine HC.out.mono ?_
                rintro e wx ⟨rfl, ex⟩
                go_wp2_with fail
                have kk := Keep.of ex II.out.base.size
                refine hK.out _ _ ⟨s8, s41, (.int .i64 0), s43, s44, s45, s46, s47, s48, s49, s50, s51, s52, s53, s54, s55, s56, s57, s58, s59, rfl, ?_⟩
                exact { base := II.out.base.trans ex, f0 := fun h => (II.out.f0 (old (by decide) h)).keep kk, f1 := fun _ => rfl, f2 := fun h => II.out.f2 (old (by decide) h), f3 := fun h => II.out.f3 (old (by decide) h), f4 := fun h => II.out.f4 (old (by decide) h), f5 := fun h => II.out.f5 (old (by decide) h), f6 := fun h => II.out.f6 (old (by decide) h), f7 := fun h => II.out.f7 (old (by decide) h), f8 := fun h => II.out.f8 (old (by decide) h), f9 := fun h => II.out.f9 (old (by decide) h), f10 := fun h => II.out.f10 (old (by decide) h), f11 := fun h => II.out.f11 (old (by decide) h), f12 := fun h => II.out.f12 (old (by decide) h), f13 := fun h => II.out.f13 (old (by decide) h), f14 := fun h => II.out.f14 (old (by decide) h), f15 := fun h => II.out.f15 (old (by decide) h), f16 := fun h => II.out.f16 (old (by decide) h), f17 := fun h => II.out.f17 (old (by decide) h), f18 := fun h => II.out.f18 (old (by decide) h), f19 := fun h => II.out.f19 (old (by decide) h) }
              refine AllOps.cons ?_ ?_
              · intro hu hp K hK
                have p1 := hp 1 (of_decide_eq_true (by kernel_rfl))
                have q1 := II.out.f1 p1
                clear hp
                have HU := Lib.hid hu
                clear hu
                subst q1
                rw [if_pos (by rfl)]
                go_simp
                refine hK.out _ _ ⟨s8, s41, (.int .i64 0), (.bool true), s44, s45, s46, s47, s48, s49, s50, s51, s52, s53, s54, s55, s56, s57, s58, s59, rfl, ?_⟩
                exact { base := II.out.base, f0 := fun h => II.out.f0 (old (by decide) h), f1 := fun h => II.out.f1 (old (by decide) h), f2 := fun _ => rfl, f3 := fun h => II.out.f3 (old (by decide) h), f4 := fun h => II.out.f4 (old (by decide) h), f5 := fun h => II.out.f5 (old (by decide) h), f6 := fun h => II.out.f6 (old (by decide) h), f7 := fun h => II.out.f7 (old (by decide) h), f8 := fun h => II.out.f8 (old (by decide) h), f9 := fun h => II.out.f9 (old (by decide) h), f10 := fun h => II.out.f10 (old (by decide) h), f11 := fun h => II.out.f11 (old (by decide) h), f12 := fun h => II.out.f12 (old (by decide) h), f13 := fun h => II.out.f13 (old (by decide) h), f14 := fun h => II.out.f14 (old (by decide) h), f15 := fun h => II.out.f15 (old (by decide) h), f16 := fun h => II.out.f16 (old (by decide) h), f17 := fun h => II.out.f17 (old (by decide) h), f18 := fun h => II.out.f18 (old (by decide) h), f19 := fun h => II.out.f19 (old (by decide) h) }
              refine AllOps.cons ?_ ?_
              · intro hu hp K hK
                have p2 := hp 2 (of_decide_eq_true (by kernel_rfl))
                have q2 := II.out.f2 p2
                clear hp
                have HU := Lib.hid hu
                clear hu
                subst q2
                rw [if_pos (by rfl)]
                go_simp
                refine hK.out _ _ ⟨s8, s41, s42, (.bool true), (.bool true), s45, s46, s47, s48, s49, s50, s51, s52, s53, s54, s55, s56, s57, s58, s59, rfl, ?_⟩
                exact { base := II.out.base, f0 := fun h => II.out.f0 (old (by decide) h), f1 := fun h => II.out.f1 (old (by decide) h), f2 := fun h => II.out.f2 (old (by decide) h), f3 := fun _ => rfl, f4 := fun h => II.out.f4 (old (by decide) h), f5 := fun h => II.out.f5 (old (by decide) h), f6 := fun h => II.out.f6 (old (by decide) h), f7 := fun h => II.out.f7 (old (by decide) h), f8 := fun h => II.out.f8 (old (by decide) h), f9 := fun h => II.out.f9 (old (by decide) h), f10 := fun h => II.out.f10 (old (by decide) h), f11 := fun h => II.out.f11 (old (by decide) h), f12 := fun h => II.out.f12 (old (by decide) h), f13 := fun h => II.out.f13 (old (by decide) h), f14 := fun h => II.out.f14 (old (by decide) h), f15 := fun h => II.out.f15 (old (by decide) h), f16 := fun h => II.out.f16 (old (by decide) h), f17 := fun h => II.out.f17 (old (by decide) h), f18 := fun h => II.out.f18 (old (by decide) h), f19 := fun h => II.out.f19 (old (by decide) h) }
              refine AllOps.cons ?_ ?_
              · intro hu hp K hK
                have p3 := hp 3 (of_decide_eq_true (by kernel_rfl))
                have q3 := II.out.f3 p3
                clear hp
                have HU := Lib.hid hu
                clear hu
                subst q3
                refine Eq.mpr (if_neg (by exact Bool.false_ne_true)) ?_
                refine hK.out _ _ ⟨s8, s41, s42, s43, (.bool true), undef, s46, s47, s48, s49, s50, s51, s52, s53, s54, s55, s56, s57, s58, s59, rfl, ?_⟩
                exact { base := II.out.base, f0 := fun h => II.out.f0 (old (by decide) h), f1 := fun h => II.out.f1 (old (by decide) h), f2 := fun h => II.out.f2 (old (by decide) h), f3 := fun h => II.out.f3 (old (by decide) h), f4 := fun _ => rfl, f5 := fun h => II.out.f5 (old (by decide) h), f6 := fun h => II.out.f6 (old (by decide) h), f7 := fun h => II.out.f7 (old (by decide) h), f8 := fun h => II.out.f8 (old (by decide) h), f9 := fun h => II.out.f9 (old (by decide) h), f10 := fun h => II.out.f10 (old (by decide) h), f11 := fun h => II.out.f11 (old (by decide) h), f12 := fun h => II.out.f12 (old (by decide) h), f13 := fun h => II.out.f13 (old (by decide) h), f14 := fun h => II.out.f14 (old (by decide) h), f15 := fun h => II.out.f15 (old (by decide) h), f16 := fun h => II.out.f16 (old (by decide) h), f17 := fun h => II.out.f17 (old (by decide) h), f18 := fun h => II.out.f18 (old (by decide) h), f19 := fun h => II.out.f19 (old (by decide) h) }
              refine AllOps.cons ?_ ?_
              · intro hu hp K hK
                have p3 := hp 3 (of_decide_eq_true (by kernel_rfl))
                have q3 := II.out.f3 p3
                clear hp
                have HU := Lib.hid hu
                clear hu
                subst q3
                refine Eq.mpr (if_neg (by exact Bool.false_ne_true)) ?_
                refine hK.out _ _ ⟨s8, s41, s42, s43, (.bool true), s45, undef, s47, s48, s49, s50, s51, s52, s53, s54, s55, s56, s57, s58, s59, rfl, ?_⟩
                exact { base := II.out.base, f0 := fun h => II.out.f0 (old (by decide) h), f1 := fun h => II.out.f1 (old (by decide) h), f2 := fun h => II.out.f2 (old (by decide) h), f3 := fun h => II.out.f3 (old (by decide) h), f4 := fun h => II.out.f4 (old (by decide) h), f5 := fun _ => rfl, f6 := fun h => II.out.f6 (old (by decide) h), f7 := fun h => II.out.f7 (old (by decide) h), f8 := fun h => II.out.f8 (old (by decide) h), f9 := fun h => II.out.f9 (old (by decide) h), f10 := fun h => II.out.f10 (old (by decide) h), f11 := fun h => II.out.f11 (old (by decide) h), f12 := fun h => II.out.f12 (old (by decide) h), f13 := fun h => II.out.f13 (old (by decide) h), f14 := fun h => II.out.f14 (old (by decide) h), f15 := fun h => II.out.f15 (old (by decide) h), f16 := fun h => II.out.f16 (old (by decide) h), f17 := fun h => II.out.f17 (old (by decide) h), f18 := fun h => II.out.f18 (old (by decide) h), f19 := fun h => II.out.f19 (old (by decide) h) }
              refine AllOps.cons ?_ ?_
              · intro hu hp K hK
                have p3 := hp 3 (of_decide_eq_true (by kernel_rfl))
                have q3 := II.out.f3 p3
                clear hp
                have HU := Lib.hid hu
                clear hu
                subst q3
                refine Eq.mpr (if_neg (by exact Bool.false_ne_true)) ?_
                refine hK.out _ _ ⟨s8, s41, s42, s43, (.bool true), s45, s46, undef, s48, s49, s50, s51, s52, s53, s54, s55, s56, s57, s58, s59, rfl, ?_⟩
                exact { base := II.out.base, f0 := fun h => II.out.f0 (old (by decide) h), f1 := fun h => II.out.f1 (old (by decide) h), f2 := fun h => II.out.f2 (old (by decide) h), f3 := fun h => II.out.f3 (old (by decide) h), f4 := fun h => II.out.f4 (old (by decide) h), f5 := fun h => II.out.f5 (old (by decide) h), f6 := fun _ => rfl, f7 := fun h => II.out.f7 (old (by decide) h), f8 := fun h => II.out.f8 (old (by decide) h), f9 := fun h => II.out.f9 (old (by decide) h), f10 := fun h => II.out.f10 (old (by decide) h), f11 := fun h => II.out.f11 (old (by decide) h), f12 := fun h => II.out.f12 (old (by decide) h), f13 := fun h => II.out.f13 (old (by decide) h), f14 := fun h => II.out.f14 (old (by decide) h), f15 := fun h => II.out.f15 (old (by decide) h), f16 := fun h => II.out.f16 (old (by decide) h), f17 := fun h => II.out.f17 (old (by decide) h), f18 := fun h => II.out.f18 (old (by decide) h), f19 := fun h => II.out.f19 (old (by decide) h) }
              refine AllOps.cons ?_ ?_
              · intro hu hp K hK
                have p3 := hp 3 (of_decide_eq_true (by kernel_rfl))
                have q3 := II.out.f3 p3
                clear hp
                have HU := Lib.hid hu
                clear hu
                subst q3
                refine Eq.mpr (if_neg (by exact Bool.false_ne_true)) ?_
                refine hK.out _ _ ⟨s8, s41, s42, s43, (.bool true), s45, s46, s47, undef, s49, s50, s51, s52, s53, s54, s55, s56, s57, s58, s59, rfl, ?_⟩
                exact { base := II.out.base, f0 := fun h => II.out.f0 (old (by decide) h), f1 := fun h => II.out.f1 (old (by decide) h), f2 := fun h => II.out.f2 (old (by decide) h), f3 := fun h => II.out.f3 (old (by decide) h), f4 := fun h => II.out.f4 (old (by decide) h), f5 := fun h => II.out.f5 (old (by decide) h), f6 := fun h => II.out.f6 (old (by decide) h), f7 := fun _ => rfl, f8 := fun h => II.out.f8 (old (by decide) h), f9 := fun h => II.out.f9 (old (by decide) h), f10 := fun h => II.out.f10 (old (by decide) h), f11 := fun h => II.out.f11 (old (by decide) h), f12 := fun h => II.out.f12 (old (by decide) h), f13 := fun h => II.out.f13 (old (by decide) h), f14 := fun h => II.out.f14 (old (by decide) h), f15 := fun h => II.out.f15 (old (by decide) h), f16 := fun h => II.out.f16 (old (by decide) h), f17 := fun h => II.out.f17 (old (by decide) h), f18 := fun h => II.out.f18 (old (by decide) h), f19 := fun h => II.out.f19 (old (by decide) h) }
              refine AllOps.cons ?_ ?_
              · intro hu hp K hK
                have p3 := hp 3 (of_decide_eq_true (by kernel_rfl))
                have q3 := II.out.f3 p3
                clear hp
                have HU := Lib.hid hu
                clear hu
                subst q3
                refine Eq.mpr (if_neg (by exact Bool.false_ne_true)) ?_
                refine hK.out _ _ ⟨s8, s41, s42, s43, (.bool true), s45, s46, s47, s48, undef, s50, s51, s52, s53, s54, s55, s56, s57, s58, s59, rfl, ?_⟩
                exact { base := II.out.base, f0 := fun h => II.out.f0 (old (by decide) h), f1 := fun h => II.out.f1 (old (by decide) h), f2 := fun h => II.out.f2 (old (by decide) h), f3 := fun h => II.out.f3 (old (by decide) h), f4 := fun h => II.out.f4 (old (by decide) h), f5 := fun h => II.out.f5 (old (by decide) h), f6 := fun h => II.out.f6 (old (by decide) h), f7 := fun h => II.out.f7 (old (by decide) h), f8 := fun _ => rfl, f9 := fun h => II.out.f9 (old (by decide) h), f10 := fun h => II.out.f10 (old (by decide) h), f11 := fun h => II.out.f11 (old (by decide) h), f12 := fun h => II.out.f12 (old (by decide) h), f13 := fun h => II.out.f13 (old (by decide) h), f14 := fun h => II.out.f14 (old (by decide) h), f15 := fun h => II.out.f15 (old (by decide) h), f16 := fun h => II.out.f16 (old (by decide) h), f17 := fun h => II.out.f17 (old (by decide) h), f18 := fun h => II.out.f18 (old (by decide) h), f19 := fun h => II.out.f19 (old (by decide) h) }
              refine AllOps.cons ?_ ?_
              · intro hu hp K hK
                have p3 := hp 3 (of_decide_eq_true (by kernel_rfl))
                have q3 := II.out.f3 p3
                clear hp
                have HU := Lib.hid hu
                clear hu
                subst q3
                refine Eq.mpr (if_neg (by exact Bool.false_ne_true)) ?_
                refine hK.out _ _ ⟨s8, s41, s42, s43, (.bool true), s45, s46, s47, s48, s49, undef, s51, s52, s53, s54, s55, s56, s57, s58, s59, rfl, ?_⟩
                exact { base := II.out.base, f0 := fun h => II.out.f0 (old (by decide) h), f1 := fun h => II.out.f1 (old (by decide) h), f2 := fun h => II.out.f2 (old (by decide) h), f3 := fun h => II.out.f3 (old (by decide) h), f4 := fun h => II.out.f4 (old (by decide) h), f5 := fun h => II.out.f5 (old (by decide) h), f6 := fun h => II.out.f6 (old (by decide) h), f7 := fun h => II.out.f7 (old (by decide) h), f8 := fun h => II.out.f8 (old (by decide) h), f9 := fun _ => rfl, f10 := fun h => II.out.f10 (old (by decide) h), f11 := fun h => II.out.f11 (old (by decide) h), f12 := fun h => II.out.f12 (old (by decide) h), f13 := fun h => II.out.f13 (old (by decide) h), f14 := fun h => II.out.f14 (old (by decide) h), f15 := fun h => II.out.f15 (old (by decide) h), f16 := fun h => II.out.f16 (old (by decide) h), f17 := fun h => II.out.f17 (old (by decide) h), f18 := fun h => II.out.f18 (old (by decide) h), f19 := fun h => II.out.f19 (old (by decide) h) }
              refine AllOps.cons ?_ ?_
              · intro hu hp K hK
                have p9 := hp 9 (of_decide_eq_true (by kernel_rfl))
                have q9 := II.out.f9 p9
                clear hp
                have HU := Lib.hid hu
                clear hu
                subst q9
                refine Eq.mpr (if_neg (by exact Bool.false_ne_true)) ?_
                refine hK.out _ _ ⟨s8, s41, s42, s43, s44, s45, s46, s47, s48, s49, undef, undef, s52, s53, s54, s55, s56, s57, s58, s59, rfl, ?_⟩
                exact { base := II.out.base, f0 := fun h => II.out.f0 (old (by decide) h), f1 := fun h => II.out.f1 (old (by decide) h), f2 := fun h => II.out.f2 (old (by decide) h), f3 := fun h => II.out.f3 (old (by decide) h), f4 := fun h => II.out.f4 (old (by decide) h), f5 := fun h => II.out.f5 (old (by decide) h), f6 := fun h => II.out.f6 (old (by decide) h), f7 := fun h => II.out.f7 (old (by decide) h), f8 := fun h => II.out.f8 (old (by decide) h), f9 := fun h => II.out.f9 (old (by decide) h), f10 := fun _ => rfl, f11 := fun h => II.out.f11 (old (by decide) h), f12 := fun h => II.out.f12 (old (by decide) h), f13 := fun h => II.out.f13 (old (by decide) h), f14 := fun h => II.out.f14 (old (by decide) h), f15 := fun h => II.out.f15 (old (by decide) h), f16 := fun h => II.out.f16 (old (by decide) h), f17 := fun h => II.out.f17 (old (by decide) h), f18 := fun h => II.out.f18 (old (by decide) h), f19 := fun h => II.out.f19 (old (by decide) h) }
              refine AllOps.cons ?_ ?_
              · intro hu hp K hK
                have p9 := hp 9 (of_decide_eq_true (by kernel_rfl))
                have q9 := II.out.f9 p9
                clear hp
                have HU := Lib.hid hu
                clear hu
                subst q9
                refine Eq.mpr (if_neg (by exact Bool.false_ne_true)) ?_
                refine hK.out _ _ ⟨s8, s41, s42, s43, s44, s45, s46, s47, s48, s49, undef, s51, undef, s53, s54, s55, s56, s57, s58, s59, rfl, ?_⟩
                exact { base := II.out.base, f0 := fun h => II.out.f0 (old (by decide) h), f1 := fun h => II.out.f1 (old (by decide) h), f2 := fun h => II.out.f2 (old (by decide) h), f3 := fun h => II.out.f3 (old (by decide) h), f4 := fun h => II.out.f4 (old (by decide) h), f5 := fun h => II.out.f5 (old (by decide) h), f6 := fun h => II.out.f6 (old (by decide) h), f7 := fun h => II.out.f7 (old (by decide) h), f8 := fun h => II.out.f8 (old (by decide) h), f9 := fun h => II.out.f9 (old (by decide) h), f10 := fun h => II.out.f10 (old (by decide) h), f11 := fun _ => rfl, f12 := fun h => II.out.f12 (old (by decide) h), f13 := fun h => II.out.f13 (old (by decide) h), f14 := fun h => II.out.f14 (old (by decide) h), f15 := fun h => II.out.f15 (old (by decide) h), f16 := fun h => II.out.f16 (old (by decide) h), f17 := fun h => II.out.f17 (old (by decide) h), f18 := fun h => II.out.f18 (old (by decide) h), f19 := fun h => II.out.f19 (old (by decide) h) }
              refine AllOps.cons ?_ ?_
              · intro hu hp K hK
                have p9 := hp 9 (of_decide_eq_true (by kernel_rfl))
                have q9 := II.out.f9 p9
                clear hp
                have HU := Lib.hid hu
                clear hu
                subst q9
                refine Eq.mpr (if_neg (by exact Bool.false_ne_true)) ?_
                refine hK.out _ _ ⟨s8, s41, s42, s43, s44, s45, s46, s47, s48, s49, undef, s51, s52, undef, s54, s55, s56, s57, s58, s59, rfl, ?_⟩
                exact { base := II.out.base, f0 := fun h => II.out.f0 (old (by decide) h), f1 := fun h => II.out.f1 (old (by decide) h), f2 := fun h => II.out.f2 (old (by decide) h), f3 := fun h => II.out.f3 (old (by decide) h), f4 := fun h => II.out.f4 (old (by decide) h), f5 := fun h => II.out.f5 (old (by decide) h), f6 := fun h => II.out.f6 (old (by decide) h), f7 := fun h => II.out.f7 (old (by decide) h), f8 := fun h => II.out.f8 (old (by decide) h), f9 := fun h => II.out.f9 (old (by decide) h), f10 := fun h => II.out.f10 (old (by decide) h), f11 := fun h => II.out.f11 (old (by decide) h), f12 := fun _ => rfl, f13 := fun h => II.out.f13 (old (by decide) h), f14 := fun h => II.out.f14 (old (by decide) h), f15 := fun h => II.out.f15 (old (by decide) h), f16 := fun h => II.out.f16 (old (by decide) h), f17 := fun h => II.out.f17 (old (by decide) h), f18 := fun h => II.out.f18 (old (by decide) h), f19 := fun h => II.out.f19 (old (by decide) h) }
              refine AllOps.cons ?_ ?_
              · intro hu hp K hK
                have p9 := hp 9 (of_decide_eq_true (by kernel_rfl))
                have q9 := II.out.f9 p9
                clear hp
                have HU := Lib.hid hu
                clear hu
                subst q9
                refine Eq.mpr (if_neg (by exact Bool.false_ne_true)) ?_
                refine hK.out _ _ ⟨s8, s41, s42, s43, s44, s45, s46, s47, s48, s49, undef, s51, s52, s53, undef, s55, s56, s57, s58, s59, rfl, ?_⟩
                exact { base := II.out.base, f0 := fun h => II.out.f0 (old (by decide) h), f1 := fun h => II.out.f1 (old (by decide) h), f2 := fun h => II.out.f2 (old (by decide) h), f3 := fun h => II.out.f3 (old (by decide) h), f4 := fun h => II.out.f4 (old (by decide) h), f5 := fun h => II.out.f5 (old (by decide) h), f6 := fun h => II.out.f6 (old (by decide) h), f7 := fun h => II.out.f7 (old (by decide) h), f8 := fun h => II.out.f8 (old (by decide) h), f9 := fun h => II.out.f9 (old (by decide) h), f10 := fun h => II.out.f10 (old (by decide) h), f11 := fun h => II.out.f11 (old (by decide) h), f12 := fun h => II.out.f12 (old (by decide) h), f13 := fun _ => rfl, f14 := fun h => II.out.f14 (old (by decide) h), f15 := fun h => II.out.f15 (old (by decide) h), f16 := fun h => II.out.f16 (old (by decide) h), f17 := fun h => II.out.f17 (old (by decide) h), f18 := fun h => II.out.f18 (old (by decide) h), f19 := fun h => II.out.f19 (old (by decide) h) }
              refine AllOps.cons ?_ ?_
              · intro hu hp K hK
                have p9 := hp 9 (of_decide_eq_true (by kernel_rfl))
                have q9 := II.out.f9 p9
                clear hp
                have HU := Lib.hid hu
                clear hu
                subst q9
                refine Eq.mpr (if_neg (by exact Bool.false_ne_true)) ?_
                refine hK.out _ _ ⟨s8, s41, s42, s43, s44, s45, s46, s47, s48, s49, undef, s51, s52, s53, s54, undef, s56, s57, s58, s59, rfl, ?_⟩
                exact { base := II.out.base, f0 := fun h => II.out.f0 (old (by decide) h), f1 := fun h => II.out.f1 (old (by decide) h), f2 := fun h => II.out.f2 (old (by decide) h), f3 := fun h => II.out.f3 (old (by decide) h), f4 := fun h => II.out.f4 (old (by decide) h), f5 := fun h => II.out.f5 (old (by decide) h), f6 := fun h => II.out.f6 (old (by decide) h), f7 := fun h => II.out.f7 (old (by decide) h), f8 := fun h => II.out.f8 (old (by decide) h), f9 := fun h => II.out.f9 (old (by decide) h), f10 := fun h => II.out.f10 (old (by decide) h), f11 := fun h => II.out.f11 (old (by decide) h), f12 := fun h => II.out.f12 (old (by decide) h), f13 := fun h => II.out.f13 (old (by decide) h), f14 := fun _ => rfl, f15 := fun h => II.out.f15 (old (by decide) h), f16 := fun h => II.out.f16 (old (by decide) h), f17 := fun h => II.out.f17 (old (by decide) h), f18 := fun h => II.out.f18 (old (by decide) h), f19 := fun h => II.out.f19 (old (by decide) h) }
              refine AllOps.cons ?_ ?_
              · intro hu hp K hK
                have p9 := hp 9 (of_decide_eq_true (by kernel_rfl))
                have q9 := II.out.f9 p9
                clear hp
                have HU := Lib.hid hu
                clear hu
                subst q9
                refine Eq.mpr (if_neg (by exact Bool.false_ne_true)) ?_
                refine hK.out _ _ ⟨s8, s41, s42, s43, s44, s45, s46, s47, s48, s49, undef, s51, s52, s53, s54, s55, undef, s57, s58, s59, rfl, ?_⟩
                exact { base := II.out.base, f0 := fun h => II.out.f0 (old (by decide) h), f1 := fun h => II.out.f1 (old (by decide) h), f2 := fun h => II.out.f2 (old (by decide) h), f3 := fun h => II.out.f3 (old (by decide) h), f4 := fun h => II.out.f4 (old (by decide) h), f5 := fun h => II.out.f5 (old (by decide) h), f6 := fun h => II.out.f6 (old (by decide) h), f7 := fun h => II.out.f7 (old (by decide) h), f8 := fun h => II.out.f8 (old (by decide) h), f9 := fun h => II.out.f9 (old (by decide) h), f10 := fun h => II.out.f10 (old (by decide) h), f11 := fun h => II.out.f11 (old (by decide) h), f12 := fun h => II.out.f12 (old (by decide) h), f13 := fun h => II.out.f13 (old (by decide) h), f14 := fun h => II.out.f14 (old (by decide) h), f15 := fun _ => rfl, f16 := fun h => II.out.f16 (old (by decide) h), f17 := fun h => II.out.f17 (old (by decide) h), f18 := fun h => II.out.f18 (old (by decide) h), f19 := fun h => II.out.f19 (old (by decide) h) }
              refine AllOps.cons ?_ ?_
              · intro hu hp K hK
                have p9 := hp 9 (of_decide_eq_true (by kernel_rfl))
                have q9 := II.out.f9 p9
                clear hp
                have HU := Lib.hid hu
                clear hu
                subst q9
                refine Eq.mpr (if_neg (by exact Bool.false_ne_true)) ?_
                refine hK.out _ _ ⟨s8, s41, s42, s43, s44, s45, s46, s47, s48, s49, undef, s51, s52, s53, s54, s55, s56, undef, s58, s59, rfl, ?_⟩
                exact { base := II.out.base, f0 := fun h => II.out.f0 (old (by decide) h), f1 := fun h => II.out.f1 (old (by decide) h), f2 := fun h => II.out.f2 (old (by decide) h), f3 := fun h => II.out.f3 (old (by decide) h), f4 := fun h => II.out.f4 (old (by decide) h), f5 := fun h => II.out.f5 (old (by decide) h), f6 := fun h => II.out.f6 (old (by decide) h), f7 := fun h => II.out.f7 (old (by decide) h), f8 := fun h => II.out.f8 (old (by decide) h), f9 := fun h => II.out.f9 (old (by decide) h), f10 := fun h => II.out.f10 (old (by decide) h), f11 := fun h => II.out.f11 (old (by decide) h), f12 := fun h => II.out.f12 (old (by decide) h), f13 := fun h => II.out.f13 (old (by decide) h), f14 := fun h => II.out.f14 (old (by decide) h), f15 := fun h => II.out.f15 (old (by decide) h), f16 := fun _ => rfl, f17 := fun h => II.out.f17 (old (by decide) h), f18 := fun h => II.out.f18 (old (by decide) h), f19 := fun h => II.out.f19 (old (by decide) h) }
              refine AllOps.cons ?_ ?_
              · intro hu hp K hK
                have p3 := hp 3 (of_decide_eq_true (by kernel_rfl))
                have q3 := II.out.f3 p3
                clear hp
                have HU := Lib.hid hu
                clear hu
                subst q3
                refine Eq.mpr (if_neg (by exact Bool.false_ne_true)) ?_
                refine hK.out _ _ ⟨s8, s41, s42, s43, (.bool true), s45, s46, s47, s48, s49, s50, s51, s52, s53, s54, s55, s56, s57, undef, s59, rfl, ?_⟩
                exact { base := II.out.base, f0 := fun h => II.out.f0 (old (by decide) h), f1 := fun h => II.out.f1 (old (by decide) h), f2 := fun h => II.out.f2 (old (by decide) h), f3 := fun h => II.out.f3 (old (by decide) h), f4 := fun h => II.out.f4 (old (by decide) h), f5 := fun h => II.out.f5 (old (by decide) h), f6 := fun h => II.out.f6 (old (by decide) h), f7 := fun h => II.out.f7 (old (by decide) h), f8 := fun h => II.out.f8 (old (by decide) h), f9 := fun h => II.out.f9 (old (by decide) h), f10 := fun h => II.out.f10 (old (by decide) h), f11 := fun h => II.out.f11 (old (by decide) h), f12 := fun h => II.out.f12 (old (by decide) h), f13 := fun h => II.out.f13 (old (by decide) h), f14 := fun h => II.out.f14 (old (by decide) h), f15 := fun h => II.out.f15 (old (by decide) h), f16 := fun h => II.out.f16 (old (by decide) h), f17 := fun _ => rfl, f18 := fun h => II.out.f18 (old (by decide) h), f19 := fun h => II.out.f19 (old (by decide) h) }
              refine AllOps.cons ?_ ?_
              · intro hu hp K hK
                have p3 := hp 3 (of_decide_eq_true (by kernel_rfl))
                have q3 := II.out.f3 p3
                have p17 := hp 17 (of_decide_eq_true (by kernel_rfl))
                have q17 := II.out.f17 p17
                clear hp
                have HU := Lib.hid hu
                clear hu
                subst q3
                subst q17
                rw [if_pos (by rfl)]
                go_simp
                refine hK.out _ _ ⟨s8, s41, s42, s43, (.bool true), s45, s46, s47, s48, s49, s50, s51, s52, s53, s54, s55, s56, s57, undef, (.bool true), rfl, ?_⟩
                exact { base := II.out.base, f0 := fun h => II.out.f0 (old (by decide) h), f1 := fun h => II.out.f1 (old (by decide) h), f2 := fun h => II.out.f2 (old (by decide) h), f3 := fun h => II.out.f3 (old (by decide) h), f4 := fun h => II.out.f4 (old (by decide) h), f5 := fun h => II.out.f5 (old (by decide) h), f6 := fun h => II.out.f6 (old (by decide) h), f7 := fun h => II.out.f7 (old (by decide) h), f8 := fun h => II.out.f8 (old (by decide) h), f9 := fun h => II.out.f9 (old (by decide) h), f10 := fun h => II.out.f10 (old (by decide) h), f11 := fun h => II.out.f11 (old (by decide) h), f12 := fun h => II.out.f12 (old (by decide) h), f13 := fun h => II.out.f13 (old (by decide) h), f14 := fun h => II.out.f14 (old (by decide) h), f15 := fun h => II.out.f15 (old (by decide) h), f16 := fun h => II.out.f16 (old (by decide) h), f17 := fun h => II.out.f17 (old (by decide) h), f18 := fun _ => rfl, f19 := fun h => II.out.f19 (old (by decide) h) }
              refine AllOps.cons ?_ ?_
              · intro hu hp K hK
                have p18 := hp 18 (of_decide_eq_true (by kernel_rfl))
                have q18 := II.out.f18 p18
                clear hp
                have HU := Lib.hid hu
                clear hu
                subst q18
                rw [if_pos (by rfl)]
                go_simp
                refine hK.out _ _ ⟨(.bool true), s41, s42, s43, s44, s45, s46, s47, s48, s49, s50, s51, s52, s53, s54, s55, s56, s57, s58, (.bool true), rfl, ?_⟩
                exact { base := II.out.base, f0 := fun h => II.out.f0 (old (by decide) h), f1 := fun h => II.out.f1 (old (by decide) h), f2 := fun h => II.out.f2 (old (by decide) h), f3 := fun h => II.out.f3 (old (by decide) h), f4 := fun h => II.out.f4 (old (by decide) h), f5 := fun h => II.out.f5 (old (by decide) h), f6 := fun h => II.out.f6 (old (by decide) h), f7 := fun h => II.out.f7 (old (by decide) h), f8 := fun h => II.out.f8 (old (by decide) h), f9 := fun h => II.out.f9 (old (by decide) h), f10 := fun h => II.out.f10 (old (by decide) h), f11 := fun h => II.out.f11 (old (by decide) h), f12 := fun h => II.out.f12 (old (by decide) h), f13 := fun h => II.out.f13 (old (by decide) h), f14 := fun h => II.out.f14 (old (by decide) h), f15 := fun h => II.out.f15 (old (by decide) h), f16 := fun h => II.out.f16 (old (by decide) h), f17 := fun h => II.out.f17 (old (by decide) h), f18 := fun h => II.out.f18 (old (by decide) h), f19 := fun _ => rfl }
              exact AllOps.nil
            case he =>
              rintro l _ w' hall ⟨s8, s41, s42, s43, s44, s45, s46, s47, s48, s49, s50, s51, s52, s53, s54, s55, s56, s57, s58, s59, rfl, I⟩
              have q19 := I.f19 (hall 19 (by decide))
              have e1 := I.base
              clear I hall
              simp only [setAll, Act.put, List.setIfInBounds_toArray, List.set_cons_zero, List.set_cons_succ]
              obtain rfl := q19
              go_wp2_with fail
              go_meet
              exact ⟨rfl, e1⟩
          · have G := Lib.hid g1
            clear g1
            refine wp_region_inv (fun a0 l a w' => ∃ s8 s41 s42 s43 s44 s45 s46 s47 s48 s49 s50 s51 s52 s53 s54 s55 s56 s57 s58 s59, a = setAll a0 [(8, s8), (41, s41), (42, s42), (43, s43), (44, s44), (45, s45), (46, s46), (47, s47), (48, s48), (49, s49), (50, s50), (51, s51), (52, s52), (53, s53), (54, s54), (55, s55), (56, s56), (57, s57), (58, s58), (59, s59)] ∧ RegDM6b w3 z2 r l s8 s41 s42 s43 s44 s45 s46 s47 s48 s49 s50 s51 s52 s53 s54 s55 s56 s57 s58 s59 w') (by kernel_rfl) (by kernel_rfl) 82 rfl ?h0 ?hs ?he
            case h0 =>
              intro a hn
              refine ⟨_, _, _, _, _, _, _, _, _, _, _, _, _, _, _, _, _, _, _, _, (setAll_self a 82 hn [8, 41, 42, 43, 44, 45, 46, 47, 48, 49, 50, 51, 52, 53, 54, 55, 56, 57, 58, 59] (by decide)).symm, ?_⟩
              exact { base := (Ext.refl _).drew, f0 := fun h => (none_yet h).elim, f1 := fun h => (none_yet h).elim, f2 := fun h => (none_yet h).elim, f3 := fun h => (none_yet h).elim, f4 := fun h => (none_yet h).elim, f5 := fun h => (none_yet h).elim, f6 := fun h => (none_yet h).elim, f7 := fun h => (none_yet h).elim, f8 := fun h => (none_yet h).elim, f9 := fun h => (none_yet h).elim, f10 := fun h => (none_yet h).elim, f11 := fun h => (none_yet h).elim, f12 := fun h => (none_yet h).elim, f13 := fun h => (none_yet h).elim, f14 := fun h => (none_yet h).elim, f15 := fun h => (none_yet h).elim, f16 := fun h => (none_yet h).elim, f17 := fun h => (none_yet h).elim, f18 := fun h => (none_yet h).elim, f19 := fun h => (none_yet h).elim }
            case hs =>
              rintro l _ w' ⟨s8, s41, s42, s43, s44, s45, s46, s47, s48, s49, s50, s51, s52, s53, s54, s55, s56, s57, s58, s59, rfl, I⟩
              have II := Lib.hid I
              clear I
              simp only [setAll, Act.put, List.setIfInBounds_toArray, List.set_cons_zero, List.set_cons_succ]
              refine AllOps.cons ?_ ?_
              · intro hu hp K hK
                clear hp
                have HU := Lib.hid hu
                clear hu
                have y0x := II.out.base.cell y0
                have y1x := II.out.base.cell y1
                rw [if_pos (by rfl)]
                go_simp
                refine hK.out _ _ ⟨s8, _, s42, s43, s44, s45, s46, s47, s48, s49, s50, s51, s52, s53, s54, s55, s56, s57, s58, s59, rfl, ?_⟩
                exact { base := II.out.base, f0 := fun _ => (i6.ext II.out.base), f1 := fun h => II.out.f1 (old (by decide) h), f2 := fun h => II.out.f2 (old (by decide) h), f3 := fun h => II.out.f3 (old (by decide) h), f4 := fun h => II.out.f4 (old (by decide) h), f5 := fun h => II.out.f5 (old (by decide) h), f6 := fun h => II.out.f6 (old (by decide) h), f7 := fun h => II.out.f7 (old (by decide) h), f8 := fun h => II.out.f8 (old (by decide) h), f9 := fun h => II.out.f9 (old (by decide) h), f10 := fun h => II.out.f10 (old (by decide) h), f11 := fun h => II.out.f11 (old (by decide) h), f12 := fun h => II.out.f12 (old (by decide) h), f13 := fun h => II.out.f13 (old (by decide) h), f14 := fun h => II.out.f14 (old (by decide) h), f15 := fun h => II.out.f15 (old (by decide) h), f16 := fun h => II.out.f16 (old (by decide) h), f17 := fun h => II.out.f17 (old (by decide) h), f18 := fun h => II.out.f18 (old (by decide) h), f19 := fun h => II.out.f19 (old (by decide) h) }
              refine AllOps.cons ?_ ?_
              · intro hu hp K hK
                have p0 := hp 0 (of_decide_eq_true (by kernel_rfl))
                have q0 := II.out.f0 p0
                clear hp
                have HU := Lib.hid hu
                clear hu
                have HC := Lib.hid (rsign_lit w' s41 (r) (1) q0 G.out.1)
                rw [if_pos (by rfl)]
                go_simp
                go_at_call 28
                refine HC.out.mono ?_
                rintro e wx ⟨rfl, ex⟩
                go_wp2_with fail
                have kk := Keep.of ex II.out.base.size
                refine hK.out _ _ ⟨s8, s41, (.int .i64 1), s43, s44, s45, s46, s47, s48, s49, s50, s51, s52, s53, s54, s55, s56, s57, s58, s59, rfl, ?_⟩
                exact { base := II.out.base.trans ex, f0 := fun h => (II.out.f0 (old (by decide) h)).keep kk, f1 := fun _ => rfl, f2 := fun h => II.out.f2 (old (by decide) h), f3 := fun h => II.out.f3 (old (by decide) h), f4 := fun h => (II.out.f4 (old (by decide) h)).keep kk, f5 := fun h => II.out.f5 (old (by decide) h), f6 := fun h => (II.out.f6 (old (by decide) h)).keep kk, f7 := fun h => II.out.f7 (old (by decide) h), f8 := fun h => II.out.f8 (old (by decide) h), f9 := fun h => II.out.f9 (old (by decide) h), f10 := fun h => (II.out.f10 (old (by decide) h)).keep kk, f11 := fun h => (II.out.f11 (old (by decide) h)).keep kk, f12 := fun h => II.out.f12 (old (by decide) h), f13 := fun h => (II.out.f13 (old (by decide) h)).keep kk, f14 := fun h => II.out.f14 (old (by decide) h), f15 := fun h => II.out.f15 (old (by decide) h), f16 := fun h => II.out.f16 (old (by decide) h), f17 := fun h => II.out.f17 (old (by decide) h), f18 := fun h => II.out.f18 (old (by decide) h), f19 := fun h => II.out.f19 (old (by decide) h) }
              refine AllOps.cons ?_ ?_
              · intro hu hp K hK
                have p1 := hp 1 (of_decide_eq_true (by kernel_rfl))
                have q1 := II.out.f1 p1
                clear hp
                have HU := Lib.hid hu
                clear hu
                subst q1
                rw [if_pos (by rfl)]
                go_simp
                refine hK.out _ _ ⟨s8, s41, (.int .i64 1), (.bool false), s44, s45, s46, s47, s48, s49, s50, s51, s52, s53, s54, s55, s56, s57, s58, s59, rfl, ?_⟩
                exact { base := II.out.base, f0 := fun h => II.out.f0 (old (by decide) h), f1 := fun h => II.out.f1 (old (by decide) h), f2 := fun _ => rfl, f3 := fun h => II.out.f3 (old (by decide) h), f4 := fun h => II.out.f4 (old (by decide) h), f5 := fun h => II.out.f5 (old (by decide) h), f6 := fun h => II.out.f6 (old (by decide) h), f7 := fun h => II.out.f7 (old (by decide) h), f8 := fun h => II.out.f8 (old (by decide) h), f9 := fun h => II.out.f9 (old (by decide) h), f10 := fun h => II.out.f10 (old (by decide) h), f11 := fun h => II.out.f11 (old (by decide) h), f12 := fun h => II.out.f12 (old (by decide) h), f13 := fun h => II.out.f13 (old (by decide) h), f14 := fun h => II.out.f14 (old (by decide) h), f15 := fun h => II.out.f15 (old (by decide) h), f16 := fun h => II.out.f16 (old (by decide) h), f17 := fun h => II.out.f17 (old (by decide) h), f18 := fun h => II.out.f18 (old (by decide) h), f19 := fun h => II.out.f19 (old (by decide) h) }
              refine AllOps.cons ?_ ?_
              · intro hu hp K hK
                have p2 := hp 2 (of_decide_eq_true (by kernel_rfl))
                have q2 := II.out.f2 p2
                clear hp
                have HU := Lib.hid hu
                clear hu
                subst q2
                rw [if_pos (by rfl)]
                go_simp
                refine hK.out _ _ ⟨s8, s41, s42, (.bool false), (.bool false), s45, s46, s47, s48, s49, s50, s51, s52, s53, s54, s55, s56, s57, s58, s59, rfl, ?_⟩
                exact { base := II.out.base, f0 := fun h => II.out.f0 (old (by decide) h), f1 := fun h => II.out.f1 (old (by decide) h), f2 := fun h => II.out.f2 (old (by decide) h), f3 := fun _ => rfl, f4 := fun h => II.out.f4 (old (by decide) h), f5 := fun h => II.out.f5 (old (by decide) h), f6 := fun h => II.out.f6 (old (by decide) h), f7 := fun h => II.out.f7 (old (by decide) h), f8 := fun h => II.out.f8 (old (by decide) h), f9 := fun h => II.out.f9 (old (by decide) h), f10 := fun h => II.out.f10 (old (by decide) h), f11 := fun h => II.out.f11 (old (by decide) h), f12 := fun h => II.out.f12 (old (by decide) h), f13 := fun h => II.out.f13 (old (by decide) h), f14 := fun h => II.out.f14 (old (by decide) h), f15 := fun h => II.out.f15 (old (by decide) h), f16 := fun h => II.out.f16 (old (by decide) h), f17 := fun h => II.out.f17 (old (by decide) h), f18 := fun h => II.out.f18 (old (by decide) h), f19 := fun h => II.out.f19 (old (by decide) h) }
              refine AllOps.cons ?_ ?_
              · intro hu hp K hK
                have p3 := hp 3 (of_decide_eq_true (by kernel_rfl))
                have q3 := II.out.f3 p3
                clear hp
                have HU := Lib.hid hu
                clear hu
                subst q3
                have y0x := II.out.base.cell y0
                have y1x := II.out.base.cell y1
                rw [if_pos (by rfl)]
                go_simp
                refine hK.out _ _ ⟨s8, s41, s42, s43, (.bool false), _, s46, s47, s48, s49, s50, s51, s52, s53, s54, s55, s56, s57, s58, s59, rfl, ?_⟩
                exact { base := II.out.base, f0 := fun h => II.out.f0 (old (by decide) h), f1 := fun h => II.out.f1 (old (by decide) h), f2 := fun h => II.out.f2 (old (by decide) h), f3 := fun h => II.out.f3 (old (by decide) h), f4 := fun _ => (i6.ext II.out.base), f5 := fun h => II.out.f5 (old (by decide) h), f6 := fun h => II.out.f6 (old (by decide) h), f7 := fun h => II.out.f7 (old (by decide) h), f8 := fun h => II.out.f8 (old (by decide) h), f9 := fun h => II.out.f9 (old (by decide) h), f10 := fun h => II.out.f10 (old (by decide) h), f11 := fun h => II.out.f11 (old (by decide) h), f12 := fun h => II.out.f12 (old (by decide) h), f13 := fun h => II.out.f13 (old (by decide) h), f14 := fun h => II.out.f14 (old (by decide) h), f15 := fun h => II.out.f15 (old (by decide) h), f16 := fun h => II.out.f16 (old (by decide) h), f17 := fun h => II.out.f17 (old (by decide) h), f18 := fun h => II.out.f18 (old (by decide) h), f19 := fun h => II.out.f19 (old (by decide) h) }
              refine AllOps.cons ?_ ?_
              · intro hu hp K hK
                have p3 := hp 3 (of_decide_eq_true (by kernel_rfl))
                have q3 := II.out.f3 p3
                have p4 := hp 4 (of_decide_eq_true (by kernel_rfl))
                have q4 := II.out.f4 p4
                clear hp
                have HU := Lib.hid hu
                clear hu
                subst q3
                have HC := Lib.hid (rsign_lit w' s45 (r) (1) q4 G.out.1)
                rw [if_pos (by rfl)]
                go_simp
                go_at_call 28
                refine HC.out.mono ?_
                rintro e wx ⟨rfl, ex⟩
                go_wp2_with fail
                have kk := Keep.of ex II.out.base.size
                refine hK.out _ _ ⟨s8, s41, s42, s43, (.bool false), s45, (.int .i64 1), s47, s48, s49, s50, s51, s52, s53, s54, s55, s56, s57, s58, s59, rfl, ?_⟩
                exact { base := II.out.base.trans ex, f0 := fun h => (II.out.f0 (old (by decide) h)).keep kk, f1 := fun h => II.out.f1 (old (by decide) h), f2 := fun h => II.out.f2 (old (by decide) h), f3 := fun h => II.out.f3 (old (by decide) h), f4 := fun h => (II.out.f4 (old (by decide) h)).keep kk, f5 := fun _ => rfl, f6 := fun h => (II.out.f6 (old (by decide) h)).keep kk, f7 := fun h => II.out.f7 (old (by decide) h), f8 := fun h => II.out.f8 (old (by decide) h), f9 := fun h => II.out.f9 (old (by decide) h), f10 := fun h => (II.out.f10 (old (by decide) h)).keep kk, f11 := fun h => (II.out.f11 (old (by decide) h)).keep kk, f12 := fun h => II.out.f12 (old (by decide) h), f13 := fun h => (II.out.f13 (old (by decide) h)).keep kk, f14 := fun h => II.out.f14 (old (by decide) h), f15 := fun h => II.out.f15 (old (by decide) h), f16 := fun h => II.out.f16 (old (by decide) h), f17 := fun h => II.out.f17 (old (by decide) h), f18 := fun h => II.out.f18 (old (by decide) h), f19 := fun h => II.out.f19 (old (by decide) h) }
              refine AllOps.cons ?_ ?_
              · intro hu hp K hK
                have p3 := hp 3 (of_decide_eq_true (by kernel_rfl))
                have q3 := II.out.f3 p3
                clear hp
                have HU := Lib.hid hu
                clear hu
                subst q3
                have d0x := II.out.base.cell d0
                have d1x := II.out.base.cell d1
                rw [if_pos (by rfl)]
                go_simp
                refine hK.out _ _ ⟨s8, s41, s42, s43, (.bool false), s45, s46, _, s48, s49, s50, s51, s52, s53, s54, s55, s56, s57, s58, s59, rfl, ?_⟩
                exact { base := II.out.base, f0 := fun h => II.out.f0 (old (by decide) h), f1 := fun h => II.out.f1 (old (by decide) h), f2 := fun h => II.out.f2 (old (by decide) h), f3 := fun h => II.out.f3 (old (by decide) h), f4 := fun h => II.out.f4 (old (by decide) h), f5 := fun h => II.out.f5 (old (by decide) h), f6 := fun _ => (j2.ext II.out.base), f7 := fun h => II.out.f7 (old (by decide) h), f8 := fun h => II.out.f8 (old (by decide) h), f9 := fun h => II.out.f9 (old (by decide) h), f10 := fun h => II.out.f10 (old (by decide) h), f11 := fun h => II.out.f11 (old (by decide) h), f12 := fun h => II.out.f12 (old (by decide) h), f13 := fun h => II.out.f13 (old (by decide) h), f14 := fun h => II.out.f14 (old (by decide) h), f15 := fun h => II.out.f15 (old (by decide) h), f16 := fun h => II.out.f16 (old (by decide) h), f17 := fun h => II.out.f17 (old (by decide) h), f18 := fun h => II.out.f18 (old (by decide) h), f19 := fun h => II.out.f19 (old (by decide) h) }
              refine AllOps.cons ?_ ?_
              · intro hu hp K hK
                have p3 := hp 3 (of_decide_eq_true (by kernel_rfl))
                have q3 := II.out.f3 p3
                have p6 := hp 6 (of_decide_eq_true (by kernel_rfl))
                have q6 := II.out.f6 p6
                clear hp
                have HU := Lib.hid hu
                clear hu
                subst q3
                have HC := Lib.hid (rsign_lit w' s47 (z2) (1) q6 G.out.2.1)
                rw [if_pos (by rfl)]
                go_simp
                go_at_call 28
                refine HC.out.mono ?_
                rintro e wx ⟨rfl, ex⟩
                go_wp2_with fail
                have kk := Keep.of ex II.out.base.size
                refine hK.out _ _ ⟨s8, s41, s42, s43, (.bool false), s45, s46, s47, (.int .i64 1), s49, s50, s51, s52, s53, s54, s55, s56, s57, s58, s59, rfl, ?_⟩
                exact { base := II.out.base.trans ex, f0 := fun h => (II.out.f0 (old (by decide) h)).keep kk, f1 := fun h => II.out.f1 (old (by decide) h), f2 := fun h => II.out.f2 (old (by decide) h), f3 := fun h => II.out.f3 (old (by decide) h), f4 := fun h => (II.out.f4 (old (by decide) h)).keep kk, f5 := fun h => II.out.f5 (old (by decide) h), f6 := fun h => (II.out.f6 (old (by decide) h)).keep kk, f7 := fun _ => rfl, f8 := fun h => II.out.f8 (old (by decide) h), f9 := fun h => II.out.f9 (old (by decide) h), f10 := fun h => (II.out.f10 (old (by decide) h)).keep kk, f11 := fun h => (II.out.f11 (old (by decide) h)).keep kk, f12 := fun h => II.out.f12 (old (by decide) h), f13 := fun h => (II.out.f13 (old (by decide) h)).keep kk, f14 := fun h => II.out.f14 (old (by decide) h), f15 := fun h => II.out.f15 (old (by decide) h), f16 := fun h => II.out.f16 (old (by decide) h), f17 := fun h => II.out.f17 (old (by decide) h), f18 := fun h => II.out.f18 (old (by decide) h), f19 := fun h => II.out.f19 (old (by decide) h) }
              refine AllOps.cons ?_ ?_
              · intro hu hp K hK
                have p3 := hp 3 (of_decide_eq_true (by kernel_rfl))
                have q3 := II.out.f3 p3
                have p5 := hp 5 (of_decide_eq_true (by kernel_rfl))
                have q5 := II.out.f5 p5
                have p7 := hp 7 (of_decide_eq_true (by kernel_rfl))
                have q7 := II.out.f7 p7
                clear hp
                have HU := Lib.hid hu
                clear hu
                subst q3
                subst q5
                subst q7
                rw [if_pos (by rfl)]
                go_simp
                refine hK.out _ _ ⟨s8, s41, s42, s43, (.bool false), s45, (.int .i64 1), s47, (.int .i64 1), (.bool true), s50, s51, s52, s53, s54, s55, s56, s57, s58, s59, rfl, ?_⟩
                exact { base := II.out.base, f0 := fun h => II.out.f0 (old (by decide) h), f1 := fun h => II.out.f1 (old (by decide) h), f2 := fun h => II.out.f2 (old (by decide) h), f3 := fun h => II.out.f3 (old (by decide) h), f4 := fun h => II.out.f4 (old (by decide) h), f5 := fun h => II.out.f5 (old (by decide) h), f6 := fun h => II.out.f6 (old (by decide) h), f7 := fun h => II.out.f7 (old (by decide) h), f8 := fun _ => rfl, f9 := fun h => II.out.f9 (old (by decide) h), f10 := fun h => II.out.f10 (old (by decide) h), f11 := fun h => II.out.f11 (old (by decide) h), f12 := fun h => II.out.f12 (old (by decide) h), f13 := fun h => II.out.f13 (old (by decide) h), f14 := fun h => II.out.f14 (old (by decide) h), f15 := fun h => II.out.f15 (old (by decide) h), f16 := fun h => II.out.f16 (old (by decide) h), f17 := fun h => II.out.f17 (old (by decide) h), f18 := fun h => II.out.f18 (old (by decide) h), f19 := fun h => II.out.f19 (old (by decide) h) }
              refine AllOps.cons ?_ ?_
              · intro hu hp K hK
                have p3 := hp 3 (of_decide_eq_true (by kernel_rfl))
                have q3 := II.out.f3 p3
                have p8 := hp 8 (of_decide_eq_true (by kernel_rfl))
                have q8 := II.out.f8 p8
                clear hp
                have HU := Lib.hid hu
                clear hu
                subst q3
                subst q8
                rw [if_pos (by rfl)]
                go_simp
                refine hK.out _ _ ⟨s8, s41, s42, s43, (.bool false), s45, s46, s47, s48, (.bool true), (.bool true), s51, s52, s53, s54, s55, s56, s57, s58, s59, rfl, ?_⟩
                exact { base := II.out.base, f0 := fun h => II.out.f0 (old (by decide) h), f1 := fun h => II.out.f1 (old (by decide) h), f2 := fun h => II.out.f2 (old (by decide) h), f3 := fun h => II.out.f3 (old (by decide) h), f4 := fun h => II.out.f4 (old (by decide) h), f5 := fun h => II.out.f5 (old (by decide) h), f6 := fun h => II.out.f6 (old (by decide) h), f7 := fun h => II.out.f7 (old (by decide) h), f8 := fun h => II.out.f8 (old (by decide) h), f9 := fun _ => rfl, f10 := fun h => II.out.f10 (old (by decide) h), f11 := fun h => II.out.f11 (old (by decide) h), f12 := fun h => II.out.f12 (old (by decide) h), f13 := fun h => II.out.f13 (old (by decide) h), f14 := fun h => II.out.f14 (old (by decide) h), f15 := fun h => II.out.f15 (old (by decide) h), f16 := fun h => II.out.f16 (old (by decide) h), f17 := fun h => II.out.f17 (old (by decide) h), f18 := fun h => II.out.f18 (old (by decide) h), f19 := fun h => II.out.f19 (old (by decide) h) }
              refine AllOps.cons ?_ ?_
              · intro hu hp K hK
                have p9 := hp 9 (of_decide_eq_true (by kernel_rfl))
                have q9 := II.out.f9 p9
                clear hp
                have HU := Lib.hid hu
                clear hu
                subst q9
                have y0x := II.out.base.cell y0
                have y1x := II.out.base.cell y1
                rw [if_pos (by rfl)]
                go_simp
                refine hK.out _ _ ⟨s8, s41, s42, s43, s44, s45, s46, s47, s48, s49, (.bool true), _, s52, s53, s54, s55, s56, s57, s58, s59, rfl, ?_⟩
                exact { base := II.out.base, f0 := fun h => II.out.f0 (old (by decide) h), f1 := fun h => II.out.f1 (old (by decide) h), f2 := fun h => II.out.f2 (old (by decide) h), f3 := fun h => II.out.f3 (old (by decide) h), f4 := fun h => II.out.f4 (old (by decide) h), f5 := fun h => II.out.f5 (old (by decide) h), f6 := fun h => II.out.f6 (old (by decide) h), f7 := fun h => II.out.f7 (old (by decide) h), f8 := fun h => II.out.f8 (old (by decide) h), f9 := fun h => II.out.f9 (old (by decide) h), f10 := fun _ => (i6.ext II.out.base), f11 := fun h => II.out.f11 (old (by decide) h), f12 := fun h => II.out.f12 (old (by decide) h), f13 := fun h => II.out.f13 (old (by decide) h), f14 := fun h => II.out.f14 (old (by decide) h), f15 := fun h => II.out.f15 (old (by decide) h), f16 := fun h => II.out.f16 (old (by decide) h), f17 := fun h => II.out.f17 (old (by decide) h), f18 := fun h => II.out.f18 (old (by decide) h), f19 := fun h => II.out.f19 (old (by decide) h) }
              refine AllOps.cons ?_ ?_
              · intro hu hp K hK
                have p9 := hp 9 (of_decide_eq_true (by kernel_rfl))
                have q9 := II.out.f9 p9
                clear hp
                have HU := Lib.hid hu
                clear hu
                subst q9
                have d0x := II.out.base.cell d0
                have d1x := II.out.base.cell d1
                rw [if_pos (by rfl)]
                go_simp
                refine hK.out _ _ ⟨s8, s41, s42, s43, s44, s45, s46, s47, s48, s49, (.bool true), s51, _, s53, s54, s55, s56, s57, s58, s59, rfl, ?_⟩
                exact { base := II.out.base, f0 := fun h => II.out.f0 (old (by decide) h), f1 := fun h => II.out.f1 (old (by decide) h), f2 := fun h => II.out.f2 (old (by decide) h), f3 := fun h => II.out.f3 (old (by decide) h), f4 := fun h => II.out.f4 (old (by decide) h), f5 := fun h => II.out.f5 (old (by decide) h), f6 := fun h => II.out.f6 (old (by decide) h), f7 := fun h => II.out.f7 (old (by decide) h), f8 := fun h => II.out.f8 (old (by decide) h), f9 := fun h => II.out.f9 (old (by decide) h), f10 := fun h => II.out.f10 (old (by decide) h), f11 := fun _ => (j2.ext II.out.base), f12 := fun h => II.out.f12 (old (by decide) h), f13 := fun h => II.out.f13 (old (by decide) h), f14 := fun h => II.out.f14 (old (by decide) h), f15 := fun h => II.out.f15 (old (by decide) h), f16 := fun h => II.out.f16 (old (by decide) h), f17 := fun h => II.out.f17 (old (by decide) h), f18 := fun h => II.out.f18 (old (by decide) h), f19 := fun h => II.out.f19 (old (by decide) h) }
              refine AllOps.cons ?_ ?_
              · intro hu hp K hK
                have p9 := hp 9 (of_decide_eq_true (by kernel_rfl))
                have q9 := II.out.f9 p9
                have p10 := hp 10 (of_decide_eq_true (by kernel_rfl))
                have q10 := II.out.f10 p10
                have p11 := hp 11 (of_decide_eq_true (by kernel_rfl))
                have q11 := II.out.f11 p11
                clear hp
                have HU := Lib.hid hu
                clear hu
                subst q9
                have HC := Lib.hid (rcmp_lit w' s51 s52 (r) (z2) (-1) q10 q11 G.out.2.2)
                rw [if_pos (by rfl)]
                go_simp
                go_at_call 30
                refine HC.out.mono ?_
                rintro e wx ⟨rfl, ex⟩
                go_wp2_with fail
                have kk := Keep.of ex II.out.base.size
                refine hK.out _ _ ⟨s8, s41, s42, s43, s44, s45, s46, s47, s48, s49, (.bool true), s51, s52, (.int .i64 (-1)), s54, s55, s56, s57, s58, s59, rfl, ?_⟩
                exact { base := II.out.base.trans ex, f0 := fun h => (II.out.f0 (old (by decide) h)).keep kk, f1 := fun h => II.out.f1 (old (by decide) h), f2 := fun h => II.out.f2 (old (by decide) h), f3 := fun h => II.out.f3 (old (by decide) h), f4 := fun h => (II.out.f4 (old (by decide) h)).keep kk, f5 := fun h => II.out.f5 (old (by decide) h), f6 := fun h => (II.out.f6 (old (by decide) h)).keep kk, f7 := fun h => II.out.f7 (old (by decide) h), f8 := fun h => II.out.f8 (old (by decide) h), f9 := fun h => II.out.f9 (old (by decide) h), f10 := fun h => (II.out.f10 (old (by decide) h)).keep kk, f11 := fun h => (II.out.f11 (old (by decide) h)).keep kk, f12 := fun _ => rfl, f13 := fun h => (II.out.f13 (old (by decide) h)).keep kk, f14 := fun h => II.out.f14 (old (by decide) h), f15 := fun h => II.out.f15 (old (by decide) h), f16 := fun h => II.out.f16 (old (by decide) h), f17 := fun h => II.out.f17 (old (by decide) h), f18 := fun h => II.out.f18 (old (by decide) h), f19 := fun h => II.out.f19 (old (by decide) h) }
              refine AllOps.cons ?_ ?_
              · intro hu hp K hK
                have p9 := hp 9 (of_decide_eq_true (by kernel_rfl))
                have q9 := II.out.f9 p9
                clear hp
                have HU := Lib.hid hu
                clear hu
                subst q9
                have d0x := II.out.base.cell d0
                have d1x := II.out.base.cell d1
                rw [if_pos (by rfl)]
                go_simp
                refine hK.out _ _ ⟨s8, s41, s42, s43, s44, s45, s46, s47, s48, s49, (.bool true), s51, s52, s53, _, s55, s56, s57, s58, s59, rfl, ?_⟩
                exact { base := II.out.base, f0 := fun h => II.out.f0 (old (by decide) h), f1 := fun h => II.out.f1 (old (by decide) h), f2 := fun h => II.out.f2 (old (by decide) h), f3 := fun h => II.out.f3 (old (by decide) h), f4 := fun h => II.out.f4 (old (by decide) h), f5 := fun h => II.out.f5 (old (by decide) h), f6 := fun h => II.out.f6 (old (by decide) h), f7 := fun h => II.out.f7 (old (by decide) h), f8 := fun h => II.out.f8 (old (by decide) h), f9 := fun h => II.out.f9 (old (by decide) h), f10 := fun h => II.out.f10 (old (by decide) h), f11 := fun h => II.out.f11 (old (by decide) h), f12 := fun h => II.out.f12 (old (by decide) h), f13 := fun _ => (j2.ext II.out.base), f14 := fun h => II.out.f14 (old (by decide) h), f15 := fun h => II.out.f15 (old (by decide) h), f16 := fun h => II.out.f16 (old (by decide) h), f17 := fun h => II.out.f17 (old (by decide) h), f18 := fun h => II.out.f18 (old (by decide) h), f19 := fun h => II.out.f19 (old (by decide) h) }
              refine AllOps.cons ?_ ?_
              · intro hu hp K hK
                have p9 := hp 9 (of_decide_eq_true (by kernel_rfl))
                have q9 := II.out.f9 p9
                have p13 := hp 13 (of_decide_eq_true (by kernel_rfl))
                have q13 := II.out.f13 p13
                clear hp
                have HU := Lib.hid hu
                clear hu
                subst q9
                have HC := Lib.hid (rsign_lit w' s54 (z2) (1) q13 G.out.2.1)
                rw [if_pos (by rfl)]
                go_simp
                go_at_call 28
                refine HC.out.mono ?_
                rintro e wx ⟨rfl, ex⟩
                go_wp2_with fail
                have kk := Keep.of ex II.out.base.size
                refine hK.out _ _ ⟨s8, s41, s42, s43, s44, s45, s46, s47, s48, s49, (.bool true), s51, s52, s53, s54, (.int .i64 1), s56, s57, s58, s59, rfl, ?_⟩
                exact { base := II.out.base.trans ex, f0 := fun h => (II.out.f0 (old (by decide) h)).keep kk, f1 := fun h => II.out.f1 (old (by decide) h), f2 := fun h => II.out.f2 (old (by decide) h), f3 := fun h => II.out.f3 (old (by decide) h), f4 := fun h => (II.out.f4 (old (by decide) h)).keep kk, f5 := fun h => II.out.f5 (old (by decide) h), f6 := fun h => (II.out.f6 (old (by decide) h)).keep kk, f7 := fun h => II.out.f7 (old (by decide) h), f8 := fun h => II.out.f8 (old (by decide) h), f9 := fun h => II.out.f9 (old (by decide) h), f10 := fun h => (II.out.f10 (old (by decide) h)).keep kk, f11 := fun h => (II.out.f11 (old (by decide) h)).keep kk, f12 := fun h => II.out.f12 (old (by decide) h), f13 := fun h => (II.out.f13 (old (by decide) h)).keep kk, f14 := fun _ => rfl, f15 := fun h => II.out.f15 (old (by decide) h), f16 := fun h => II.out.f16 (old (by decide) h), f17 := fun h => II.out.f17 (old (by decide) h), f18 := fun h => II.out.f18 (old (by decide) h), f19 := fun h => II.out.f19 (old (by decide) h) }
              refine AllOps.cons ?_ ?_
              · intro hu hp K hK
                have p9 := hp 9 (of_decide_eq_true (by kernel_rfl))
                have q9 := II.out.f9 p9
                have p14 := hp 14 (of_decide_eq_true (by kernel_rfl))
                have q14 := II.out.f14 p14
                clear hp
                have HU := Lib.hid hu
                clear hu
                subst q9
                subst q14
                rw [if_pos (by rfl)]
                go_simp
                refine hK.out _ _ ⟨s8, s41, s42, s43, s44, s45, s46, s47, s48, s49, (.bool true), s51, s52, s53, s54, (.int .i64 1), (.int .i64 (-1)), s57, s58, s59, rfl, ?_⟩
                exact { base := II.out.base, f0 := fun h => II.out.f0 (old (by decide) h), f1 := fun h => II.out.f1 (old (by decide) h), f2 := fun h => II.out.f2 (old (by decide) h), f3 := fun h => II.out.f3 (old (by decide) h), f4 := fun h => II.out.f4 (old (by decide) h), f5 := fun h => II.out.f5 (old (by decide) h), f6 := fun h => II.out.f6 (old (by decide) h), f7 := fun h => II.out.f7 (old (by decide) h), f8 := fun h => II.out.f8 (old (by decide) h), f9 := fun h => II.out.f9 (old (by decide) h), f10 := fun h => II.out.f10 (old (by decide) h), f11 := fun h => II.out.f11 (old (by decide) h), f12 := fun h => II.out.f12 (old (by decide) h), f13 := fun h => II.out.f13 (old (by decide) h), f14 := fun h => II.out.f14 (old (by decide) h), f15 := fun _ => rfl, f16 := fun h => II.out.f16 (old (by decide) h), f17 := fun h => II.out.f17 (old (by decide) h), f18 := fun h => II.out.f18 (old (by decide) h), f19 := fun h => II.out.f19 (old (by decide) h) }
              refine AllOps.cons ?_ ?_
              · intro hu hp K hK
                have p9 := hp 9 (of_decide_eq_true (by kernel_rfl))
                have q9 := II.out.f9 p9
                have p12 := hp 12 (of_decide_eq_true (by kernel_rfl))
                have q12 := II.out.f12 p12
                have p15 := hp 15 (of_decide_eq_true (by kernel_rfl))
                have q15 := II.out.f15 p15
                clear hp
                have HU := Lib.hid hu
                clear hu
                subst q9
                subst q12
                subst q15
                rw [if_pos (by rfl)]
                go_simp
                refine hK.out _ _ ⟨s8, s41, s42, s43, s44, s45, s46, s47, s48, s49, (.bool true), s51, s52, (.int .i64 (-1)), s54, s55, (.int .i64 (-1)), (.bool true), s58, s59, rfl, ?_⟩
                exact { base := II.out.base, f0 := fun h => II.out.f0 (old (by decide) h), f1 := fun h => II.out.f1 (old (by decide) h), f2 := fun h => II.out.f2 (old (by decide) h), f3 := fun h => II.out.f3 (old (by decide) h), f4 := fun h => II.out.f4 (old (by decide) h), f5 := fun h => II.out.f5 (old (by decide) h), f6 := fun h => II.out.f6 (old (by decide) h), f7 := fun h => II.out.f7 (old (by decide) h), f8 := fun h => II.out.f8 (old (by decide) h), f9 := fun h => II.out.f9 (old (by decide) h), f10 := fun h => II.out.f10 (old (by decide) h), f11 := fun h => II.out.f11 (old (by decide) h), f12 := fun h => II.out.f12 (old (by decide) h), f13 := fun h => II.out.f13 (old (by decide) h), f14 := fun h => II.out.f14 (old (by decide) h), f15 := fun h => II.out.f15 (old (by decide) h), f16 := fun _ => rfl, f17 := fun h => II.out.f17 (old (by decide) h), f18 := fun h => II.out.f18 (old (by decide) h), f19 := fun h => II.out.f19 (old (by decide) h) }
              refine AllOps.cons ?_ ?_
              · intro hu hp K hK
                have p3 := hp 3 (of_decide_eq_true (by kernel_rfl))
                have q3 := II.out.f3 p3
                have p9 := hp 9 (of_decide_eq_true (by kernel_rfl))
                have q9 := II.out.f9 p9
                have p16 := hp 16 (of_decide_eq_true (by kernel_rfl))
                have q16 := II.out.f16 p16
                clear hp
                have HU := Lib.hid hu
                clear hu
                subst q3
                subst q9
                subst q16
                rw [if_pos (by rfl)]
                go_simp
                refine hK.out _ _ ⟨s8, s41, s42, s43, (.bool false), s45, s46, s47, s48, s49, (.bool true), s51, s52, s53, s54, s55, s56, (.bool true), (.bool true), s59, rfl, ?_⟩
                exact { base := II.out.base, f0 := fun h => II.out.f0 (old (by decide) h), f1 := fun h => II.out.f1 (old (by decide) h), f2 := fun h => II.out.f2 (old (by decide) h), f3 := fun h => II.out.f3 (old (by decide) h), f4 := fun h => II.out.f4 (old (by decide) h), f5 := fun h => II.out.f5 (old (by decide) h), f6 := fun h => II.out.f6 (old (by decide) h), f7 := fun h => II.out.f7 (old (by decide) h), f8 := fun h => II.out.f8 (old (by decide) h), f9 := fun h => II.out.f9 (old (by decide) h), f10 := fun h => II.out.f10 (old (by decide) h), f11 := fun h => II.out.f11 (old (by decide) h), f12 := fun h => II.out.f12 (old (by decide) h), f13 := fun h => II.out.f13 (old (by decide) h), f14 := fun h => II.out.f14 (old (by decide) h), f15 := fun h => II.out.f15 (old (by decide) h), f16 := fun h => II.out.f16 (old (by decide) h), f17 := fun _ => rfl, f18 := fun h => II.out.f18 (old (by decide) h), f19 := fun h => II.out.f19 (old (by decide) h) }
              refine AllOps.cons ?_ ?_
              · intro hu hp K hK
                have p3 := hp 3 (of_decide_eq_true (by kernel_rfl))
                have q3 := II.out.f3 p3
                have p17 := hp 17 (of_decide_eq_true (by kernel_rfl))
                have q17 := II.out.f17 p17
                clear hp
                have HU := Lib.hid hu
                clear hu
                subst q3
                subst q17
                rw [if_pos (by rfl)]
                go_simp
                refine hK.out _ _ ⟨s8, s41, s42, s43, (.bool false), s45, s46, s47, s48, s49, s50, s51, s52, s53, s54, s55, s56, s57, (.bool true), (.bool true), rfl, ?_⟩
                exact { base := II.out.base, f0 := fun h => II.out.f0 (old (by decide) h), f1 := fun h => II.out.f1 (old (by decide) h), f2 := fun h => II.out.f2 (old (by decide) h), f3 := fun h => II.out.f3 (old (by decide) h), f4 := fun h => II.out.f4 (old (by decide) h), f5 := fun h => II.out.f5 (old (by decide) h), f6 := fun h => II.out.f6 (old (by decide) h), f7 := fun h => II.out.f7 (old (by decide) h), f8 := fun h => II.out.f8 (old (by decide) h), f9 := fun h => II.out.f9 (old (by decide) h), f10 := fun h => II.out.f10 (old (by decide) h), f11 := fun h => II.out.f11 (old (by decide) h), f12 := fun h => II.out.f12 (old (by decide) h), f13 := fun h => II.out.f13 (old (by decide) h), f14 := fun h => II.out.f14 (old (by decide) h), f15 := fun h => II.out.f15 (old (by decide) h), f16 := fun h => II.out.f16 (old (by decide) h), f17 := fun h => II.out.f17 (old (by decide) h), f18 := fun _ => rfl, f19 := fun h => II.out.f19 (old (by decide) h) }
              refine AllOps.cons ?_ ?_
              · intro hu hp K hK
                have p18 := hp 18 (of_decide_eq_true (by kernel_rfl))
                have q18 := II.out.f18 p18
                clear hp
                have HU := Lib.hid hu
                clear hu
                subst q18
                rw [if_pos (by rfl)]
                go_simp
                refine hK.out _ _ ⟨(.bool true), s41, s42, s43, s44, s45, s46, s47, s48, s49, s50, s51, s52, s53, s54, s55, s56, s57, s58, (.bool true), rfl, ?_⟩
                exact { base := II.out.base, f0 := fun h => II.out.f0 (old (by decide) h), f1 := fun h => II.out.f1 (old (by decide) h), f2 := fun h => II.out.f2 (old (by decide) h), f3 := fun h => II.out.f3 (old (by decide) h), f4 := fun h => II.out.f4 (old (by decide) h), f5 := fun h => II.out.f5 (old (by decide) h), f6 := fun h => II.out.f6 (old (by decide) h), f7 := fun h => II.out.f7 (old (by decide) h), f8 := fun h => II.out.f8 (old (by decide) h), f9 := fun h => II.out.f9 (old (by decide) h), f10 := fun h => II.out.f10 (old (by decide) h), f11 := fun h => II.out.f11 (old (by decide) h), f12 := fun h => II.out.f12 (old (by decide) h), f13 := fun h => II.out.f13 (old (by decide) h), f14 := fun h => II.out.f14 (old (by decide) h), f15 := fun h => II.out.f15 (old (by decide) h), f16 := fun h => II.out.f16 (old (by decide) h), f17 := fun h => II.out.f17 (old (by decide) h), f18 := fun h => II.out.f18 (old (by decide) h), f19 := fun _ => rfl }
              exact AllOps.nil
            case he =>
              rintro l _ w' hall ⟨s8, s41, s42, s43, s44, s45, s46, s47, s48, s49, s50, s51, s52, s53, s54, s55, s56, s57, s58, s59, rfl, I⟩
              have q19 := I.f19 (hall 19 (by decide))
              have e1 := I.base
              clear I hall
              simp only [setAll, Act.put, List.setIfInBounds_toArray, List.set_cons_zero, List.set_cons_succ]
              obtain rfl := q19
              go_wp2_with fail
              go_meet
              exact ⟨rfl, e1⟩
          · have G := Lib.hid g1
            clear g1
            refine wp_region_inv (fun a0 l a w' => ∃ s8 s41 s42 s43 s44 s45 s46 s47 s48 s49 s50 s51 s52 s53 s54 s55 s56 s57 s58 s59, a = setAll a0 [(8, s8), (41, s41), (42, s42), (43, s43), (44, s44), (45, s45), (46, s46), (47, s47), (48, s48), (49, s49), (50, s50), (51, s51), (52, s52), (53, s53), (54, s54), (55, s55), (56, s56), (57, s57), (58, s58), (59, s59)] ∧ RegDM6c w3 z2 r l s8 s41 s42 s43 s44 s45 s46 s47 s48 s49 s50 s51 s52 s53 s54 s55 s56 s57 s58 s59 w') (by kernel_rfl) (by kernel_rfl) 82 rfl ?h0 ?hs ?he
            case h0 =>
              intro a hn
              refine ⟨_, _, _, _, _, _, _, _, _, _, _, _, _, _, _, _, _, _, _, _, (setAll_self a 82 hn [8, 41, 42, 43, 44, 45, 46, 47, 48, 49, 50, 51, 52, 53, 54, 55, 56, 57, 58, 59] (by decide)).symm, ?_⟩
              exact { base := (Ext.refl _).drew, f0 := fun h => (none_yet h).elim, f1 := fun h => (none_yet h).elim, f2 := fun h => (none_yet h).elim, f3 := fun h => (none_yet h).elim, f4 := fun h => (none_yet h).elim, f5 := fun h => (none_yet h).elim, f6 := fun h => (none_yet h).elim, f7 := fun h => (none_yet h).elim, f8 := fun h => (none_yet h).elim, f9 := fun h => (none_yet h).elim, f10 := fun h => (none_yet h).elim, f11 := fun h => (none_yet h).elim, f12 := fun h => (none_yet h).elim, f13 := fun h => (none_yet h).elim, f14 := fun h => (none_yet h).elim, f15 := fun h => (none_yet h).elim, f16 := fun h => (none_yet h).elim, f17 := fun h => (none_yet h).elim, f18 := fun h => (none_yet h).elim, f19 := fun h => (none_yet h).elim }
            case hs =>
              rintro l _ w' ⟨s8, s41, s42, s43, s44, s45, s46, s47, s48, s49, s50, s51, s52, s53, s54, s55, s56, s57, s58, s59, rfl, I⟩
              have II := Lib.hid I
              clear I
              simp only [setAll, Act.put, List.setIfInBounds_toArray, List.set_cons_zero, List.set_cons_succ]
              refine AllOps.cons ?_ ?_
              · intro hu hp K hK
                clear hp
                have HU := Lib.hid hu
                clear hu
                have y0x := II.out.base.cell y0
                have y1x := II.out.base.cell y1
                rw [if_pos (by rfl)]
                go_simp
                refine hK.out _ _ ⟨s8, _, s42, s43, s44, s45, s46, s47, s48, s49, s50, s51, s52, s53, s54, s55, s56, s57, s58, s59, rfl, ?_⟩
                exact { base := II.out.base, f0 := fun _ => (i6.ext II.out.base), f1 := fun h => II.out.f1 (old (by decide) h), f2 := fun h => II.out.f2 (old (by decide) h), f3 := fun h => II.out.f3 (old (by decide) h), f4 := fun h => II.out.f4 (old (by decide) h), f5 := fun h => II.out.f5 (old (by decide) h), f6 := fun h => II.out.f6 (old (by decide) h), f7 := fun h => II.out.f7 (old (by decide) h), f8 := fun h => II.out.f8 (old (by decide) h), f9 := fun h => II.out.f9 (old (by decide) h), f10 := fun h => II.out.f10 (old (by decide) h), f11 := fun h => II.out.f11 (old (by decide) h), f12 := fun h => II.out.f12 (old (by decide) h), f13 := fun h => II.out.f13 (old (by decide) h), f14 := fun h => II.out.f14 (old (by decide) h), f15 := fun h => II.out.f15 (old (by decide) h), f16 := fun h => II.out.f16 (old (by decide) h), f17 := fun h => II.out.f17 (old (by decide) h), f18 := fun h => II.out.f18 (old (by decide) h), f19 := fun h => II.out.f19 (old (by decide) h) }
              refine AllOps.cons ?_ ?_
              · intro hu hp K hK
                have p0 := hp 0 (of_decide_eq_true (by kernel_rfl))
                have q0 := II.out.f0 p0
                clear hp
                have HU := Lib.hid hu
                clear hu
                have HC := Lib.hid (rsign_lit w' s41 (r) (-1) q0 G.out.1)
                rw [if_pos (by rfl)]
                go_simp
                go_at_call 28
                refine HC.out.mono ?_
                rintro e wx ⟨rfl, ex⟩
                go_wp2_with fail
                have kk := Keep.of ex II.out.base.size
                refine hK.out _ _ ⟨s8, s41, (.int .i64 (-1)), s43, s44, s45, s46, s47, s48, s49, s50, s51, s52, s53, s54, s55, s56, s57, s58, s59, rfl, ?_⟩
                exact { base := II.out.base.trans ex, f0 := fun h => (II.out.f0 (old (by decide) h)).keep kk, f1 := fun _ => rfl, f2 := fun h => II.out.f2 (old (by decide) h), f3 := fun h => II.out.f3 (old (by decide) h), f4 := fun h => (II.out.f4 (old (by decide) h)).keep kk, f5 := fun h => II.out.f5 (old (by decide) h), f6 := fun h => (II.out.f6 (old (by decide) h)).keep kk, f7 := fun h => II.out.f7 (old (by decide) h), f8 := fun h => II.out.f8 (old (by decide) h), f9 := fun h => II.out.f9 (old (by decide) h), f10 := fun h => (II.out.f10 (old (by decide) h)).keep kk, f11 := fun h => (II.out.f11 (old (by decide) h)).keep kk, f12 := fun h => II.out.f12 (old (by decide) h), f13 := fun h => (II.out.f13 (old (by decide) h)).keep kk, f14 := fun h => II.out.f14 (old (by decide) h), f15 := fun h => II.out.f15 (old (by decide) h), f16 := fun h => II.out.f16 (old (by decide) h), f17 := fun h => II.out.f17 (old (by decide) h), f18 := fun h => II.out.f18 (old (by decide) h), f19 := fun h => II.out.f19 (old (by decide) h) }
              refine AllOps.cons ?_ ?_
              · intro hu hp K hK
                have p1 := hp 1 (of_decide_eq_true (by kernel_rfl))
                have q1 := II.out.f1 p1
                clear hp
                have HU := Lib.hid hu
                clear hu
                subst q1
                rw [if_pos (by rfl)]
                go_simp
                refine hK.out _ _ ⟨s8, s41, (.int .i64 (-1)), (.bool false), s44, s45, s46, s47, s48, s49, s50, s51, s52, s53, s54, s55, s56, s57, s58, s59, rfl, ?_⟩
                exact { base := II.out.base, f0 := fun h => II.out.f0 (old (by decide) h), f1 := fun h => II.out.f1 (old (by decide) h), f2 := fun _ => rfl, f3 := fun h => II.out.f3 (old (by decide) h), f4 := fun h => II.out.f4 (old (by decide) h), f5 := fun h => II.out.f5 (old (by decide) h), f6 := fun h => II.out.f6 (old (by decide) h), f7 := fun h => II.out.f7 (old (by decide) h), f8 := fun h => II.out.f8 (old (by decide) h), f9 := fun h => II.out.f9 (old (by decide) h), f10 := fun h => II.out.f10 (old (by decide) h), f11 := fun h => II.out.f11 (old (by decide) h), f12 := fun h => II.out.f12 (old (by decide) h), f13 := fun h => II.out.f13 (old (by decide) h), f14 := fun h => II.out.f14 (old (by decide) h), f15 := fun h => II.out.f15 (old (by decide) h), f16 := fun h => II.out.f16 (old (by decide) h), f17 := fun h => II.out.f17 (old (by decide) h), f18 := fun h => II.out.f18 (old (by decide) h), f19 := fun h => II.out.f19 (old (by decide) h) }
              refine AllOps.cons ?_ ?_
              · intro hu hp K hK
                have p2 := hp 2 (of_decide_eq_true (by kernel_rfl))
                have q2 := II.out.f2 p2
                clear hp
                have HU := Lib.hid hu
                clear hu
                subst q2
                rw [if_pos (by rfl)]
                go_simp
                refine hK.out _ _ ⟨s8, s41, s42, (.bool false), (.bool false), s45, s46, s47, s48, s49, s50, s51, s52, s53, s54, s55, s56, s57, s58, s59, rfl, ?_⟩
                exact { base := II.out.base, f0 := fun h => II.out.f0 (old (by decide) h), f1 := fun h => II.out.f1 (old (by decide) h), f2 := fun h => II.out.f2 (old (by decide) h), f3 := fun _ => rfl, f4 := fun h => II.out.f4 (old (by decide) h), f5 := fun h => II.out.f5 (old (by decide) h), f6 := fun h => II.out.f6 (old (by decide) h), f7 := fun h => II.out.f7 (old (by decide) h), f8 := fun h => II.out.f8 (old (by decide) h), f9 := fun h => II.out.f9 (old (by decide) h), f10 := fun h => II.out.f10 (old (by decide) h), f11 := fun h => II.out.f11 (old (by decide) h), f12 := fun h => II.out.f12 (old (by decide) h), f13 := fun h => II.out.f13 (old (by decide) h), f14 := fun h => II.out.f14 (old (by decide) h), f15 := fun h => II.out.f15 (old (by decide) h), f16 := fun h => II.out.f16 (old (by decide) h), f17 := fun h => II.out.f17 (old (by decide) h), f18 := fun h => II.out.f18 (old (by decide) h), f19 := fun h => II.out.f19 (old (by decide) h) }
              refine AllOps.cons ?_ ?_
              · intro hu hp K hK
                have p3 := hp 3 (of_decide_eq_true (by kernel_rfl))
                have q3 := II.out.f3 p3
                clear hp
                have HU := Lib.hid hu
                clear hu
                subst q3
                have y0x := II.out.base.cell y0
                have y1x := II.out.base.cell y1
                rw [if_pos (by rfl)]
                go_simp
                refine hK.out _ _ ⟨s8, s41, s42, s43, (.bool false), _, s46, s47, s48, s49, s50, s51, s52, s53, s54, s55, s56, s57, s58, s59, rfl, ?_⟩
                exact { base := II.out.base, f0 := fun h => II.out.f0 (old (by decide) h), f1 := fun h => II.out.f1 (old (by decide) h), f2 := fun h => II.out.f2 (old (by decide) h), f3 := fun h => II.out.f3 (old (by decide) h), f4 := fun _ => (i6.ext II.out.base), f5 := fun h => II.out.f5 (old (by decide) h), f6 := fun h => II.out.f6 (old (by decide) h), f7 := fun h => II.out.f7 (old (by decide) h), f8 := fun h => II.out.f8 (old (by decide) h), f9 := fun h => II.out.f9 (old (by decide) h), f10 := fun h => II.out.f10 (old (by decide) h), f11 := fun h => II.out.f11 (old (by decide) h), f12 := fun h => II.out.f12 (old (by decide) h), f13 := fun h => II.out.f13 (old (by decide) h), f14 := fun h => II.out.f14 (old (by decide) h), f15 := fun h => II.out.f15 (old (by decide) h), f16 := fun h => II.out.f16 (old (by decide) h), f17 := fun h => II.out.f17 (old (by decide) h), f18 := fun h => II.out.f18 (old (by decide) h), f19 := fun h => II.out.f19 (old (by decide) h) }
              refine AllOps.cons ?_ ?_
              · intro hu hp K hK
                have p3 := hp 3 (of_decide_eq_true (by kernel_rfl))
                have q3 := II.out.f3 p3
                have p4 := hp 4 (of_decide_eq_true (by kernel_rfl))
                have q4 := II.out.f4 p4
                clear hp
                have HU := Lib.hid hu
                clear hu
                subst q3
                have HC := Lib.hid (rsign_lit w' s45 (r) (-1) q4 G.out.1)
                rw [if_pos (by rfl)]
                go_simp
                go_at_call 28
                refine HC.out.mono ?_
                rintro e wx ⟨rfl, ex⟩
                go_wp2_with fail
                have kk := Keep.of ex II.out.base.size
                refine hK.out _ _ ⟨s8, s41, s42, s43, (.bool false), s45, (.int .i64 (-1)), s47, s48, s49, s50, s51, s52, s53, s54, s55, s56, s57, s58, s59, rfl, ?_⟩
                exact { base := II.out.base.trans ex, f0 := fun h => (II.out.f0 (old (by decide) h)).keep kk, f1 := fun h => II.out.f1 (old (by decide) h), f2 := fun h => II.out.f2 (old (by decide) h), f3 := fun h => II.out.f3 (old (by decide) h), f4 := fun h => (II.out.f4 (old (by decide) h)).keep kk, f5 := fun _ => rfl, f6 := fun h => (II.out.f6 (old (by decide) h)).keep kk, f7 := fun h => II.out.f7 (old (by decide) h), f8 := fun h => II.out.f8 (old (by decide) h), f9 := fun h => II.out.f9 (old (by decide) h), f10 := fun h => (II.out.f10 (old (by decide) h)).keep kk, f11 := fun h => (II.out.f11 (old (by decide) h)).keep kk, f12 := fun h => II.out.f12 (old (by decide) h), f13 := fun h => (II.out.f13 (old (by decide) h)).keep kk, f14 := fun h => II.out.f14 (old (by decide) h), f15 := fun h => II.out.f15 (old (by decide) h), f16 := fun h => II.out.f16 (old (by decide) h), f17 := fun h => II.out.f17 (old (by decide) h), f18 := fun h => II.out.f18 (old (by decide) h), f19 := fun h => II.out.f19 (old (by decide) h) }
              refine AllOps.cons ?_ ?_
              · intro hu hp K hK
                have p3 := hp 3 (of_decide_eq_true (by kernel_rfl))
                have q3 := II.out.f3 p3
                clear hp
                have HU := Lib.hid hu
                clear hu
                subst q3
                have d0x := II.out.base.cell d0
                have d1x := II.out.base.cell d1
                rw [if_pos (by rfl)]
                go_simp
                refine hK.out _ _ ⟨s8, s41, s42, s43, (.bool false), s45, s46, _, s48, s49, s50, s51, s52, s53, s54, s55, s56, s57, s58, s59, rfl, ?_⟩
                exact { base := II.out.base, f0 := fun h => II.out.f0 (old (by decide) h), f1 := fun h => II.out.f1 (old (by decide) h), f2 := fun h => II.out.f2 (old (by decide) h), f3 := fun h => II.out.f3 (old (by decide) h), f4 := fun h => II.out.f4 (old (by decide) h), f5 := fun h => II.out.f5 (old (by decide) h), f6 := fun _ => (j2.ext II.out.base), f7 := fun h => II.out.f7 (old (by decide) h), f8 := fun h => II.out.f8 (old (by decide) h), f9 := fun h => II.out.f9 (old (by decide) h), f10 := fun h => II.out.f10 (old (by decide) h), f11 := fun h => II.out.f11 (old (by decide) h), f12 := fun h => II.out.f12 (old (by decide) h), f13 := fun h => II.out.f13 (old (by decide) h), f14 := fun h => II.out.f14 (old (by decide) h), f15 := fun h => II.out.f15 (old (by decide) h), f16 := fun h => II.out.f16 (old (by decide) h), f17 := fun h => II.out.f17 (old (by decide) h), f18 := fun h => II.out.f18 (old (by decide) h), f19 := fun h => II.out.f19 (old (by decide) h) }
              refine AllOps.cons ?_ ?_
              · intro hu hp K hK
                have p3 := hp 3 (of_decide_eq_true (by kernel_rfl))
                have q3 := II.out.f3 p3
                have p6 := hp 6 (of_decide_eq_true (by kernel_rfl))
                have q6 := II.out.f6 p6
                clear hp
                have HU := Lib.hid hu
                clear hu
                subst q3
                have HC := Lib.hid (rsign_lit w' s47 (z2) (-1) q6 G.out.2.1)
                rw [if_pos (by rfl)]
                go_simp
                go_at_call 28
                refine HC.out.mono ?_
                rintro e wx ⟨rfl, ex⟩
                go_wp2_with fail
                have kk := Keep.of ex II.out.base.size
                refine hK.out _ _ ⟨s8, s41, s42, s43, (.bool false), s45, s46, s47, (.int .i64 (-1)), s49, s50, s51, s52, s53, s54, s55, s56, s57, s58, s59, rfl, ?_⟩
                exact { base := II.out.base.trans ex, f0 := fun h => (II.out.f0 (old (by decide) h)).keep kk, f1 := fun h => II.out.f1 (old (by decide) h), f2 := fun h => II.out.f2 (old (by decide) h), f3 := fun h => II.out.f3 (old (by decide) h), f4 := fun h => (II.out.f4 (old (by decide) h)).keep kk, f5 := fun h => II.out.f5 (old (by decide) h), f6 := fun h => (II.out.f6 (old (by decide) h)).keep kk, f7 := fun _ => rfl, f8 := fun h => II.out.f8 (old (by decide) h), f9 := fun h => II.out.f9 (old (by decide) h), f10 := fun h => (II.out.f10 (old (by decide) h)).keep kk, f11 := fun h => (II.out.f11 (old (by decide) h)).keep kk, f12 := fun h => II.out.f12 (old (by decide) h), f13 := fun h => (II.out.f13 (old (by decide) h)).keep kk, f14 := fun h => II.out.f14 (old (by decide) h), f15 := fun h => II.out.f15 (old (by decide) h), f16 := fun h => II.out.f16 (old (by decide) h), f17 := fun h => II.out.f17 (old (by decide) h), f18 := fun h => II.out.f18 (old (by decide) h), f19 := fun h => II.out.f19 (old (by decide) h) }
              refine AllOps.cons ?_ ?_
              · intro hu hp K hK
                have p3 := hp 3 (of_decide_eq_true (by kernel_rfl))
                have q3 := II.out.f3 p3
                have p5 := hp 5 (of_decide_eq_true (by kernel_rfl))
                have q5 := II.out.f5 p5
                have p7 := hp 7 (of_decide_eq_true (by kernel_rfl))
                have q7 := II.out.f7 p7
                clear hp
                have HU := Lib.hid hu
                clear hu
                subst q3
                subst q5
                subst q7
                rw [if_pos (by rfl)]
                go_simp
                refine hK.out _ _ ⟨s8, s41, s42, s43, (.bool false), s45, (.int .i64 (-1)), s47, (.int .i64 (-1)), (.bool true), s50, s51, s52, s53, s54, s55, s56, s57, s58, s59, rfl, ?_⟩
                exact { base := II.out.base, f0 := fun h => II.out.f0 (old (by decide) h), f1 := fun h => II.out.f1 (old (by decide) h), f2 := fun h => II.out.f2 (old (by decide) h), f3 := fun h => II.out.f3 (old (by decide) h), f4 := fun h => II.out.f4 (old (by decide) h), f5 := fun h => II.out.f5 (old (by decide) h), f6 := fun h => II.out.f6 (old (by decide) h), f7 := fun h => II.out.f7 (old (by decide) h), f8 := fun _ => rfl, f9 := fun h => II.out.f9 (old (by decide) h), f10 := fun h => II.out.f10 (old (by decide) h), f11 := fun h => II.out.f11 (old (by decide) h), f12 := fun h => II.out.f12 (old (by decide) h), f13 := fun h => II.out.f13 (old (by decide) h), f14 := fun h => II.out.f14 (old (by decide) h), f15 := fun h => II.out.f15 (old (by decide) h), f16 := fun h => II.out.f16 (old (by decide) h), f17 := fun h => II.out.f17 (old (by decide) h), f18 := fun h => II.out.f18 (old (by decide) h), f19 := fun h => II.out.f19 (old (by decide) h) }
              refine AllOps.cons ?_ ?_
              · intro hu hp K hK
                have p3 := hp 3 (of_decide_eq_true (by kernel_rfl))
                have q3 := II.out.f3 p3
                have p8 := hp 8 (of_decide_eq_true (by kernel_rfl))
                have q8 := II.out.f8 p8
                clear hp
                have HU := Lib.hid hu
                clear hu
                subst q3
                subst q8
                rw [if_pos (by rfl)]
                go_simp
                refine hK.out _ _ ⟨s8, s41, s42, s43, (.bool false), s45, s46, s47, s48, (.bool true), (.bool true), s51, s52, s53, s54, s55, s56, s57, s58, s59, rfl, ?_⟩
                exact { base := II.out.base, f0 := fun h => II.out.f0 (old (by decide) h), f1 := fun h => II.out.f1 (old (by decide) h), f2 := fun h => II.out.f2 (old (by decide) h), f3 := fun h => II.out.f3 (old (by decide) h), f4 := fun h => II.out.f4 (old (by decide) h), f5 := fun h => II.out.f5 (old (by decide) h), f6 := fun h => II.out.f6 (old (by decide) h), f7 := fun h => II.out.f7 (old (by decide) h), f8 := fun h => II.out.f8 (old (by decide) h), f9 := fun _ => rfl, f10 := fun h => II.out.f10 (old (by decide) h), f11 := fun h => II.out.f11 (old (by decide) h), f12 := fun h => II.out.f12 (old (by decide) h), f13 := fun h => II.out.f13 (old (by decide) h), f14 := fun h => II.out.f14 (old (by decide) h), f15 := fun h => II.out.f15 (old (by decide) h), f16 := fun h => II.out.f16 (old (by decide) h), f17 := fun h => II.out.f17 (old (by decide) h), f18 := fun h => II.out.f18 (old (by decide) h), f19 := fun h => II.out.f19 (old (by decide) h) }
              refine AllOps.cons ?_ ?_
              · intro hu hp K hK
                have p9 := hp 9 (of_decide_eq_true (by kernel_rfl))
                have q9 := II.out.f9 p9
                clear hp
                have HU := Lib.hid hu
                clear hu
                subst q9
                have y0x := II.out.base.cell y0
                have y1x := II.out.base.cell y1
                rw [if_pos (by rfl)]
                go_simp
                refine hK.out _ _ ⟨s8, s41, s42, s43, s44, s45, s46, s47, s48, s49, (.bool true), _, s52, s53, s54, s55, s56, s57, s58, s59, rfl, ?_⟩
                exact { base := II.out.base, f0 := fun h => II.out.f0 (old (by decide) h), f1 := fun h => II.out.f1 (old (by decide) h), f2 := fun h => II.out.f2 (old (by decide) h), f3 := fun h => II.out.f3 (old (by decide) h), f4 := fun h => II.out.f4 (old (by decide) h), f5 := fun h => II.out.f5 (old (by decide) h), f6 := fun h => II.out.f6 (old (by decide) h), f7 := fun h => II.out.f7 (old (by decide) h), f8 := fun h => II.out.f8 (old (by decide) h), f9 := fun h => II.out.f9 (old (by decide) h), f10 := fun _ => (i6.ext II.out.base), f11 := fun h => II.out.f11 (old (by decide) h), f12 := fun h => II.out.f12 (old (by decide) h), f13 := fun h => II.out.f13 (old (by decide) h), f14 := fun h => II.out.f14 (old (by decide) h), f15 := fun h => II.out.f15 (old (by decide) h), f16 := fun h => II.out.f16 (old (by decide) h), f17 := fun h => II.out.f17 (old (by decide) h), f18 := fun h => II.out.f18 (old (by decide) h), f19 := fun h => II.out.f19 (old (by decide) h) }
              refine AllOps.cons ?_ ?_
              · intro hu hp K hK
                have p9 := hp 9 (of_decide_eq_true (by kernel_rfl))
                have q9 := II.out.f9 p9
                clear hp
                have HU := Lib.hid hu
                clear hu
                subst q9
                have d0x := II.out.base.cell d0
                have d1x := II.out.base.cell d1
                rw [if_pos (by rfl)]
                go_simp
                refine hK.out _ _ ⟨s8, s41, s42, s43, s44, s45, s46, s47, s48, s49, (.bool true), s51, _, s53, s54, s55, s56, s57, s58, s59, rfl, ?_⟩
                exact { base := II.out.base, f0 := fun h => II.out.f0 (old (by decide) h), f1 := fun h => II.out.f1 (old (by decide) h), f2 := fun h => II.out.f2 (old (by decide) h), f3 := fun h => II.out.f3 (old (by decide) h), f4 := fun h => II.out.f4 (old (by decide) h), f5 := fun h => II.out.f5 (old (by decide) h), f6 := fun h => II.out.f6 (old (by decide) h), f7 := fun h => II.out.f7 (old (by decide) h), f8 := fun h => II.out.f8 (old (by decide) h), f9 := fun h => II.out.f9 (old (by decide) h), f10 := fun h => II.out.f10 (old (by decide) h), f11 := fun _ => (j2.ext II.out.base), f12 := fun h => II.out.f12 (old (by decide) h), f13 := fun h => II.out.f13 (old (by decide) h), f14 := fun h => II.out.f14 (old (by decide) h), f15 := fun h => II.out.f15 (old (by decide) h), f16 := fun h => II.out.f16 (old (by decide) h), f17 := fun h => II.out.f17 (old (by decide) h), f18 := fun h => II.out.f18 (old (by decide) h), f19 := fun h => II.out.f19 (old (by decide) h) }
              refine AllOps.cons ?_ ?_
              · intro hu hp K hK
                have p9 := hp 9 (of_decide_eq_true (by kernel_rfl))
                have q9 := II.out.f9 p9
                have p10 := hp 10 (of_decide_eq_true (by kernel_rfl))
                have q10 := II.out.f10 p10
                have p11 := hp 11 (of_decide_eq_true (by kernel_rfl))
                have q11 := II.out.f11 p11
                clear hp
                have HU := Lib.hid hu
                clear hu
                subst q9
                have HC := Lib.hid (rcmp_lit w' s51 s52 (r) (z2) (1) q10 q11 G.out.2.2)
                rw [if_pos (by rfl)]
                go_simp
                go_at_call 30
                refine HC.out.mono ?_
                rintro e wx ⟨rfl, ex⟩
                go_wp2_with fail
                have kk := Keep.of ex II.out.base.size
                refine hK.out _ _ ⟨s8, s41, s42, s43, s44, s45, s46, s47, s48, s49, (.bool true), s51, s52, (.int .i64 1), s54, s55, s56, s57, s58, s59, rfl, ?_⟩
                exact { base := II.out.base.trans ex, f0 := fun h => (II.out.f0 (old (by decide) h)).keep kk, f1 := fun h => II.out.f1 (old (by decide) h), f2 := fun h => II.out.f2 (old (by decide) h), f3 := fun h => II.out.f3 (old (by decide) h), f4 := fun h => (II.out.f4 (old (by decide) h)).keep kk, f5 := fun h => II.out.f5 (old (by decide) h), f6 := fun h => (II.out.f6 (old (by decide) h)).keep kk, f7 := fun h => II.out.f7 (old (by decide) h), f8 := fun h => II.out.f8 (old (by decide) h), f9 := fun h => II.out.f9 (old (by decide) h), f10 := fun h => (II.out.f10 (old (by decide) h)).keep kk, f11 := fun h => (II.out.f11 (old (by decide) h)).keep kk, f12 := fun _ => rfl, f13 := fun h => (II.out.f13 (old (by decide) h)).keep kk, f14 := fun h => II.out.f14 (old (by decide) h), f15 := fun h => II.out.f15 (old (by decide) h), f16 := fun h => II.out.f16 (old (by decide) h), f17 := fun h => II.out.f17 (old (by decide) h), f18 := fun h => II.out.f18 (old (by decide) h), f19 := fun h => II.out.f19 (old (by decide) h) }
              refine AllOps.cons ?_ ?_
              · intro hu hp K hK
                have p9 := hp 9 (of_decide_eq_true (by kernel_rfl))
                have q9 := II.out.f9 p9
                clear hp
                have HU := Lib.hid hu
                clear hu
                subst q9
                have d0x := II.out.base.cell d0
                have d1x := II.out.base.cell d1
                rw [if_pos (by rfl)]
                go_simp
                refine hK.out _ _ ⟨s8, s41, s42, s43, s44, s45, s46, s47, s48, s49, (.bool true), s51, s52, s53, _, s55, s56, s57, s58, s59, rfl, ?_⟩
                exact { base := II.out.base, f0 := fun h => II.out.f0 (old (by decide) h), f1 := fun h => II.out.f1 (old (by decide) h), f2 := fun h => II.out.f2 (old (by decide) h), f3 := fun h => II.out.f3 (old (by decide) h), f4 := fun h => II.out.f4 (old (by decide) h), f5 := fun h => II.out.f5 (old (by decide) h), f6 := fun h => II.out.f6 (old (by decide) h), f7 := fun h => II.out.f7 (old (by decide) h), f8 := fun h => II.out.f8 (old (by decide) h), f9 := fun h => II.out.f9 (old (by decide) h), f10 := fun h => II.out.f10 (old (by decide) h), f11 := fun h => II.out.f11 (old (by decide) h), f12 := fun h => II.out.f12 (old (by decide) h), f13 := fun _ => (j2.ext II.out.base), f14 := fun h => II.out.f14 (old (by decide) h), f15 := fun h => II.out.f15 (old (by decide) h), f16 := fun h => II.out.f16 (old (by decide) h), f17 := fun h => II.out.f17 (old (by decide) h), f18 := fun h => II.out.f18 (old (by decide) h), f19 := fun h => II.out.f19 (old (by decide) h) }
              refine AllOps.cons ?_ ?_
              · intro hu hp K hK
                have p9 := hp 9 (of_decide_eq_true (by kernel_rfl))
                have q9 := II.out.f9 p9
                have p13 := hp 13 (of_decide_eq_true (by kernel_rfl))
                have q13 := II.out.f13 p13
                clear hp
                have HU := Lib.hid hu
                clear hu
                subst q9
                have HC := Lib.hid (rsign_lit w' s54 (z2) (-1) q13 G.out.2.1)
                rw [if_pos (by rfl)]
                go_simp
                go_at_call 28
                refine HC.out.mono ?_
                rintro e wx ⟨rfl, ex⟩
                go_wp2_with fail
                have kk := Keep.of ex II.out.base.size
                refine hK.out _ _ ⟨s8, s41, s42, s43, s44, s45, s46, s47, s48, s49, (.bool true), s51, s52, s53, s54, (.int .i64 (-1)), s56, s57, s58, s59, rfl, ?_⟩
                exact { base := II.out.base.trans ex, f0 := fun h => (II.out.f0 (old (by decide) h)).keep kk, f1 := fun h => II.out.f1 (old (by decide) h), f2 := fun h => II.out.f2 (old (by decide) h), f3 := fun h => II.out.f3 (old (by decide) h), f4 := fun h => (II.out.f4 (old (by decide) h)).keep kk, f5 := fun h => II.out.f5 (old (by decide) h), f6 := fun h => (II.out.f6 (old (by decide) h)).keep kk, f7 := fun h => II.out.f7 (old (by decide) h), f8 := fun h => II.out.f8 (old (by decide) h), f9 := fun h => II.out.f9 (old (by decide) h), f10 := fun h => (II.out.f10 (old (by decide) h)).keep kk, f11 := fun h => (II.out.f11 (old (by decide) h)).keep kk, f12 := fun h => II.out.f12 (old (by decide) h), f13 := fun h => (II.out.f13 (old (by decide) h)).keep kk, f14 := fun _ => rfl, f15 := fun h => II.out.f15 (old (by decide) h), f16 := fun h => II.out.f16 (old (by decide) h), f17 := fun h => II.out.f17 (old (by decide) h), f18 := fun h => II.out.f18 (old (by decide) h), f19 := fun h => II.out.f19 (old (by decide) h) }
              refine AllOps.cons ?_ ?_
              · intro hu hp K hK
                have p9 := hp 9 (of_decide_eq_true (by kernel_rfl))
                have q9 := II.out.f9 p9
                have p14 := hp 14 (of_decide_eq_true (by kernel_rfl))
                have q14 := II.out.f14 p14
                clear hp
                have HU := Lib.hid hu
                clear hu
                subst q9
                subst q14
                rw [if_pos (by rfl)]
                go_simp
                refine hK.out _ _ ⟨s8, s41, s42, s43, s44, s45, s46, s47, s48, s49, (.bool true), s51, s52, s53, s54, (.int .i64 (-1)), (.int .i64 1), s57, s58, s59, rfl, ?_⟩
                exact { base := II.out.base, f0 := fun h => II.out.f0 (old (by decide) h), f1 := fun h => II.out.f1 (old (by decide) h), f2 := fun h => II.out.f2 (old (by decide) h), f3 := fun h => II.out.f3 (old (by decide) h), f4 := fun h => II.out.f4 (old (by decide) h), f5 := fun h => II.out.f5 (old (by decide) h), f6 := fun h => II.out.f6 (old (by decide) h), f7 := fun h => II.out.f7 (old (by decide) h), f8 := fun h => II.out.f8 (old (by decide) h), f9 := fun h => II.out.f9 (old (by decide) h), f10 := fun h => II.out.f10 (old (by decide) h), f11 := fun h => II.out.f11 (old (by decide) h), f12 := fun h => II.out.f12 (old (by decide) h), f13 := fun h => II.out.f13 (old (by decide) h), f14 := fun h => II.out.f14 (old (by decide) h), f15 := fun _ => rfl, f16 := fun h => II.out.f16 (old (by decide) h), f17 := fun h => II.out.f17 (old (by decide) h), f18 := fun h => II.out.f18 (old (by decide) h), f19 := fun h => II.out.f19 (old (by decide) h) }
              refine AllOps.cons ?_ ?_
              · intro hu hp K hK
                have p9 := hp 9 (of_decide_eq_true (by kernel_rfl))
                have q9 := II.out.f9 p9
                have p12 := hp 12 (of_decide_eq_true (by kernel_rfl))
                have q12 := II.out.f12 p12
                have p15 := hp 15 (of_decide_eq_true (by kernel_rfl))
                have q15 := II.out.f15 p15
                clear hp
                have HU := Lib.hid hu
                clear hu
                subst q9
                subst q12
                subst q15
                rw [if_pos (by rfl)]
                go_simp
                refine hK.out _ _ ⟨s8, s41, s42, s43, s44, s45, s46, s47, s48, s49, (.bool true), s51, s52, (.int .i64 1), s54, s55, (.int .i64 1), (.bool true), s58, s59, rfl, ?_⟩
                exact { base := II.out.base, f0 := fun h => II.out.f0 (old (by decide) h), f1 := fun h => II.out.f1 (old (by decide) h), f2 := fun h => II.out.f2 (old (by decide) h), f3 := fun h => II.out.f3 (old (by decide) h), f4 := fun h => II.out.f4 (old (by decide) h), f5 := fun h => II.out.f5 (old (by decide) h), f6 := fun h => II.out.f6 (old (by decide) h), f7 := fun h => II.out.f7 (old (by decide) h), f8 := fun h => II.out.f8 (old (by decide) h), f9 := fun h => II.out.f9 (old (by decide) h), f10 := fun h => II.out.f10 (old (by decide) h), f11 := fun h => II.out.f11 (old (by decide) h), f12 := fun h => II.out.f12 (old (by decide) h), f13 := fun h => II.out.f13 (old (by decide) h), f14 := fun h => II.out.f14 (old (by decide) h), f15 := fun h => II.out.f15 (old (by decide) h), f16 := fun _ => rfl, f17 := fun h => II.out.f17 (old (by decide) h), f18 := fun h => II.out.f18 (old (by decide) h), f19 := fun h => II.out.f19 (old (by decide) h) }
              refine AllOps.cons ?_ ?_
              · intro hu hp K hK
                have p3 := hp 3 (of_decide_eq_true (by kernel_rfl))
                have q3 := II.out.f3 p3
                have p9 := hp 9 (of_decide_eq_true (by kernel_rfl))
                have q9 := II.out.f9 p9
                have p16 := hp 16 (of_decide_eq_true (by kernel_rfl))
                have q16 := II.out.f16 p16
                clear hp
                have HU := Lib.hid hu
                clear hu
                subst q3
                subst q9
                subst q16
                rw [if_pos (by rfl)]
                go_simp
                refine hK.out _ _ ⟨s8, s41, s42, s43, (.bool false), s45, s46, s47, s48, s49, (.bool true), s51, s52, s53, s54, s55, s56, (.bool true), (.bool true), s59, rfl, ?_⟩
                exact { base := II.out.base, f0 := fun h => II.out.f0 (old (by decide) h), f1 := fun h => II.out.f1 (old (by decide) h), f2 := fun h => II.out.f2 (old (by decide) h), f3 := fun h => II.out.f3 (old (by decide) h), f4 := fun h => II.out.f4 (old (by decide) h), f5 := fun h => II.out.f5 (old (by decide) h), f6 := fun h => II.out.f6 (old (by decide) h), f7 := fun h => II.out.f7 (old (by decide) h), f8 := fun h => II.out.f8 (old (by decide) h), f9 := fun h => II.out.f9 (old (by decide) h), f10 := fun h => II.out.f10 (old (by decide) h), f11 := fun h => II.out.f11 (old (by decide) h), f12 := fun h => II.out.f12 (old (by decide) h), f13 := fun h => II.out.f13 (old (by decide) h), f14 := fun h => II.out.f14 (old (by decide) h), f15 := fun h => II.out.f15 (old (by decide) h), f16 := fun h => II.out.f16 (old (by decide) h), f17 := fun _ => rfl, f18 := fun h => II.out.f18 (old (by decide) h), f19 := fun h => II.out.f19 (old (by decide) h) }
              refine AllOps.cons ?_ ?_
              · intro hu hp K hK
                have p3 := hp 3 (of_decide_eq_true (by kernel_rfl))
                have q3 := II.out.f3 p3
                have p17 := hp 17 (of_decide_eq_true (by kernel_rfl))
                have q17 := II.out.f17 p17
                clear hp
                have HU := Lib.hid hu
                clear hu
                subst q3
                subst q17
                rw [if_pos (by rfl)]
                go_simp
                refine hK.out _ _ ⟨s8, s41, s42, s43, (.bool false), s45, s46, s47, s48, s49, s50, s51, s52, s53, s54, s55, s56, s57, (.bool true), (.bool true), rfl, ?_⟩
                exact { base := II.out.base, f0 := fun h => II.out.f0 (old (by decide) h), f1 := fun h => II.out.f1 (old (by decide) h), f2 := fun h => II.out.f2 (old (by decide) h), f3 := fun h => II.out.f3 (old (by decide) h), f4 := fun h => II.out.f4 (old (by decide) h), f5 := fun h => II.out.f5 (old (by decide) h), f6 := fun h => II.out.f6 (old (by decide) h), f7 := fun h => II.out.f7 (old (by decide) h), f8 := fun h => II.out.f8 (old (by decide) h), f9 := fun h => II.out.f9 (old (by decide) h), f10 := fun h => II.out.f10 (old (by decide) h), f11 := fun h => II.out.f11 (old (by decide) h), f12 := fun h => II.out.f12 (old (by decide) h), f13 := fun h => II.out.f13 (old (by decide) h), f14 := fun h => II.out.f14 (old (by decide) h), f15 := fun h => II.out.f15 (old (by decide) h), f16 := fun h => II.out.f16 (old (by decide) h), f17 := fun h => II.out.f17 (old (by decide) h), f18 := fun _ => rfl, f19 := fun h => II.out.f19 (old (by decide) h) }
              refine AllOps.cons ?_ ?_
              · intro hu hp K hK
                have p18 := hp 18 (of_decide_eq_true (by kernel_rfl))
                have q18 := II.out.f18 p18
                clear hp
                have HU := Lib.hid hu
                clear hu
                subst q18
                rw [if_pos (by rfl)]
                go_simp
                refine hK.out _ _ ⟨(.bool true), s41, s42, s43, s44, s45, s46, s47, s48, s49, s50, s51, s52, s53, s54, s55, s56, s57, s58, (.bool true), rfl, ?_⟩
                exact { base := II.out.base, f0 := fun h => II.out.f0 (old (by decide) h), f1 := fun h => II.out.f1 (old (by decide) h), f2 := fun h => II.out.f2 (old (by decide) h), f3 := fun h => II.out.f3 (old (by decide) h), f4 := fun h => II.out.f4 (old (by decide) h), f5 := fun h => II.out.f5 (old (by decide) h), f6 := fun h => II.out.f6 (old (by decide) h), f7 := fun h => II.out.f7 (old (by decide) h), f8 := fun h => II.out.f8 (old (by decide) h), f9 := fun h => II.out.f9 (old (by decide) h), f10 := fun h => II.out.f10 (old (by decide) h), f11 := fun h => II.out.f11 (old (by decide) h), f12 := fun h => II.out.f12 (old (by decide) h), f13 := fun h => II.out.f13 (old (by decide) h), f14 := fun h => II.out.f14 (old (by decide) h), f15 := fun h => II.out.f15 (old (by decide) h), f16 := fun h => II.out.f16 (old (by decide) h), f17 := fun h => II.out.f17 (old (by decide) h), f18 := fun h => II.out.f18 (old (by decide) h), f19 := fun _ => rfl }
              exact AllOps.nil
            case he =>
              rintro l _ w' hall ⟨s8, s41, s42, s43, s44, s45, s46, s47, s48, s49, s50, s51, s52, s53, s54, s55, s56, s57, s58, s59, rfl, I⟩
              have q19 := I.f19 (hall 19 (by decide))
              have e1 := I.base
              clear I hall
              simp only [setAll, Act.put, List.setIfInBounds_toArray, List.set_cons_zero, List.set_cons_succ]
              obtain rfl := q19
              go_wp2_with fail
              go_meet
              exact ⟨rfl, e1⟩
        case rest =>
          obtain ⟨rfl, e4⟩ := hcut
          replace c0 := e4.cell c0
          replace c1 := e4.cell c1
          replace d0 := e4.cell d0
          replace d1 := e4.cell d1
          replace x0 := e4.cell x0
          replace x1 := e4.cell x1
          replace y0 := e4.cell y0
          replace y1 := e4.cell y1
          replace i5 := i5.ext e4
          replace i6 := i6.ext e4
          replace j1 := j1.ext e4
          replace j2 := j2.ext e4
          replace eW := eW.trans e4
          have HSm := Lib.hid (dm_sizes HS.out HA.out)
          clear e4 HGG hb0
          go_upto_region 7 with fail
          refine wp_region_inv (fun a0 l a w' => ∃ s4 s60 s61 s62 s63 s64 s65 s66 s67 s68 s69 s70 s71 s72 s73 s74 s75 s76 s77 s78 s79 s80 s81, a = setAll a0 [(4, s4), (60, s60), (61, s61), (62, s62), (63, s63), (64, s64), (65, s65), (66, s66), (67, s67), (68, s68), (69, s69), (70, s70), (71, s71), (72, s72), (73, s73), (74, s74), (75, s75), (76, s76), (77, s77), (78, s78), (79, s79), (80, s80), (81, s81)] ∧ RegDM7 wc z1 z2 q r l s4 s60 s61 s62 s63 s64 s65 s66 s67 s68 s69 s70 s71 s72 s73 s74 s75 s76 s77 s78 s79 s80 s81 w') (by kernel_rfl) (by kernel_rfl) 82 rfl ?h0 ?hs ?he
          case h0 =>
            intro a hn
            refine ⟨_, _, _, _, _, _, _, _, _, _, _, _, _, _, _, _, _, _, _, _, _, _, _, (setAll_self a 82 hn [4, 60, 61, 62, 63, 64, 65, 66, 67, 68, 69, 70, 71, 72, 73, 74, 75, 76, 77, 78, 79, 80, 81] (by decide)).symm, ?_⟩
            exact { base := (Ext.refl _).drew, f0 := fun h => (none_yet h).elim, f1 := fun h => (none_yet h).elim, f2 := fun h => (none_yet h).elim, f3 := fun h => (none_yet h).elim, f4 := fun h => (none_yet h).elim, f5 := fun h => (none_yet h).elim, f6 := fun h => (none_yet h).elim, f7 := fun h => (none_yet h).elim, f8 := fun h => (none_yet h).elim, f9 := fun h => (none_yet h).elim, f10 := fun h => (none_yet h).elim, f11 := fun h => (none_yet h).elim, f12 := fun h => (none_yet h).elim, f13 := fun h => (none_yet h).elim, f14 := fun h => (none_yet h).elim, f15 := fun h => (none_yet h).elim, f16 := fun h => (none_yet h).elim, f17 := fun h => (none_yet h).elim, f18 := fun h => (none_yet h).elim, f19 := fun h => (none_yet h).elim, f20 := fun h => (none_yet h).elim, f21 := fun h => (none_yet h).elim, f22 := fun h => (none_yet h).elim }
          case hs =>
            rintro l _ w' ⟨s4, s60, s61, s62, s63, s64, s65, s66, s67, s68, s69, s70, s71, s72, s73, s74, s75, s76, s77, s78, s79, s80, s81, rfl, I⟩
            have II := Lib.hid I
            clear I
            simp only [setAll, Act.put, List.setIfInBounds_toArray, List.set_cons_zero, List.set_cons_succ]
            refine AllOps.cons ?_ ?_
            · intro hu hp K hK
              clear hp
              have HU := Lib.hid hu
              clear hu
              rw [if_pos (by rfl)]
              go_simp
              refine hK.out _ _ ⟨s4, (.int .i64 0), s61, s62, s63, s64, s65, s66, s67, s68, s69, s70, s71, s72, s73, s74, s75, s76, s77, s78, s79, s80, s81, rfl, ?_⟩
              exact { base := II.out.base, f0 := fun _ => rfl, f1 := fun h => II.out.f1 (old (by decide) h), f2 := fun h => II.out.f2 (old (by decide) h), f3 := fun h => II.out.f3 (old (by decide) h), f4 := fun h => II.out.f4 (old (by decide) h), f5 := fun h => II.out.f5 (old (by decide) h), f6 := fun h => II.out.f6 (old (by decide) h), f7 := fun h => II.out.f7 (old (by decide) h), f8 := fun h => II.out.f8 (old (by decide) h), f9 := fun h => II.out.f9 (old (by decide) h), f10 := fun h => II.out.f10 (old (by decide) h), f11 := fun h => II.out.f11 (old (by decide) h), f12 := fun h => II.out.f12 (old (by decide) h), f13 := fun h => II.out.f13 (old (by decide) h), f14 := fun h => II.out.f14 (old (by decide) h), f15 := fun h => II.out.f15 (old (by decide) h), f16 := fun h => II.out.f16 (old (by decide) h), f17 := fun h => II.out.f17 (old (by decide) h), f18 := fun h => II.out.f18 (old (by decide) h), f19 := fun h => II.out.f19 (old (by decide) h), f20 := fun h => II.out.f20 (old (by decide) h), f21 := fun h => II.out.f21 (old (by decide) h), f22 := fun h => II.out.f22 (old (by decide) h) }
            refine AllOps.cons ?_ ?_
            · intro hu hp K hK
              have p0 := hp 0 (of_decide_eq_true (by kernel_rfl))
              have q0 := II.out.f0 p0
              clear hp
              have HU := Lib.hid hu
              clear hu
              subst q0
              rw [if_pos (by rfl)]
              go_simp
              refine hK.out _ _ ⟨s4, (.int .i64 0), (.bool true), s62, s63, s64, s65, s66, s67, s68, s69, s70, s71, s72, s73, s74, s75, s76, s77, s78, s79, s80, s81, rfl, ?_⟩
              exact { base := II.out.base, f0 := fun h => II.out.f0 (old (by decide) h), f1 := fun _ => rfl, f2 := fun h => II.out.f2 (old (by decide) h), f3 := fun h => II.out.f3 (old (by decide) h), f4 := fun h => II.out.f4 (old (by decide) h), f5 := fun h => II.out.f5 (old (by decide) h), f6 := fun h => II.out.f6 (old (by decide) h), f7 := fun h => II.out.f7 (old (by decide) h), f8 := fun h => II.out.f8 (old (by decide) h), f9 := fun h => II.out.f9 (old (by decide) h), f10 := fun h => II.out.f10 (old (by decide) h), f11 := fun h => II.out.f11 (old (by decide) h), f12 := fun h => II.out.f12 (old (by decide) h), f13 := fun h => II.out.f13 (old (by decide) h), f14 := fun h => II.out.f14 (old (by decide) h), f15 := fun h => II.out.f15 (old (by decide) h), f16 := fun h => II.out.f16 (old (by decide) h), f17 := fun h => II.out.f17 (old (by decide) h), f18 := fun h => II.out.f18 (old (by decide) h), f19 := fun h => II.out.f19 (old (by decide) h), f20 := fun h => II.out.f20 (old (by decide) h), f21 := fun h => II.out.f21 (old (by decide) h), f22 := fun h => II.out.f22 (old (by decide) h) }
            refine AllOps.cons ?_ ?_
            · intro hu hp K hK
              have p1 := hp 1 (of_decide_eq_true (by kernel_rfl))
              have q1 := II.out.f1 p1
              clear hp
              have HU := Lib.hid hu
              clear hu
              subst q1
              rw [if_pos (by rfl)]
              go_simp
              refine hK.out _ _ ⟨s4, s60, (.bool true), (.bool true), s63, s64, s65, s66, s67, s68, s69, s70, s71, s72, s73, s74, s75, s76, s77, s78, s79, s80, s81, rfl, ?_⟩
              exact { base := II.out.base, f0 := fun h => II.out.f0 (old (by decide) h), f1 := fun h => II.out.f1 (old (by decide) h), f2 := fun _ => rfl, f3 := fun h => II.out.f3 (old (by decide) h), f4 := fun h => II.out.f4 (old (by decide) h), f5 := fun h => II.out.f5 (old (by decide) h), f6 := fun h => II.out.f6 (old (by decide) h), f7 := fun h => II.out.f7 (old (by decide) h), f8 := fun h => II.out.f8 (old (by decide) h), f9 := fun h => II.out.f9 (old (by decide) h), f10 := fun h => II.out.f10 (old (by decide) h), f11 := fun h => II.out.f11 (old (by decide) h), f12 := fun h => II.out.f12 (old (by decide) h), f13 := fun h => II.out.f13 (old (by decide) h), f14 := fun h => II.out.f14 (old (by decide) h), f15 := fun h => II.out.f15 (old (by decide) h), f16 := fun h => II.out.f16 (old (by decide) h), f17 := fun h => II.out.f17 (old (by decide) h), f18 := fun h => II.out.f18 (old (by decide) h), f19 := fun h => II.out.f19 (old (by decide) h), f20 := fun h => II.out.f20 (old (by decide) h), f21 := fun h => II.out.f21 (old (by decide) h), f22 := fun h => II.out.f22 (old (by decide) h) }
            refine AllOps.cons ?_ ?_
            · intro hu hp K hK
              have p2 := hp 2 (of_decide_eq_true (by kernel_rfl))
              have q2 := II.out.f2 p2
              clear hp
              have HU := Lib.hid hu
              clear hu
              subst q2
              have x0x := II.out.base.cell x0
              have x1x := II.out.base.cell x1
              rw [if_pos (by rfl)]
              go_simp
              refine hK.out _ _ ⟨s4, s60, s61, (.bool true), _, s64, s65, s66, s67, s68, s69, s70, s71, s72, s73, s74, s75, s76, s77, s78, s79, s80, s81, rfl, ?_⟩
              exact { base := II.out.base, f0 := fun h => II.out.f0 (old (by decide) h), f1 := fun h => II.out.f1 (old (by decide) h), f2 := fun h => II.out.f2 (old (by decide) h), f3 := fun _ => (i5.ext II.out.base), f4 := fun h => II.out.f4 (old (by decide) h), f5 := fun h => II.out.f5 (old (by decide) h), f6 := fun h => II.out.f6 (old (by decide) h), f7 := fun h => II.out.f7 (old (by decide) h), f8 := fun h => II.out.f8 (old (by decide) h), f9 := fun h => II.out.f9 (old (by decide) h), f10 := fun h => II.out.f10 (old (by decide) h), f11 := fun h => II.out.f11 (old (by decide) h), f12 := fun h => II.out.f12 (old (by decide) h), f13 := fun h => II.out.f13 (old (by decide) h), f14 := fun h => II.out.f14 (old (by decide) h), f15 := fun h => II.out.f15 (old (by decide) h), f16 := fun h => II.out.f16 (old (by decide) h), f17 := fun h => II.out.f17 (old (by decide) h), f18 := fun h => II.out.f18 (old (by decide) h), f19 := fun h => II.out.f19 (old (by decide) h), f20 := fun h => II.out.f20 (old (by decide) h), f21 := fun h => II.out.f21 (old (by decide) h), f22 := fun h => II.out.f22 (old (by decide) h) }
            refine AllOps.cons ?_ ?_
            · intro hu hp K hK
              have p2 := hp 2 (of_decide_eq_true (by kernel_rfl))
              have q2 := II.out.f2 p2
              have p3 := hp 3 (of_decide_eq_true (by kernel_rfl))
              have q3 := II.out.f3 p3
              clear hp
              have HU := Lib.hid hu
              clear hu
              subst q2
              have HC := Lib.hid (rvalid_true w' s63 (q) q3)
              rw [if_pos (by rfl)]
              go_simp
              go_at_call 14
              refine HC.out.mono ?_
              rintro e wx ⟨rfl, ex⟩
              go_wp2_with fail
              have kk := Keep.of ex II.out.base.size
              refine hK.out _ _ ⟨s4, s60, s61, (.bool true), s63, (.bool true), s65, s66, s67, s68, s69, s70, s71, s72, s73, s74, s75, s76, s77, s78, s79, s80, s81, rfl, ?_⟩
              exact { base := II.out.base.trans ex, f0 := fun h => II.out.f0 (old (by decide) h), f1 := fun h => II.out.f1 (old (by decide) h), f2 := fun h => II.out.f2 (old (by decide) h), f3 := fun h => (II.out.f3 (old (by decide) h)).keep kk, f4 := fun _ => rfl, f5 := fun h => II.out.f5 (old (by decide) h), f6 := fun h => II.out.f6 (old (by decide) h), f7 := fun h => (II.out.f7 (old (by decide) h)).keep kk, f8 := fun h => II.out.f8 (old (by decide) h), f9 := fun h => II.out.f9 (old (by decide) h), f10 := fun h => II.out.f10 (old (by decide) h), f11 := fun h => II.out.f11 (old (by decide) h), f12 := fun h => II.out.f12 (old (by decide) h), f13 := fun h => II.out.f13 (old (by decide) h), f14 := fun h => (II.out.f14 (old (by decide) h)).keep kk, f15 := fun h => (II.out.f15 (old (by decide) h)).keep kk, f16 := fun h => (II.out.f16 (old (by decide) h)).keep kk, f17 := fun h => (II.out.f17 (old (by decide) h)).keep kk, f18 := fun h => (II.out.f18 (old (by decide) h)).keep kk, f19 := fun h => (II.out.f19 (old (by decide) h)).keep kk, f20 := fun h => II.out.f20 (old (by decide) h), f21 := fun h => II.out.f21 (old (by decide) h), f22 := fun h => II.out.f22 (old (by decide) h) }
            refine AllOps.cons ?_ ?_
            · intro hu hp K hK
              have p2 := hp 2 (of_decide_eq_true (by kernel_rfl))
              have q2 := II.out.f2 p2
              have p4 := hp 4 (of_decide_eq_true (by kernel_rfl))
              have q4 := II.out.f4 p4
              clear hp
              have HU := Lib.hid hu
              clear hu
              subst q2
              subst q4
              rw [if_pos (by rfl)]
              go_simp
              refine hK.out _ _ ⟨s4, s60, s61, (.bool true), s63, (.bool true), (.bool true), s66, s67, s68, s69, s70, s71, s72, s73, s74, s75, s76, s77, s78, s79, s80, s81, rfl, ?_⟩
              exact { base := II.out.base, f0 := fun h => II.out.f0 (old (by decide) h), f1 := fun h => II.out.f1 (old (by decide) h), f2 := fun h => II.out.f2 (old (by decide) h), f3 := fun h => II.out.f3 (old (by decide) h), f4 := fun h => II.out.f4 (old (by decide) h), f5 := fun _ => rfl, f6 := fun h => II.out.f6 (old (by decide) h), f7 := fun h => II.out.f7 (old (by decide) h), f8 := fun h => II.out.f8 (old (by decide) h), f9 := fun h => II.out.f9 (old (by decide) h), f10 := fun h => II.out.f10 (old (by decide) h), f11 := fun h => II.out.f11 (old (by decide) h), f12 := fun h => II.out.f12 (old (by decide) h), f13 := fun h => II.out.f13 (old (by decide) h), f14 := fun h => II.out.f14 (old (by decide) h), f15 := fun h => II.out.f15 (old (by decide) h), f16 := fun h => II.out.f16 (old (by decide) h), f17 := fun h => II.out.f17 (old (by decide) h), f18 := fun h => II.out.f18 (old (by decide) h), f19 := fun h => II.out.f19 (old (by decide) h), f20 := fun h => II.out.f20 (old (by decide) h), f21 := fun h => II.out.f21 (old (by decide) h), f22 := fun h => II.out.f22 (old (by decide) h) }
            refine AllOps.cons ?_ ?_
            · intro hu hp K hK
              have p5 := hp 5 (of_decide_eq_true (by kernel_rfl))
              have q5 := II.out.f5 p5
              clear hp
              have HU := Lib.hid hu
              clear hu
              subst q5
              rw [if_pos (by rfl)]
              go_simp
              refine hK.out _ _ ⟨s4, s60, s61, s62, s63, s64, (.bool true), (.bool true), s67, s68, s69, s70, s71, s72, s73, s74, s75, s76, s77, s78, s79, s80, s81, rfl, ?_⟩
              exact { base := II.out.base, f0 := fun h => II.out.f0 (old (by decide) h), f1 := fun h => II.out.f1 (old (by decide) h), f2 := fun h => II.out.f2 (old (by decide) h), f3 := fun h => II.out.f3 (old (by decide) h), f4 := fun h => II.out.f4 (old (by decide) h), f5 := fun h => II.out.f5 (old (by decide) h), f6 := fun _ => rfl, f7 := fun h => II.out.f7 (old (by decide) h), f8 := fun h => II.out.f8 (old (by decide) h), f9 := fun h => II.out.f9 (old (by decide) h), f10 := fun h => II.out.f10 (old (by decide) h), f11 := fun h => II.out.f11 (old (by decide) h), f12 := fun h => II.out.f12 (old (by decide) h), f13 := fun h => II.out.f13 (old (by decide) h), f14 := fun h => II.out.f14 (old (by decide) h), f15 := fun h => II.out.f15 (old (by decide) h), f16 := fun h => II.out.f16 (old (by decide) h), f17 := fun h => II.out.f17 (old (by decide) h), f18 := fun h => II.out.f18 (old (by decide) h), f19 := fun h => II.out.f19 (old (by decide) h), f20 := fun h => II.out.f20 (old (by decide) h), f21 := fun h => II.out.f21 (old (by decide) h), f22 := fun h => II.out.f22 (old (by decide) h) }
            refine AllOps.cons ?_ ?_
            · intro hu hp K hK
              have p6 := hp 6 (of_decide_eq_true (by kernel_rfl))
              have q6 := II.out.f6 p6
              clear hp
              have HU := Lib.hid hu
              clear hu
              subst q6
              have y0x := II.out.base.cell y0
              have y1x := II.out.base.cell y1
              rw [if_pos (by rfl)]
              go_simp
              refine hK.out _ _ ⟨s4, s60, s61, s62, s63, s64, s65, (.bool true), _, s68, s69, s70, s71, s72, s73, s74, s75, s76, s77, s78, s79, s80, s81, rfl, ?_⟩
              exact { base := II.out.base, f0 := fun h => II.out.f0 (old (by decide) h), f1 := fun h => II.out.f1 (old (by decide) h), f2 := fun h => II.out.f2 (old (by decide) h), f3 := fun h => II.out.f3 (old (by decide) h), f4 := fun h => II.out.f4 (old (by decide) h), f5 := fun h => II.out.f5 (old (by decide) h), f6 := fun h => II.out.f6 (old (by decide) h), f7 := fun _ => (i6.ext II.out.base), f8 := fun h => II.out.f8 (old (by decide) h), f9 := fun h => II.out.f9 (old (by decide) h), f10 := fun h => II.out.f10 (old (by decide) h), f11 := fun h => II.out.f11 (old (by decide) h), f12 := fun h => II.out.f12 (old (by decide) h), f13 := fun h => II.out.f13 (old (by decide) h), f14 := fun h => II.out.f14 (old (by decide) h), f15 := fun h => II.out.f15 (old (by decide) h), f16 := fun h => II.out.f16 (old (by decide) h), f17 := fun h => II.out.f17 (old (by decide) h), f18 := fun h => II.out.f18 (old (by decide) h), f19 := fun h => II.out.f19 (old (by decide) h), f20 := fun h => II.out.f20 (old (by decide) h), f21 := fun h => II.out.f21 (old (by decide) h), f22 := fun h => II.out.f22 (old (by decide) h) }
            refine AllOps.cons ?_ ?_
            · intro hu hp K hK
              have p6 := hp 6 (of_decide_eq_true (by kernel_rfl))
              have q6 := II.out.f6 p6
              have p7 := hp 7 (of_decide_eq_true (by kernel_rfl))
              have q7 := II.out.f7 p7
              clear hp
              have HU := Lib.hid hu
              clear hu
              subst q6
              have HC := Lib.hid (rvalid_true w' s67 (r) q7)
              rw [if_pos (by rfl)]
              go_simp
              go_at_call 14
              refine HC.out.mono ?_
              rintro e wx ⟨rfl, ex⟩
              go_wp2_with fail
              have kk := Keep.of ex II.out.base.size
              refine hK.out _ _ ⟨s4, s60, s61, s62, s63, s64, s65, (.bool true), s67, (.bool true), s69, s70, s71, s72, s73, s74, s75, s76, s77, s78, s79, s80, s81, rfl, ?_⟩
              exact { base := II.out.base.trans ex, f0 := fun h => II.out.f0 (old (by decide) h), f1 := fun h => II.out.f1 (old (by decide) h), f2 := fun h => II.out.f2 (old (by decide) h), f3 := fun h => (II.out.f3 (old (by decide) h)).keep kk, f4 := fun h => II.out.f4 (old (by decide) h), f5 := fun h => II.out.f5 (old (by decide) h), f6 := fun h => II.out.f6 (old (by decide) h), f7 := fun h => (II.out.f7 (old (by decide) h)).keep kk, f8 := fun _ => rfl, f9 := fun h => II.out.f9 (old (by decide) h), f10 := fun h => II.out.f10 (old (by decide) h), f11 := fun h => II.out.f11 (old (by decide) h), f12 := fun h => II.out.f12 (old (by decide) h), f13 := fun h => II.out.f13 (old (by decide) h), f14 := fun h => (II.out.f14 (old (by decide) h)).keep kk, f15 := fun h => (II.out.f15 (old (by decide) h)).keep kk, f16 := fun h => (II.out.f16 (old (by decide) h)).keep kk, f17 := fun h => (II.out.f17 (old (by decide) h)).keep kk, f18 := fun h => (II.out.f18 (old (by decide) h)).keep kk, f19 := fun h => (II.out.f19 (old (by decide) h)).keep kk, f20 := fun h => II.out.f20 (old (by decide) h), f21 := fun h => II.out.f21 (old (by decide) h), f22 := fun h => II.out.f22 (old (by decide) h) }
            refine AllOps.cons ?_ ?_
            · intro hu hp K hK
              have p6 := hp 6 (of_decide_eq_true (by kernel_rfl))
              have q6 := II.out.f6 p6
              have p8 := hp 8 (of_decide_eq_true (by kernel_rfl))
              have q8 := II.out.f8 p8
              clear hp
              have HU := Lib.hid hu
              clear hu
              subst q6
              subst q8
              rw [if_pos (by rfl)]
              go_simp
              refine hK.out _ _ ⟨s4, s60, s61, s62, s63, s64, s65, (.bool true), s67, (.bool true), (.bool true), s70, s71, s72, s73, s74, s75, s76, s77, s78, s79, s80, s81, rfl, ?_⟩
              exact { base := II.out.base, f0 := fun h => II.out.f0 (old (by decide) h), f1 := fun h => II.out.f1 (old (by decide) h), f2 := fun h => II.out.f2 (old (by decide) h), f3 := fun h => II.out.f3 (old (by decide) h), f4 := fun h => II.out.f4 (old (by decide) h), f5 := fun h => II.out.f5 (old (by decide) h), f6 := fun h => II.out.f6 (old (by decide) h), f7 := fun h => II.out.f7 (old (by decide) h), f8 := fun h => II.out.f8 (old (by decide) h), f9 := fun _ => rfl, f10 := fun h => II.out.f10 (old (by decide) h), f11 := fun h => II.out.f11 (old (by decide) h), f12 := fun h => II.out.f12 (old (by decide) h), f13 := fun h => II.out.f13 (old (by decide) h), f14 := fun h => II.out.f14 (old (by decide) h), f15 := fun h => II.out.f15 (old (by decide) h), f16 := fun h => II.out.f16 (old (by decide) h), f17 := fun h => II.out.f17 (old (by decide) h), f18 := fun h => II.out.f18 (old (by decide) h), f19 := fun h => II.out.f19 (old (by decide) h), f20 := fun h => II.out.f20 (old (by decide) h), f21 := fun h => II.out.f21 (old (by decide) h), f22 := fun h => II.out.f22 (old (by decide) h) }
            refine AllOps.cons ?_ ?_
            · intro hu hp K hK
              have p9 := hp 9 (of_decide_eq_true (by kernel_rfl))
              have q9 := II.out.f9 p9
              clear hp
              have HU := Lib.hid hu
              clear hu
              subst q9
              rw [if_pos (by rfl)]
              go_simp
              refine hK.out _ _ ⟨s4, s60, s61, s62, s63, s64, s65, s66, s67, s68, (.bool true), (.bool true), s71, s72, s73, s74, s75, s76, s77, s78, s79, s80, s81, rfl, ?_⟩
              exact { base := II.out.base, f0 := fun h => II.out.f0 (old (by decide) h), f1 := fun h => II.out.f1 (old (by decide) h), f2 := fun h => II.out.f2 (old (by decide) h), f3 := fun h => II.out.f3 (old (by decide) h), f4 := fun h => II.out.f4 (old (by decide) h), f5 := fun h => II.out.f5 (old (by decide) h), f6 := fun h => II.out.f6 (old (by decide) h), f7 := fun h => II.out.f7 (old (by decide) h), f8 := fun h => II.out.f8 (old (by decide) h), f9 := fun h => II.out.f9 (old (by decide) h), f10 := fun _ => rfl, f11 := fun h => II.out.f11 (old (by decide) h), f12 := fun h => II.out.f12 (old (by decide) h), f13 := fun h => II.out.f13 (old (by decide) h), f14 := fun h => II.out.f14 (old (by decide) h), f15 := fun h => II.out.f15 (old (by decide) h), f16 := fun h => II.out.f16 (old (by decide) h), f17 := fun h => II.out.f17 (old (by decide) h), f18 := fun h => II.out.f18 (old (by decide) h), f19 := fun h => II.out.f19 (old (by decide) h), f20 := fun h => II.out.f20 (old (by decide) h), f21 := fun h => II.out.f21 (old (by decide) h), f22 := fun h => II.out.f22 (old (by decide) h) }
            refine AllOps.cons ?_ ?_
            · intro hu hp K hK
              have p10 := hp 10 (of_decide_eq_true (by kernel_rfl))
              have q10 := II.out.f10 p10
              clear hp
              have HU := Lib.hid hu
              clear hu
              subst q10
              rw [if_pos (by rfl)]
              go_simp
              refine hK.out _ _ ⟨s4, s60, s61, s62, s63, s64, s65, s66, s67, s68, s69, (.bool true), (.bool true), s72, s73, s74, s75, s76, s77, s78, s79, s80, s81, rfl, ?_⟩
              exact { base := II.out.base, f0 := fun h => II.out.f0 (old (by decide) h), f1 := fun h => II.out.f1 (old (by decide) h), f2 := fun h => II.out.f2 (old (by decide) h), f3 := fun h => II.out.f3 (old (by decide) h), f4 := fun h => II.out.f4 (old (by decide) h), f5 := fun h => II.out.f5 (old (by decide) h), f6 := fun h => II.out.f6 (old (by decide) h), f7 := fun h => II.out.f7 (old (by decide) h), f8 := fun h => II.out.f8 (old (by decide) h), f9 := fun h => II.out.f9 (old (by decide) h), f10 := fun h => II.out.f10 (old (by decide) h), f11 := fun _ => rfl, f12 := fun h => II.out.f12 (old (by decide) h), f13 := fun h => II.out.f13 (old (by decide) h), f14 := fun h => II.out.f14 (old (by decide) h), f15 := fun h => II.out.f15 (old (by decide) h), f16 := fun h => II.out.f16 (old (by decide) h), f17 := fun h => II.out.f17 (old (by decide) h), f18 := fun h => II.out.f18 (old (by decide) h), f19 := fun h => II.out.f19 (old (by decide) h), f20 := fun h => II.out.f20 (old (by decide) h), f21 := fun h => II.out.f21 (old (by decide) h), f22 := fun h => II.out.f22 (old (by decide) h) }
            refine AllOps.cons ?_ ?_
            · intro hu hp K hK
              have p10 := hp 10 (of_decide_eq_true (by kernel_rfl))
              have q10 := II.out.f10 p10
              have p11 := hp 11 (of_decide_eq_true (by kernel_rfl))
              have q11 := II.out.f11 p11
              clear hp
              have HU := Lib.hid hu
              clear hu
              subst q10
              subst q11
              rw [if_pos (by rfl)]
              go_simp
              refine hK.out _ _ ⟨s4, s60, s61, s62, s63, s64, s65, s66, s67, s68, s69, (.bool true), (.bool true), (.bool true), s73, s74, s75, s76, s77, s78, s79, s80, s81, rfl, ?_⟩
              exact { base := II.out.base, f0 := fun h => II.out.f0 (old (by decide) h), f1 := fun h => II.out.f1 (old (by decide) h), f2 := fun h => II.out.f2 (old (by decide) h), f3 := fun h => II.out.f3 (old (by decide) h), f4 := fun h => II.out.f4 (old (by decide) h), f5 := fun h => II.out.f5 (old (by decide) h), f6 := fun h => II.out.f6 (old (by decide) h), f7 := fun h => II.out.f7 (old (by decide) h), f8 := fun h => II.out.f8 (old (by decide) h), f9 := fun h => II.out.f9 (old (by decide) h), f10 := fun h => II.out.f10 (old (by decide) h), f11 := fun h => II.out.f11 (old (by decide) h), f12 := fun _ => rfl, f13 := fun h => II.out.f13 (old (by decide) h), f14 := fun h => II.out.f14 (old (by decide) h), f15 := fun h => II.out.f15 (old (by decide) h), f16 := fun h => II.out.f16 (old (by decide) h), f17 := fun h => II.out.f17 (old (by decide) h), f18 := fun h => II.out.f18 (old (by decide) h), f19 := fun h => II.out.f19 (old (by decide) h), f20 := fun h => II.out.f20 (old (by decide) h), f21 := fun h => II.out.f21 (old (by decide) h), f22 := fun h => II.out.f22 (old (by decide) h) }
            refine AllOps.cons ?_ ?_
            · intro hu hp K hK
              have p12 := hp 12 (of_decide_eq_true (by kernel_rfl))
              have q12 := II.out.f12 p12
              clear hp
              have HU := Lib.hid hu
              clear hu
              subst q12
              rw [if_pos (by rfl)]
              go_simp
              refine hK.out _ _ ⟨s4, s60, s61, s62, s63, s64, s65, s66, s67, s68, s69, s70, s71, (.bool true), (.bool true), s74, s75, s76, s77, s78, s79, s80, s81, rfl, ?_⟩
              exact { base := II.out.base, f0 := fun h => II.out.f0 (old (by decide) h), f1 := fun h => II.out.f1 (old (by decide) h), f2 := fun h => II.out.f2 (old (by decide) h), f3 := fun h => II.out.f3 (old (by decide) h), f4 := fun h => II.out.f4 (old (by decide) h), f5 := fun h => II.out.f5 (old (by decide) h), f6 := fun h => II.out.f6 (old (by decide) h), f7 := fun h => II.out.f7 (old (by decide) h), f8 := fun h => II.out.f8 (old (by decide) h), f9 := fun h => II.out.f9 (old (by decide) h), f10 := fun h => II.out.f10 (old (by decide) h), f11 := fun h => II.out.f11 (old (by decide) h), f12 := fun h => II.out.f12 (old (by decide) h), f13 := fun _ => rfl, f14 := fun h => II.out.f14 (old (by decide) h), f15 := fun h => II.out.f15 (old (by decide) h), f16 := fun h => II.out.f16 (old (by decide) h), f17 := fun h => II.out.f17 (old (by decide) h), f18 := fun h => II.out.f18 (old (by decide) h), f19 := fun h => II.out.f19 (old (by decide) h), f20 := fun h => II.out.f20 (old (by decide) h), f21 := fun h => II.out.f21 (old (by decide) h), f22 := fun h => II.out.f22 (old (by decide) h) }
            refine AllOps.cons ?_ ?_
            · intro hu hp K hK
              have p13 := hp 13 (of_decide_eq_true (by kernel_rfl))
              have q13 := II.out.f13 p13
              clear hp
              have HU := Lib.hid hu
              clear hu
              subst q13
              have x0x := II.out.base.cell x0
              have x1x := II.out.base.cell x1
              rw [if_pos (by rfl)]
              go_simp
              refine hK.out _ _ ⟨s4, s60, s61, s62, s63, s64, s65, s66, s67, s68, s69, s70, s71, s72, (.bool true), _, s75, s76, s77, s78, s79, s80, s81, rfl, ?_⟩
              exact { base := II.out.base, f0 := fun h => II.out.f0 (old (by decide) h), f1 := fun h => II.out.f1 (old (by decide) h), f2 := fun h => II.out.f2 (old (by decide) h), f3 := fun h => II.out.f3 (old (by decide) h), f4 := fun h => II.out.f4 (old (by decide) h), f5 := fun h => II.out.f5 (old (by decide) h), f6 := fun h => II.out.f6 (old (by decide) h), f7 := fun h => II.out.f7 (old (by decide) h), f8 := fun h => II.out.f8 (old (by decide) h), f9 := fun h => II.out.f9 (old (by decide) h), f10 := fun h => II.out.f10 (old (by decide) h), f11 := fun h => II.out.f11 (old (by decide) h), f12 := fun h => II.out.f12 (old (by decide) h), f13 := fun h => II.out.f13 (old (by decide) h), f14 := fun _ => (i5.ext II.out.base), f15 := fun h => II.out.f15 (old (by decide) h), f16 := fun h => II.out.f16 (old (by decide) h), f17 := fun h => II.out.f17 (old (by decide) h), f18 := fun h => II.out.f18 (old (by decide) h), f19 := fun h => II.out.f19 (old (by decide) h), f20 := fun h => II.out.f20 (old (by decide) h), f21 := fun h => II.out.f21 (old (by decide) h), f22 := fun h => II.out.f22 (old (by decide) h) }
            refine AllOps.cons ?_ ?_
            · intro hu hp K hK
              have p13 := hp 13 (of_decide_eq_true (by kernel_rfl))
              have q13 := II.out.f13 p13
              clear hp
              have HU := Lib.hid hu
              clear hu
              subst q13
              have d0x := II.out.base.cell d0
              have d1x := II.out.base.cell d1
              rw [if_pos (by rfl)]
              go_simp
              refine hK.out _ _ ⟨s4, s60, s61, s62, s63, s64, s65, s66, s67, s68, s69, s70, s71, s72, (.bool true), s74, _, s76, s77, s78, s79, s80, s81, rfl, ?_⟩
              exact { base := II.out.base, f0 := fun h => II.out.f0 (old (by decide) h), f1 := fun h => II.out.f1 (old (by decide) h), f2 := fun h => II.out.f2 (old (by decide) h), f3 := fun h => II.out.f3 (old (by decide) h), f4 := fun h => II.out.f4 (old (by decide) h), f5 := fun h => II.out.f5 (old (by decide) h), f6 := fun h => II.out.f6 (old (by decide) h), f7 := fun h => II.out.f7 (old (by decide) h), f8 := fun h => II.out.f8 (old (by decide) h), f9 := fun h => II.out.f9 (old (by decide) h), f10 := fun h => II.out.f10 (old (by decide) h), f11 := fun h => II.out.f11 (old (by decide) h), f12 := fun h => II.out.f12 (old (by decide) h), f13 := fun h => II.out.f13 (old (by decide) h), f14 := fun h => II.out.f14 (old (by decide) h), f15 := fun _ => (j2.ext II.out.base), f16 := fun h => II.out.f16 (old (by decide) h), f17 := fun h => II.out.f17 (old (by decide) h), f18 := fun h => II.out.f18 (old (by decide) h), f19 := fun h => II.out.f19 (old (by decide) h), f20 := fun h => II.out.f20 (old (by decide) h), f21 := fun h => II.out.f21 (old (by decide) h), f22 := fun h => II.out.f22 (old (by decide) h) }
            refine AllOps.cons ?_ ?_
            · intro hu hp K hK
              have p13 := hp 13 (of_decide_eq_true (by kernel_rfl))
              have q13 := II.out.f13 p13
              have p14 := hp 14 (of_decide_eq_true (by kernel_rfl))
              have q14 := II.out.f14 p14
              have p15 := hp 15 (of_decide_eq_true (by kernel_rfl))
              have q15 := II.out.f15 p15
              clear hp
              have HU := Lib.hid hu
              clear hu
              subst q13
              have HC := Lib.hid (rmul_calls w' s74 s75 (q) (z2) q14 q15 HSm.out.1 HSm.out.2.1)
              rw [if_pos (by rfl)]
              go_simp
              go_at_call 32
              refine HC.out.mono ?_
              rintro e wx ⟨vv, rfl, hv, ex⟩
              go_wp2_with fail
              have kk := Keep.of ex II.out.base.size
              refine hK.out _ _ ⟨s4, s60, s61, s62, s63, s64, s65, s66, s67, s68, s69, s70, s71, s72, (.bool true), s74, s75, vv, s77, s78, s79, s80, s81, rfl, ?_⟩
              exact { base := II.out.base.trans ex, f0 := fun h => II.out.f0 (old (by decide) h), f1 := fun h => II.out.f1 (old (by decide) h), f2 := fun h => II.out.f2 (old (by decide) h), f3 := fun h => (II.out.f3 (old (by decide) h)).keep kk, f4 := fun h => II.out.f4 (old (by decide) h), f5 := fun h => II.out.f5 (old (by decide) h), f6 := fun h => II.out.f6 (old (by decide) h), f7 := fun h => (II.out.f7 (old (by decide) h)).keep kk, f8 := fun h => II.out.f8 (old (by decide) h), f9 := fun h => II.out.f9 (old (by decide) h), f10 := fun h => II.out.f10 (old (by decide) h), f11 := fun h => II.out.f11 (old (by decide) h), f12 := fun h => II.out.f12 (old (by decide) h), f13 := fun h => II.out.f13 (old (by decide) h), f14 := fun h => (II.out.f14 (old (by decide) h)).keep kk, f15 := fun h => (II.out.f15 (old (by decide) h)).keep kk, f16 := fun _ => hv, f17 := fun h => (II.out.f17 (old (by decide) h)).keep kk, f18 := fun h => (II.out.f18 (old (by decide) h)).keep kk, f19 := fun h => (II.out.f19 (old (by decide) h)).keep kk, f20 := fun h => II.out.f20 (old (by decide) h), f21 := fun h => II.out.f21 (old (by decide) h), f22 := fun h => II.out.f22 (old (by decide) h) }
            refine AllOps.cons ?_ ?_
            · intro hu hp K hK
              have p13 := hp 13 (of_decide_eq_true (by kernel_rfl))
              have q13 := II.out.f13 p13
              clear hp
              have HU := Lib.hid hu
              clear hu
              subst q13
              have y0x := II.out.base.cell y0
              have y1x := II.out.base.cell y1
              rw [if_pos (by rfl)]
              go_simp
              refine hK.out _ _ ⟨s4, s60, s61, s62, s63, s64, s65, s66, s67, s68, s69, s70, s71, s72, (.bool true), s74, s75, s76, _, s78, s79, s80, s81, rfl, ?_⟩
              exact { base := II.out.base, f0 := fun h => II.out.f0 (old (by decide) h), f1 := fun h => II.out.f1 (old (by decide) h), f2 := fun h => II.out.f2 (old (by decide) h), f3 := fun h => II.out.f3 (old (by decide) h), f4 := fun h => II.out.f4 (old (by decide) h), f5 := fun h => II.out.f5 (old (by decide) h), f6 := fun h => II.out.f6 (old (by decide) h), f7 := fun h => II.out.f7 (old (by decide) h), f8 := fun h => II.out.f8 (old (by decide) h), f9 := fun h => II.out.f9 (old (by decide) h), f10 := fun h => II.out.f10 (old (by decide) h), f11 := fun h => II.out.f11 (old (by decide) h), f12 := fun h => II.out.f12 (old (by decide) h), f13 := fun h => II.out.f13 (old (by decide) h), f14 := fun h => II.out.f14 (old (by decide) h), f15 := fun h => II.out.f15 (old (by decide) h), f16 := fun h => II.out.f16 (old (by decide) h), f17 := fun _ => (i6.ext II.out.base), f18 := fun h => II.out.f18 (old (by decide) h), f19 := fun h => II.out.f19 (old (by decide) h), f20 := fun h => II.out.f20 (old (by decide) h), f21 := fun h => II.out.f21 (old (by decide) h), f22 := fun h => II.out.f22 (old (by decide) h) }
            refine AllOps.cons ?_ ?_
            · intro hu hp K hK
              have p13 := hp 13 (of_decide_eq_true (by kernel_rfl))
              have q13 := II.out.f13 p13
              have p16 := hp 16 (of_decide_eq_true (by kernel_rfl))
              have q16 := II.out.f16 p16
              have p17 := hp 17 (of_decide_eq_true (by kernel_rfl))
              have q17 := II.out.f17 p17
              clear hp
              have HU := Lib.hid hu
              clear hu
              subst q13
              have HC := Lib.hid (radd_calls w' s76 s77 ((q) * (z2)) (r) q16 q17 HSm.out.2.2.1 HSm.out.2.2.2)
              rw [if_pos (by rfl)]
              go_simp
              go_at_call 22
              refine HC.out.mono ?_
              rintro e wx ⟨vv, rfl, hv, ex⟩
              go_wp2_with fail
              have kk := Keep.of ex II.out.base.size
              refine hK.out _ _ ⟨s4, s60, s61, s62, s63, s64, s65, s66, s67, s68, s69, s70, s71, s72, (.bool true), s74, s75, s76, s77, vv, s79, s80, s81, rfl, ?_⟩
              exact { base := II.out.base.trans ex, f0 := fun h => II.out.f0 (old (by decide) h), f1 := fun h => II.out.f1 (old (by decide) h), f2 := fun h => II.out.f2 (old (by decide) h), f3 := fun h => (II.out.f3 (old (by decide) h)).keep kk, f4 := fun h => II.out.f4 (old (by decide) h), f5 := fun h => II.out.f5 (old (by decide) h), f6 := fun h => II.out.f6 (old (by decide) h), f7 := fun h => (II.out.f7 (old (by decide) h)).keep kk, f8 := fun h => II.out.f8 (old (by decide) h), f9 := fun h => II.out.f9 (old (by decide) h), f10 := fun h => II.out.f10 (old (by decide) h), f11 := fun h => II.out.f11 (old (by decide) h), f12 := fun h => II.out.f12 (old (by decide) h), f13 := fun h => II.out.f13 (old (by decide) h), f14 := fun h => (II.out.f14 (old (by decide) h)).keep kk, f15 := fun h => (II.out.f15 (old (by decide) h)).keep kk, f16 := fun h => (II.out.f16 (old (by decide) h)).keep kk, f17 := fun h => (II.out.f17 (old (by decide) h)).keep kk, f18 := fun _ => hv, f19 := fun h => (II.out.f19 (old (by decide) h)).keep kk, f20 := fun h => II.out.f20 (old (by decide) h), f21 := fun h => II.out.f21 (old (by decide) h), f22 := fun h => II.out.f22 (old (by decide) h) }
            refine AllOps.cons ?_ ?_
            · intro hu hp K hK
              have p13 := hp 13 (of_decide_eq_true (by kernel_rfl))
              have q13 := II.out.f13 p13
              clear hp
              have HU := Lib.hid hu
              clear hu
              subst q13
              have c0x := II.out.base.cell c0
              have c1x := II.out.base.cell c1
              rw [if_pos (by rfl)]
              go_simp
              refine hK.out _ _ ⟨s4, s60, s61, s62, s63, s64, s65, s66, s67, s68, s69, s70, s71, s72, (.bool true), s74, s75, s76, s77, s78, _, s80, s81, rfl, ?_⟩
              exact { base := II.out.base, f0 := fun h => II.out.f0 (old (by decide) h), f1 := fun h => II.out.f1 (old (by decide) h), f2 := fun h => II.out.f2 (old (by decide) h), f3 := fun h => II.out.f3 (old (by decide) h), f4 := fun h => II.out.f4 (old (by decide) h), f5 := fun h => II.out.f5 (old (by decide) h), f6 := fun h => II.out.f6 (old (by decide) h), f7 := fun h => II.out.f7 (old (by decide) h), f8 := fun h => II.out.f8 (old (by decide) h), f9 := fun h => II.out.f9 (old (by decide) h), f10 := fun h => II.out.f10 (old (by decide) h), f11 := fun h => II.out.f11 (old (by decide) h), f12 := fun h => II.out.f12 (old (by decide) h), f13 := fun h => II.out.f13 (old (by decide) h), f14 := fun h => II.out.f14 (old (by decide) h), f15 := fun h => II.out.f15 (old (by decide) h), f16 := fun h => II.out.f16 (old (by decide) h), f17 := fun h => II.out.f17 (old (by decide) h), f18 := fun h => II.out.f18 (old (by decide) h), f19 := fun _ => (j1.ext II.out.base), f20 := fun h => II.out.f20 (old (by decide) h), f21 := fun h => II.out.f21 (old (by decide) h), f22 := fun h => II.out.f22 (old (by decide) h) }
            refine AllOps.cons ?_ ?_
            · intro hu hp K hK
              have p13 := hp 13 (of_decide_eq_true (by kernel_rfl))
              have q13 := II.out.f13 p13
              have p18 := hp 18 (of_decide_eq_true (by kernel_rfl))
              have q18 := II.out.f18 p18
              have p19 := hp 19 (of_decide_eq_true (by kernel_rfl))
              have q19 := II.out.f19 p19
              clear hp
              have HU := Lib.hid hu
              clear hu
              subst q13
              have HC := Lib.hid (same_true w' s78 s79 (z1) ((by rw [← HDD.out.1]; exact q18)) q19)
              rw [if_pos (by rfl)]
              go_simp
              go_at_call 19
              refine HC.out.mono ?_
              rintro e wx ⟨rfl, ex⟩
              go_wp2_with fail
              have kk := Keep.of ex II.out.base.size
              refine hK.out _ _ ⟨s4, s60, s61, s62, s63, s64, s65, s66, s67, s68, s69, s70, s71, s72, (.bool true), s74, s75, s76, s77, s78, s79, (.bool true), s81, rfl, ?_⟩
              exact { base := II.out.base.trans ex, f0 := fun h => II.out.f0 (old (by decide) h), f1 := fun h => II.out.f1 (old (by decide) h), f2 := fun h => II.out.f2 (old (by decide) h), f3 := fun h => (II.out.f3 (old (by decide) h)).keep kk, f4 := fun h => II.out.f4 (old (by decide) h), f5 := fun h => II.out.f5 (old (by decide) h), f6 := fun h => II.out.f6 (old (by decide) h), f7 := fun h => (II.out.f7 (old (by decide) h)).keep kk, f8 := fun h => II.out.f8 (old (by decide) h), f9 := fun h => II.out.f9 (old (by decide) h), f10 := fun h => II.out.f10 (old (by decide) h), f11 := fun h => II.out.f11 (old (by decide) h), f12 := fun h => II.out.f12 (old (by decide) h), f13 := fun h => II.out.f13 (old (by decide) h), f14 := fun h => (II.out.f14 (old (by decide) h)).keep kk, f15 := fun h => (II.out.f15 (old (by decide) h)).keep kk, f16 := fun h => (II.out.f16 (old (by decide) h)).keep kk, f17 := fun h => (II.out.f17 (old (by decide) h)).keep kk, f18 := fun h => (II.out.f18 (old (by decide) h)).keep kk, f19 := fun h => (II.out.f19 (old (by decide) h)).keep kk, f20 := fun _ => rfl, f21 := fun h => II.out.f21 (old (by decide) h), f22 := fun h => II.out.f22 (old (by decide) h) }
            refine AllOps.cons ?_ ?_
            · intro hu hp K hK
              have p13 := hp 13 (of_decide_eq_true (by kernel_rfl))
              have q13 := II.out.f13 p13
              have p20 := hp 20 (of_decide_eq_true (by kernel_rfl))
              have q20 := II.out.f20 p20
              clear hp
              have HU := Lib.hid hu
              clear hu
              subst q13
              subst q20
              rw [if_pos (by rfl)]
              go_simp
              refine hK.out _ _ ⟨s4, s60, s61, s62, s63, s64, s65, s66, s67, s68, s69, s70, s71, s72, (.bool true), s74, s75, s76, s77, s78, s79, (.bool true), (.bool true), rfl, ?_⟩
              exact { base := II.out.base, f0 := fun h => II.out.f0 (old (by decide) h), f1 := fun h => II.out.f1 (old (by decide) h), f2 := fun h => II.out.f2 (old (by decide) h), f3 := fun h => II.out.f3 (old (by decide) h), f4 := fun h => II.out.f4 (old (by decide) h), f5 := fun h => II.out.f5 (old (by decide) h), f6 := fun h => II.out.f6 (old (by decide) h), f7 := fun h => II.out.f7 (old (by decide) h), f8 := fun h => II.out.f8 (old (by decide) h), f9 := fun h => II.out.f9 (old (by decide) h), f10 := fun h => II.out.f10 (old (by decide) h), f11 := fun h => II.out.f11 (old (by decide) h), f12 := fun h => II.out.f12 (old (by decide) h), f13 := fun h => II.out.f13 (old (by decide) h), f14 := fun h => II.out.f14 (old (by decide) h), f15 := fun h => II.out.f15 (old (by decide) h), f16 := fun h => II.out.f16 (old (by decide) h), f17 := fun h => II.out.f17 (old (by decide) h), f18 := fun h => II.out.f18 (old (by decide) h), f19 := fun h => II.out.f19 (old (by decide) h), f20 := fun h => II.out.f20 (old (by decide) h), f21 := fun _ => rfl, f22 := fun h => II.out.f22 (old (by decide) h) }
            refine AllOps.cons ?_ ?_
            · intro hu hp K hK
              have p21 := hp 21 (of_decide_eq_true (by kernel_rfl))
              have q21 := II.out.f21 p21
              clear hp
              have HU := Lib.hid hu
              clear hu
              subst q21
              rw [if_pos (by rfl)]
              go_simp
              refine hK.out _ _ ⟨(.bool true), s60, s61, s62, s63, s64, s65, s66, s67, s68, s69, s70, s71, s72, s73, s74, s75, s76, s77, s78, s79, s80, (.bool true), rfl, ?_⟩
              exact { base := II.out.base, f0 := fun h => II.out.f0 (old (by decide) h), f1 := fun h => II.out.f1 (old (by decide) h), f2 := fun h => II.out.f2 (old (by decide) h), f3 := fun h => II.out.f3 (old (by decide) h), f4 := fun h => II.out.f4 (old (by decide) h), f5 := fun h => II.out.f5 (old (by decide) h), f6 := fun h => II.out.f6 (old (by decide) h), f7 := fun h => II.out.f7 (old (by decide) h), f8 := fun h => II.out.f8 (old (by decide) h), f9 := fun h => II.out.f9 (old (by decide) h), f10 := fun h => II.out.f10 (old (by decide) h), f11 := fun h => II.out.f11 (old (by decide) h), f12 := fun h => II.out.f12 (old (by decide) h), f13 := fun h => II.out.f13 (old (by decide) h), f14 := fun h => II.out.f14 (old (by decide) h), f15 := fun h => II.out.f15 (old (by decide) h), f16 := fun h => II.out.f16 (old (by decide) h), f17 := fun h => II.out.f17 (old (by decide) h), f18 := fun h => II.out.f18 (old (by decide) h), f19 := fun h => II.out.f19 (old (by decide) h), f20 := fun h => II.out.f20 (old (by decide) h), f21 := fun h => II.out.f21 (old (by decide) h), f22 := fun _ => rfl }
            exact AllOps.nil
          case he =>
            rintro l _ w' hall ⟨s4, s60, s61, s62, s63, s64, s65, s66, s67, s68, s69, s70, s71, s72, s73, s74, s75, s76, s77, s78, s79, s80, s81, rfl, I⟩
            have q22 := I.f22 (hall 22 (by decide))
            have e1 := I.base
            clear I hall
            simp only [setAll, Act.put, List.setIfInBounds_toArray, List.set_cons_zero, List.set_cons_succ]
            obtain rfl := q22
            go_wp2_with fail
            go_ret
            exact ⟨rfl, eW.trans e1⟩

end Go.Proofs.Ytfjaboolfjgleaa
