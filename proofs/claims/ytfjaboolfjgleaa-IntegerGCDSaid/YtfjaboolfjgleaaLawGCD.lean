/-
  What the statement on the greatest common divisor does when it is called.
-/
import Derived.Test.YtfjaboolfjgleaaGcd
import Derived.Test.YtfjaboolfjgleaaRgcd
import Derived.Test.YtfjaboolfjgleaaLawDivMod
namespace Go.Proofs.Ytfjaboolfjgleaa
open Go.RowKit

theorem cpz_calls (w : World) (v : Value) (z : Int) (h : IsInt w v z) (l : Sm z) : Calls Try.prog 13 #[v] w (Ret (fun v' w' => IsInt w' v' z) w) := by
  obtain ⟨ao, cap, s, n, rfl, h1, h2, h3, H4, H5, H6⟩ := h.open_
  obtain ⟨k1, k2⟩ := isInt_raw h1 h2 h3 H6.out
  have hz : sgn s (val (limbs n)) = z := by rw [val_limbs]; exact H5.out.symm
  refine (cp_calls w _ s (limbs n) k1 (by unfold Sm at l; rw [← H4.out] at l; exact l)).mono ?_
  rintro e w' ⟨vv, rfl, hv, ex⟩
  refine ⟨vv, rfl, ?_, ex⟩
  rw [← hz]
  exact (okB_int hv k2).1
theorem dvd_dr {x g : Int} (h : g ∣ x) (hg : g ≠ 0) : dr x g = 0 ∧ dq x g * g = x := by
  have h0 : dr x g = 0 := by
    unfold dr; rw [if_neg hg]; exact Int.fmod_eq_zero_of_dvd h
  have := (dq_dr (a := x) hg).1
  rw [h0, Int.add_zero] at this
  exact ⟨h0, this⟩
/-- The greatest common divisor: what the statement asks of it. -/
theorem gcd_facts (x y : Int) (h : ((Nat.gcd x.natAbs y.natAbs : Nat) : Int) ≠ 0) :
    dr x (Nat.gcd x.natAbs y.natAbs : Nat) = 0 ∧ dr y (Nat.gcd x.natAbs y.natAbs : Nat) = 0 ∧ ((Nat.gcd (dq x (Nat.gcd x.natAbs y.natAbs : Nat)).natAbs (dq y (Nat.gcd x.natAbs y.natAbs : Nat)).natAbs : Nat) : Int) = 1 := by
  obtain ⟨a1, a2⟩ := dvd_dr (Int.ofNat_dvd_left.2 (Nat.gcd_dvd_left x.natAbs y.natAbs)) h
  obtain ⟨b1, b2⟩ := dvd_dr (Int.ofNat_dvd_left.2 (Nat.gcd_dvd_right x.natAbs y.natAbs)) h
  refine ⟨a1, b1, ?_⟩
  have a3 := congrArg Int.natAbs a2
  have b3 := congrArg Int.natAbs b2
  rw [Int.natAbs_mul, Int.natAbs_natCast] at a3 b3
  have hp : 0 < Nat.gcd x.natAbs y.natAbs := by omega
  generalize hg : Nat.gcd x.natAbs y.natAbs = g at *
  generalize (dq x g).natAbs = p at *
  generalize (dq y g).natAbs = q at *
  have : Nat.gcd (p * g) (q * g) = g := by rw [a3, b3]; exact hg
  rw [Nat.gcd_mul_right] at this
  have h1 : Nat.gcd p q * g = 1 * g := by omega
  rw [Nat.eq_of_mul_eq_mul_right hp h1]
  rfl
theorem gcd_zero {x y : Int} (h : ((Nat.gcd x.natAbs y.natAbs : Nat) : Int) = 0) : x = 0 ∧ y = 0 := by
  have : Nat.gcd x.natAbs y.natAbs = 0 := by omega
  obtain ⟨h1, h2⟩ := Nat.gcd_eq_zero_iff.1 this
  omega
theorem gcd_le {x y : Int} (k : Nat) (hx : Lim k x) (hy : Lim k y) : Lim k ((Nat.gcd x.natAbs y.natAbs : Nat) : Int) := by
  by_cases h : x = 0
  · subst h
    refine hy.natAbs_le ?_
    rw [show (0 : Int).natAbs = 0 from rfl, Nat.gcd_zero_left]
    simp
  · refine hx.natAbs_le ?_
    rw [Int.natAbs_natCast]
    exact Nat.gcd_le_left _ (by omega)
/-- The head's numbers: at most six limbs, and canonical. -/
theorem small6 {w : World} {v : Value} {s : Bool} {xs : List Nat} (h : Raw w v s xs) (hb : (decide (xs.length ≤ 6) && okB s xs) = true) : IsInt w v (sgn s (val xs)) ∧ Lim 6 (sgn s (val xs)) := by
  rw [Bool.and_eq_true, decide_eq_true_iff] at hb
  obtain ⟨h1, h2⟩ := okB_int h hb.2
  refine ⟨h1, ?_⟩
  unfold Lim
  rw [natAbs_sgn, h2]
  exact hb.1
/-- Two new variables that hold two integers. -/
theorem box_two {a w : World} {s s' : Bool} {ao ao' : Option Addr} {n n' c c' : Nat} {q r : Int} {t : TypeId} (E : Ext a w) (h : IsInt w (.agg #[.bool s, .slice ao n c]) q) (k : IsInt w (.agg #[.bool s', .slice ao' n' c']) r) :
    Ext a ((w.alloc (.cells #[.bool s, .slice ao n c] t)).alloc (.cells #[.bool s', .slice ao' n' c'] t)) ∧
      BoxInt ((w.alloc (.cells #[.bool s, .slice ao n c] t)).alloc (.cells #[.bool s', .slice ao' n' c'] t)) (.pointer (some ⟨w.heap.size, 0, none⟩)) q ∧
      BoxInt ((w.alloc (.cells #[.bool s, .slice ao n c] t)).alloc (.cells #[.bool s', .slice ao' n' c'] t)) (.pointer (some ⟨w.heap.size + 1, 0, none⟩)) r := by
  have e1 := (Ext.refl w).alloc (.cells #[.bool s, .slice ao n c] t)
  have e2 := (Ext.refl (w.alloc (.cells #[.bool s, .slice ao n c] t))).alloc (.cells #[.bool s', .slice ao' n' c'] t)
  have n1 := (struct_new w (.bool s) (.slice ao n c) t).ext e2
  have n2 := struct_new (w.alloc (.cells #[.bool s, .slice ao n c] t)) (.bool s') (.slice ao' n' c') t
  rw [World.size_alloc] at n2
  exact ⟨E.trans (e1.trans e2), ⟨_, _, _, _, _, rfl, n1.1, n1.2, h.ext (e1.trans e2)⟩, ⟨_, _, _, _, _, rfl, n2.1, n2.2, k.ext (e1.trans e2)⟩⟩

structure RegG3 (w4 : World) (z1 z2 z3 : Int) (l : Array Bool) (s7 s8 s34 s35 s36 s37 s38 s39 : Value) (w : World) : Prop where
  base : Ext w4 w
  f0 : l.getD 0 false = true → IsInt w s34 (z1)
  f1 : l.getD 1 false = true → IsInt w s35 (z3)
  f2 : l.getD 2 false = true → IsInt w s36 ((z1) * (z3))
  f3 : l.getD 3 false = true → IsInt w s37 (z2)
  f4 : l.getD 4 false = true → IsInt w s38 (z3)
  f5 : l.getD 5 false = true → IsInt w s39 ((z2) * (z3))
  f6 : l.getD 6 false = true → VarInt w4.heap.size w s7
  f7 : l.getD 7 false = true → VarInt w4.heap.size w s8
  c8 : l.getD 8 false = true → l.getD 6 false = true
  f8 : l.getD 8 false = true → BoxInt w s7 ((z1) * (z3))
  c9 : l.getD 9 false = true → l.getD 7 false = true
  f9 : l.getD 9 false = true → BoxInt w s8 ((z2) * (z3))
  n6_7 : l.getD 6 false = true → l.getD 7 false = true → s7 ≠ s8

structure RegG4 (w5 : World) (x y : Int) (l : Array Bool) (s9 s40 s41 s42 s43 s44 : Value) (w : World) : Prop where
  base : Ext w5 w
  f0 : l.getD 0 false = true → IsInt w s40 (x)
  f1 : l.getD 1 false = true → IsInt w s41 (x)
  f2 : l.getD 2 false = true → IsInt w s42 (y)
  f3 : l.getD 3 false = true → IsInt w s43 (y)
  f4 : l.getD 4 false = true → IsInt w s44 (((Nat.gcd (x).natAbs (y).natAbs : Nat) : Int))
  f5 : l.getD 5 false = true → VarInt w5.heap.size w s9
  c6 : l.getD 6 false = true → l.getD 5 false = true
  f6 : l.getD 6 false = true → BoxInt w s9 (((Nat.gcd (x).natAbs (y).natAbs : Nat) : Int))

structure RegG5a (w6 : World) (l : Array Bool) (s45 s46 s47 s48 s49 s50 s51 s52 s53 s54 s55 : Value) (w : World) : Prop where
  base : Ext w6 w
  f0 : l.getD 0 false = true → IsInt w s45 ((0 : Int))
  f1 : l.getD 1 false = true → IsInt w s46 ((0 : Int))
  f2 : l.getD 2 false = true → IsInt w s47 ((0 : Int))
  f3 : l.getD 3 false = true → IsInt w s48 (((Nat.gcd ((0 : Int)).natAbs ((0 : Int)).natAbs : Nat) : Int))
  f4 : l.getD 4 false = true → s49 = (.bool true)
  f5 : l.getD 5 false = true → s50 = (.bool false)
  f6 : l.getD 6 false = true → s51 = (.bool false)
  f7 : l.getD 7 false = true → IsInt w s52 ((0 : Int))
  f8 : l.getD 8 false = true → s53 = (.int .i64 0)
  f9 : l.getD 9 false = true → s54 = (.bool true)
  f10 : l.getD 10 false = true → s55 = (.bool true)

structure RegG5b (w6 : World) (x y g : Int) (l : Array Bool) (s45 s46 s47 s48 s49 s50 s51 s52 s53 s54 s55 : Value) (w : World) : Prop where
  base : Ext w6 w
  f0 : l.getD 0 false = true → IsInt w s45 (g)
  f1 : l.getD 1 false = true → IsInt w s46 (x)
  f2 : l.getD 2 false = true → IsInt w s47 (y)
  f3 : l.getD 3 false = true → IsInt w s48 (((Nat.gcd (x).natAbs (y).natAbs : Nat) : Int))
  f4 : l.getD 4 false = true → s49 = (.bool true)
  f5 : l.getD 5 false = true → s50 = (.bool false)
  f6 : l.getD 6 false = true → s51 = (.bool false)
  f7 : l.getD 7 false = true → IsInt w s52 (g)
  f8 : l.getD 8 false = true → s53 = (.int .i64 1)
  f9 : l.getD 9 false = true → s54 = (.bool false)
  f10 : l.getD 10 false = true → s55 = (.bool false)

set_option maxRecDepth 100000 in
set_option maxHeartbeats 3200000 in
theorem lawGCD_calls (w : World) (v1 v2 v3 : Value) (s1 s2 s3 : Bool) (xs ys zs : List Nat) (h : Raw w v1 s1 xs) (k : Raw w v2 s2 ys) (l : Raw w v3 s3 zs) :
    Calls Try.prog 9 #[v1, v2, v3] w fun e w' => e = .returned (.bool true) ∧ Ext w w' := by
  have hR := h
  have kR := k
  have lR := l
  obtain ⟨a1, p1, rfl, h1, h2, h3⟩ := h
  obtain ⟨a2, p2, rfl, k1, k2, k3⟩ := k
  obtain ⟨a3, p3, rfl, l1, l2, l3⟩ := l
  obtain ⟨W, hW, eW, c0, c1, d0, d1, g0, g1⟩ := boxes3 w (.bool s1) (.slice a1 xs.length p1) (.bool s2) (.slice a2 ys.length p2) (.bool s3) (.slice a3 zs.length p3) 24
  clear h1 h2 h3 k1 k2 k3 l1 l2 l3
  go_enter Try.func9, Try.ntmps9
  go_wp2_with fail
  clear hW
  refine (awake_calls _).mono ?_
  rintro e w1 ⟨rfl, e1⟩
  have C : C6 w.heap.size (.bool s1) (.slice a1 xs.length p1) (.bool s2) (.slice a2 ys.length p2) (.bool s3) (.slice a3 zs.length p3) w1 := C6.ext ⟨c0, c1, d0, d1, g0, g1⟩ e1
  replace eW := eW.trans e1
  clear e1 c0 c1 d0 d1 g0 g1
  obtain ⟨c0, c1, d0, d1, g0, g1⟩ := C
  go_wp2_with fail
  refine (rsmall_calls _ _ s1 xs 6 (hR.ext eW)).mono ?_
  rintro e w2 ⟨rfl, e2⟩
  have C : C6 w.heap.size (.bool s1) (.slice a1 xs.length p1) (.bool s2) (.slice a2 ys.length p2) (.bool s3) (.slice a3 zs.length p3) w2 := C6.ext ⟨c0, c1, d0, d1, g0, g1⟩ e2
  replace eW := eW.trans e2
  clear e2 c0 c1 d0 d1 g0 g1
  cases hb1 : (decide (xs.length ≤ 6) && okB s1 xs)
  · clear hb1 C
    go_wp2_with fail
    refine (awake_calls _).mono ?_
    rintro e w3 ⟨rfl, e3⟩
    go_wp2
    go_ret
    exact ⟨rfl, eW.trans e3⟩
  have i1 := small6 hR hb1
  clear hb1 hR
  obtain ⟨c0, c1, d0, d1, g0, g1⟩ := C
  go_wp2_with fail
  refine (rsmall_calls _ _ s2 ys 6 (kR.ext eW)).mono ?_
  rintro e w3 ⟨rfl, e3⟩
  have C : C6 w.heap.size (.bool s1) (.slice a1 xs.length p1) (.bool s2) (.slice a2 ys.length p2) (.bool s3) (.slice a3 zs.length p3) w3 := C6.ext ⟨c0, c1, d0, d1, g0, g1⟩ e3
  replace eW := eW.trans e3
  clear e3 c0 c1 d0 d1 g0 g1
  cases hb1 : (decide (ys.length ≤ 6) && okB s2 ys)
  · clear hb1 C
    go_wp2_with fail
    refine (awake_calls _).mono ?_
    rintro e w3 ⟨rfl, e3⟩
    go_wp2
    go_ret
    exact ⟨rfl, eW.trans e3⟩
  have i2 := small6 kR hb1
  clear hb1 kR
  obtain ⟨c0, c1, d0, d1, g0, g1⟩ := C
  go_wp2_with fail
  refine (rsmall_calls _ _ s3 zs 6 (lR.ext eW)).mono ?_
  rintro e w4 ⟨rfl, e4⟩
  have C : C6 w.heap.size (.bool s1) (.slice a1 xs.length p1) (.bool s2) (.slice a2 ys.length p2) (.bool s3) (.slice a3 zs.length p3) w4 := C6.ext ⟨c0, c1, d0, d1, g0, g1⟩ e4
  replace eW := eW.trans e4
  clear e4 c0 c1 d0 d1 g0 g1
  cases hb1 : (decide (zs.length ≤ 6) && okB s3 zs)
  · clear hb1 C
    go_wp2_with fail
    refine (awake_calls _).mono ?_
    rintro e w3 ⟨rfl, e3⟩
    go_wp2
    go_ret
    exact ⟨rfl, eW.trans e3⟩
  have i3 := small6 lR hb1
  clear hb1 lR
  obtain ⟨c0, c1, d0, d1, g0, g1⟩ := C
  have j1 := i1.1.ext eW
  have j2 := i2.1.ext eW
  have j3 := i3.1.ext eW
  have HL := Lib.hid (And.intro i1.2 (And.intro i2.2 i3.2))
  clear i1 i2 i3
  generalize sgn s1 (val xs) = z1 at *
  generalize sgn s2 (val ys) = z2 at *
  generalize sgn s3 (val zs) = z3 at *
  go_upto_region 3 with fail
  go_cut [7, 8] (fun p q wx => Ext w4 wx ∧ BoxInt wx p (z1 * z3) ∧ BoxInt wx q (z2 * z3))
  case first =>
      refine wp_region_inv (fun a0 l a w' => ∃ s7 s8 s34 s35 s36 s37 s38 s39, a = setAll a0 [(7, s7), (8, s8), (34, s34), (35, s35), (36, s36), (37, s37), (38, s38), (39, s39)] ∧ RegG3 w4 z1 z2 z3 l s7 s8 s34 s35 s36 s37 s38 s39 w') (by kernel_rfl) (by kernel_rfl) 103 rfl ?h0 ?hs ?he
      case h0 =>
        intro a hn
        refine ⟨_, _, _, _, _, _, _, _, (setAll_self a 103 hn [7, 8, 34, 35, 36, 37, 38, 39] (by decide)).symm, ?_⟩
        exact { base := (Ext.refl _).drew, f0 := fun h => (none_yet h).elim, f1 := fun h => (none_yet h).elim, f2 := fun h => (none_yet h).elim, f3 := fun h => (none_yet h).elim, f4 := fun h => (none_yet h).elim, f5 := fun h => (none_yet h).elim, f6 := fun h => (none_yet h).elim, f7 := fun h => (none_yet h).elim, c8 := fun h => (none_yet h).elim, f8 := fun h => (none_yet h).elim, c9 := fun h => (none_yet h).elim, f9 := fun h => (none_yet h).elim, n6_7 := fun h => (none_yet h).elim }
      case hs =>
        rintro l _ w' ⟨s7, s8, s34, s35, s36, s37, s38, s39, rfl, I⟩
        have II := Lib.hid I
        clear I
        simp only [setAll, Act.put, List.setIfInBounds_toArray, List.set_cons_zero, List.set_cons_succ]
        refine AllOps.cons ?_ ?_
        · intro hu hp K hK
          clear hp
          have HU := Lib.hid hu
          clear hu
          have c0x := II.out.base.cell c0
          have c1x := II.out.base.cell c1
          rw [if_pos (by rfl)]
          go_simp
          refine hK.out _ _ ⟨s7, s8, _, s35, s36, s37, s38, s39, rfl, ?_⟩
          exact { base := II.out.base, f0 := fun _ => (j1.ext II.out.base), f1 := fun h => II.out.f1 (old (by decide) h), f2 := fun h => II.out.f2 (old (by decide) h), f3 := fun h => II.out.f3 (old (by decide) h), f4 := fun h => II.out.f4 (old (by decide) h), f5 := fun h => II.out.f5 (old (by decide) h), f6 := fun h => II.out.f6 (old (by decide) h), f7 := fun h => II.out.f7 (old (by decide) h), c8 := fun h => getD_set_true (II.out.c8 (old (by decide) h)), f8 := fun h => II.out.f8 (old (by decide) h), c9 := fun h => getD_set_true (II.out.c9 (old (by decide) h)), f9 := fun h => II.out.f9 (old (by decide) h), n6_7 := fun h k => II.out.n6_7 (old (by decide) h) (old (by decide) k) }
        refine AllOps.cons ?_ ?_
        · intro hu hp K hK
          clear hp
          have HU := Lib.hid hu
          clear hu
          have g0x := II.out.base.cell g0
          have g1x := II.out.base.cell g1
          rw [if_pos (by rfl)]
          go_simp
          refine hK.out _ _ ⟨s7, s8, s34, _, s36, s37, s38, s39, rfl, ?_⟩
          exact { base := II.out.base, f0 := fun h => II.out.f0 (old (by decide) h), f1 := fun _ => (j3.ext II.out.base), f2 := fun h => II.out.f2 (old (by decide) h), f3 := fun h => II.out.f3 (old (by decide) h), f4 := fun h => II.out.f4 (old (by decide) h), f5 := fun h => II.out.f5 (old (by decide) h), f6 := fun h => II.out.f6 (old (by decide) h), f7 := fun h => II.out.f7 (old (by decide) h), c8 := fun h => getD_set_true (II.out.c8 (old (by decide) h)), f8 := fun h => II.out.f8 (old (by decide) h), c9 := fun h => getD_set_true (II.out.c9 (old (by decide) h)), f9 := fun h => II.out.f9 (old (by decide) h), n6_7 := fun h k => II.out.n6_7 (old (by decide) h) (old (by decide) k) }
        refine AllOps.cons ?_ ?_
        · intro hu hp K hK
          have p0 := hp 0 (of_decide_eq_true (by kernel_rfl))
          have q0 := II.out.f0 p0
          have p1 := hp 1 (of_decide_eq_true (by kernel_rfl))
          have q1 := II.out.f1 p1
          clear hp
          have HU := Lib.hid hu
          clear hu
          have HC := Lib.hid (rmul_calls w' s34 s35 (z1) (z3) q0 q1 (HL.out.1.sm (by omega)) (HL.out.2.2.sm (by omega)))
          rw [if_pos (by rfl)]
          go_simp
          go_at_call 32
          refine HC.out.mono ?_
          rintro e wx ⟨vv, rfl, hv, ex⟩
          go_wp2_with fail
          have kk := Keep.of ex II.out.base.size
          refine hK.out _ _ ⟨s7, s8, s34, s35, vv, s37, s38, s39, rfl, ?_⟩
          exact { base := II.out.base.trans ex, f0 := fun h => (II.out.f0 (old (by decide) h)).keep kk, f1 := fun h => (II.out.f1 (old (by decide) h)).keep kk, f2 := fun _ => hv, f3 := fun h => (II.out.f3 (old (by decide) h)).keep kk, f4 := fun h => (II.out.f4 (old (by decide) h)).keep kk, f5 := fun h => (II.out.f5 (old (by decide) h)).keep kk, f6 := fun h => (II.out.f6 (old (by decide) h)).keep kk, f7 := fun h => (II.out.f7 (old (by decide) h)).keep kk, c8 := fun h => getD_set_true (II.out.c8 (old (by decide) h)), f8 := fun h => (II.out.f8 (old (by decide) h)).ext ex, c9 := fun h => getD_set_true (II.out.c9 (old (by decide) h)), f9 := fun h => (II.out.f9 (old (by decide) h)).ext ex, n6_7 := fun h k => II.out.n6_7 (old (by decide) h) (old (by decide) k) }
        refine AllOps.cons ?_ ?_
        · intro hu hp K hK
          clear hp
          have HU := Lib.hid hu
          clear hu
          have d0x := II.out.base.cell d0
          have d1x := II.out.base.cell d1
          rw [if_pos (by rfl)]
          go_simp
          refine hK.out _ _ ⟨s7, s8, s34, s35, s36, _, s38, s39, rfl, ?_⟩
          exact { base := II.out.base, f0 := fun h => II.out.f0 (old (by decide) h), f1 := fun h => II.out.f1 (old (by decide) h), f2 := fun h => II.out.f2 (old (by decide) h), f3 := fun _ => (j2.ext II.out.base), f4 := fun h => II.out.f4 (old (by decide) h), f5 := fun h => II.out.f5 (old (by decide) h), f6 := fun h => II.out.f6 (old (by decide) h), f7 := fun h => II.out.f7 (old (by decide) h), c8 := fun h => getD_set_true (II.out.c8 (old (by decide) h)), f8 := fun h => II.out.f8 (old (by decide) h), c9 := fun h => getD_set_true (II.out.c9 (old (by decide) h)), f9 := fun h => II.out.f9 (old (by decide) h), n6_7 := fun h k => II.out.n6_7 (old (by decide) h) (old (by decide) k) }
        refine AllOps.cons ?_ ?_
        · intro hu hp K hK
          clear hp
          have HU := Lib.hid hu
          clear hu
          have g0x := II.out.base.cell g0
          have g1x := II.out.base.cell g1
          rw [if_pos (by rfl)]
          go_simp
          refine hK.out _ _ ⟨s7, s8, s34, s35, s36, s37, _, s39, rfl, ?_⟩
          exact { base := II.out.base, f0 := fun h => II.out.f0 (old (by decide) h), f1 := fun h => II.out.f1 (old (by decide) h), f2 := fun h => II.out.f2 (old (by decide) h), f3 := fun h => II.out.f3 (old (by decide) h), f4 := fun _ => (j3.ext II.out.base), f5 := fun h => II.out.f5 (old (by decide) h), f6 := fun h => II.out.f6 (old (by decide) h), f7 := fun h => II.out.f7 (old (by decide) h), c8 := fun h => getD_set_true (II.out.c8 (old (by decide) h)), f8 := fun h => II.out.f8 (old (by decide) h), c9 := fun h => getD_set_true (II.out.c9 (old (by decide) h)), f9 := fun h => II.out.f9 (old (by decide) h), n6_7 := fun h k => II.out.n6_7 (old (by decide) h) (old (by decide) k) }
        refine AllOps.cons ?_ ?_
        · intro hu hp K hK
          have p3 := hp 3 (of_decide_eq_true (by kernel_rfl))
          have q3 := II.out.f3 p3
          have p4 := hp 4 (of_decide_eq_true (by kernel_rfl))
          have q4 := II.out.f4 p4
          clear hp
          have HU := Lib.hid hu
          clear hu
          have HC := Lib.hid (rmul_calls w' s37 s38 (z2) (z3) q3 q4 (HL.out.2.1.sm (by omega)) (HL.out.2.2.sm (by omega)))
          rw [if_pos (by rfl)]
          go_simp
          go_at_call 32
          refine HC.out.mono ?_
          rintro e wx ⟨vv, rfl, hv, ex⟩
          go_wp2_with fail
          have kk := Keep.of ex II.out.base.size
          refine hK.out _ _ ⟨s7, s8, s34, s35, s36, s37, s38, vv, rfl, ?_⟩
          exact { base := II.out.base.trans ex, f0 := fun h => (II.out.f0 (old (by decide) h)).keep kk, f1 := fun h => (II.out.f1 (old (by decide) h)).keep kk, f2 := fun h => (II.out.f2 (old (by decide) h)).keep kk, f3 := fun h => (II.out.f3 (old (by decide) h)).keep kk, f4 := fun h => (II.out.f4 (old (by decide) h)).keep kk, f5 := fun _ => hv, f6 := fun h => (II.out.f6 (old (by decide) h)).keep kk, f7 := fun h => (II.out.f7 (old (by decide) h)).keep kk, c8 := fun h => getD_set_true (II.out.c8 (old (by decide) h)), f8 := fun h => (II.out.f8 (old (by decide) h)).ext ex, c9 := fun h => getD_set_true (II.out.c9 (old (by decide) h)), f9 := fun h => (II.out.f9 (old (by decide) h)).ext ex, n6_7 := fun h k => II.out.n6_7 (old (by decide) h) (old (by decide) k) }
        refine AllOps.cons ?_ ?_
        · intro hu hp K hK
          clear hp
          have HU := Lib.hid hu
          clear hu
          have ea := (Ext.refl w').alloc (.cells #[.bool false, .slice none 0 0] 24)
          rw [if_pos (by rfl)]
          go_simp
          have kk := Keep.of ea II.out.base.size
          refine hK.out _ _ ⟨(.pointer (some ⟨w'.heap.size, 0, none⟩)), s8, s34, s35, s36, s37, s38, s39, rfl, ?_⟩
          exact { base := II.out.base.trans ea, f0 := fun h => (II.out.f0 (old (by decide) h)).keep kk, f1 := fun h => (II.out.f1 (old (by decide) h)).keep kk, f2 := fun h => (II.out.f2 (old (by decide) h)).keep kk, f3 := fun h => (II.out.f3 (old (by decide) h)).keep kk, f4 := fun h => (II.out.f4 (old (by decide) h)).keep kk, f5 := fun h => (II.out.f5 (old (by decide) h)).keep kk, f6 := fun _ => varInt_new II.out.base.size 24, f7 := fun h => (II.out.f7 (old (by decide) h)).keep kk, c8 := fun h => getD_set_true (II.out.c8 (old (by decide) h)), f8 := fun h => absurd (II.out.c8 (old (by decide) h)) (by rw [HU.out]; simp), c9 := fun h => getD_set_true (II.out.c9 (old (by decide) h)), f9 := fun h => (II.out.f9 (old (by decide) h)).ext ea, n6_7 := fun _ k => ((II.out.f7 (old (by decide) k)).ne_new).symm }
        refine AllOps.cons ?_ ?_
        · intro hu hp K hK
          clear hp
          have HU := Lib.hid hu
          clear hu
          have ea := (Ext.refl w').alloc (.cells #[.bool false, .slice none 0 0] 24)
          rw [if_pos (by rfl)]
          go_simp
          have kk := Keep.of ea II.out.base.size
          refine hK.out _ _ ⟨s7, (.pointer (some ⟨w'.heap.size, 0, none⟩)), s34, s35, s36, s37, s38, s39, rfl, ?_⟩
          exact { base := II.out.base.trans ea, f0 := fun h => (II.out.f0 (old (by decide) h)).keep kk, f1 := fun h => (II.out.f1 (old (by decide) h)).keep kk, f2 := fun h => (II.out.f2 (old (by decide) h)).keep kk, f3 := fun h => (II.out.f3 (old (by decide) h)).keep kk, f4 := fun h => (II.out.f4 (old (by decide) h)).keep kk, f5 := fun h => (II.out.f5 (old (by decide) h)).keep kk, f6 := fun h => (II.out.f6 (old (by decide) h)).keep kk, f7 := fun _ => varInt_new II.out.base.size 24, c8 := fun h => getD_set_true (II.out.c8 (old (by decide) h)), f8 := fun h => (II.out.f8 (old (by decide) h)).ext ea, c9 := fun h => getD_set_true (II.out.c9 (old (by decide) h)), f9 := fun h => absurd (II.out.c9 (old (by decide) h)) (by rw [HU.out]; simp), n6_7 := fun k _ => (II.out.f6 (old (by decide) k)).ne_new }
        refine AllOps.cons ?_ ?_
        · intro hu hp K hK
          have p2 := hp 2 (of_decide_eq_true (by kernel_rfl))
          have q2 := II.out.f2 p2
          have p6 := hp 6 (of_decide_eq_true (by kernel_rfl))
          have q6 := II.out.f6 p6
          clear hp
          have HU := Lib.hid hu
          clear hu
          obtain ⟨b, rfl, hB, ⟨x0, g0⟩, ⟨y0, m0, d0, g1⟩, fr0, fr1⟩ := q6
          have hI := q2
          obtain ⟨ao1, cap1, s1, n1, rfl, _⟩ := q2.open_
          rw [if_pos (by rfl)]
          go_simp
          have kk := keep_put hB g0 g1 s1 ao1 (limbs n1).length cap1
          refine hK.out _ _ ⟨(.pointer (some ⟨b, 0, none⟩)), s8, s34, s35, (.agg #[.bool s1, .slice ao1 (limbs n1).length cap1]), s37, s38, s39, rfl, ?_⟩
          exact { base := (II.out.base.setCell (p := ⟨b, 0, none⟩) hB _).setCell (p := ⟨b, 1, none⟩) hB _, f0 := fun h => (II.out.f0 (old (by decide) h)).keep kk, f1 := fun h => (II.out.f1 (old (by decide) h)).keep kk, f2 := fun h => (II.out.f2 (old (by decide) h)).keep kk, f3 := fun h => (II.out.f3 (old (by decide) h)).keep kk, f4 := fun h => (II.out.f4 (old (by decide) h)).keep kk, f5 := fun h => (II.out.f5 (old (by decide) h)).keep kk, f6 := fun h => (II.out.f6 (old (by decide) h)).keep kk, f7 := fun h => (II.out.f7 (old (by decide) h)).keep kk, c8 := fun _ => getD_set_true p6, f8 := fun _ => boxInt_put g0 g1 hI, c9 := fun h => getD_set_true (II.out.c9 (old (by decide) h)), f9 := fun h => (II.out.f9 (old (by decide) h)).put ((II.out.n6_7 p6 (II.out.c9 (old (by decide) h))).symm) g0 g1 s1 ao1 (limbs n1).length cap1, n6_7 := fun h k => II.out.n6_7 (old (by decide) h) (old (by decide) k) }
        refine AllOps.cons ?_ ?_
        · intro hu hp K hK
          have p5 := hp 5 (of_decide_eq_true (by kernel_rfl))
          have q5 := II.out.f5 p5
          have p7 := hp 7 (of_decide_eq_true (by kernel_rfl))
          have q7 := II.out.f7 p7
          clear hp
          have HU := Lib.hid hu
          clear hu
          obtain ⟨b, rfl, hB, ⟨x0, g0⟩, ⟨y0, m0, d0, g1⟩, fr0, fr1⟩ := q7
          have hI := q5
          obtain ⟨ao1, cap1, s1, n1, rfl, _⟩ := q5.open_
          rw [if_pos (by rfl)]
          go_simp
          have kk := keep_put hB g0 g1 s1 ao1 (limbs n1).length cap1
          refine hK.out _ _ ⟨s7, (.pointer (some ⟨b, 0, none⟩)), s34, s35, s36, s37, s38, (.agg #[.bool s1, .slice ao1 (limbs n1).length cap1]), rfl, ?_⟩
          exact { base := (II.out.base.setCell (p := ⟨b, 0, none⟩) hB _).setCell (p := ⟨b, 1, none⟩) hB _, f0 := fun h => (II.out.f0 (old (by decide) h)).keep kk, f1 := fun h => (II.out.f1 (old (by decide) h)).keep kk, f2 := fun h => (II.out.f2 (old (by decide) h)).keep kk, f3 := fun h => (II.out.f3 (old (by decide) h)).keep kk, f4 := fun h => (II.out.f4 (old (by decide) h)).keep kk, f5 := fun h => (II.out.f5 (old (by decide) h)).keep kk, f6 := fun h => (II.out.f6 (old (by decide) h)).keep kk, f7 := fun h => (II.out.f7 (old (by decide) h)).keep kk, c8 := fun h => getD_set_true (II.out.c8 (old (by decide) h)), f8 := fun h => (II.out.f8 (old (by decide) h)).put (II.out.n6_7 (II.out.c8 (old (by decide) h)) p7) g0 g1 s1 ao1 (limbs n1).length cap1, c9 := fun _ => getD_set_true p7, f9 := fun _ => boxInt_put g0 g1 hI, n6_7 := fun h k => II.out.n6_7 (old (by decide) h) (old (by decide) k) }
        exact AllOps.nil
      case he =>
        rintro l _ w' hall ⟨s7, s8, s34, s35, s36, s37, s38, s39, rfl, I⟩
        have q8 := I.f8 (hall 8 (by decide))
        have q9 := I.f9 (hall 9 (by decide))
        have e1 := I.base
        clear I hall
        simp only [setAll, Act.put, List.setIfInBounds_toArray, List.set_cons_zero, List.set_cons_succ]
        go_wp2_with fail
        go_meet
        exact ⟨e1, q8, q9⟩
  case rest =>
    obtain ⟨w5, rfl⟩ : ∃ w5, w5 = wc := ⟨_, rfl⟩
    obtain ⟨e2, ⟨b5, t5, a5, n5, p5, rfl, x0, x1, i5⟩, ⟨b6, t6, a6, n6, p6, rfl, y0, y1, i6⟩⟩ := hcut
    replace eW := eW.trans e2
    have HX := Lib.hid (And.intro (HL.out.1.mul HL.out.2.2) (HL.out.2.1.mul HL.out.2.2))
    clear e2 c0 c1 d0 d1 g0 g1 j1 j2 j3 HL
    generalize z1 * z3 = x at *
    generalize z2 * z3 = y at *
    go_upto_region 4 with fail
    go_cut [9] (fun p wy => Ext w5 wy ∧ BoxInt wy p ((Nat.gcd x.natAbs y.natAbs : Nat) : Int))
    case first =>
        refine wp_region_inv (fun a0 l a w' => ∃ s9 s40 s41 s42 s43 s44, a = setAll a0 [(9, s9), (40, s40), (41, s41), (42, s42), (43, s43), (44, s44)] ∧ RegG4 w5 x y l s9 s40 s41 s42 s43 s44 w') (by kernel_rfl) (by kernel_rfl) 103 rfl ?h0 ?hs ?he
        case h0 =>
          intro a hn
          refine ⟨_, _, _, _, _, _, (setAll_self a 103 hn [9, 40, 41, 42, 43, 44] (by decide)).symm, ?_⟩
          exact { base := (Ext.refl _).drew, f0 := fun h => (none_yet h).elim, f1 := fun h => (none_yet h).elim, f2 := fun h => (none_yet h).elim, f3 := fun h => (none_yet h).elim, f4 := fun h => (none_yet h).elim, f5 := fun h => (none_yet h).elim, c6 := fun h => (none_yet h).elim, f6 := fun h => (none_yet h).elim }
        case hs =>
          rintro l _ w' ⟨s9, s40, s41, s42, s43, s44, rfl, I⟩
          have II := Lib.hid I
          clear I
          simp only [setAll, Act.put, List.setIfInBounds_toArray, List.set_cons_zero, List.set_cons_succ]
          refine AllOps.cons ?_ ?_
          · intro hu hp K hK
            clear hp
            have HU := Lib.hid hu
            clear hu
            have x0x := II.out.base.cell x0
            have x1x := II.out.base.cell x1
            rw [if_pos (by rfl)]
            go_simp
            refine hK.out _ _ ⟨s9, _, s41, s42, s43, s44, rfl, ?_⟩
            exact { base := II.out.base, f0 := fun _ => (i5.ext II.out.base), f1 := fun h => II.out.f1 (old (by decide) h), f2 := fun h => II.out.f2 (old (by decide) h), f3 := fun h => II.out.f3 (old (by decide) h), f4 := fun h => II.out.f4 (old (by decide) h), f5 := fun h => II.out.f5 (old (by decide) h), c6 := fun h => getD_set_true (II.out.c6 (old (by decide) h)), f6 := fun h => II.out.f6 (old (by decide) h) }
          refine AllOps.cons ?_ ?_
          · intro hu hp K hK
            have p0 := hp 0 (of_decide_eq_true (by kernel_rfl))
            have q0 := II.out.f0 p0
            clear hp
            have HU := Lib.hid hu
            clear hu
            have HC := Lib.hid (cpz_calls w' s40 (x) q0 (HX.out.1.sm (by omega)))
            rw [if_pos (by rfl)]
            go_simp
            go_at_call 13
            refine HC.out.mono ?_
            rintro e wx ⟨vv, rfl, hv, ex⟩
            go_wp2_with fail
            have kk := Keep.of ex II.out.base.size
            refine hK.out _ _ ⟨s9, s40, vv, s42, s43, s44, rfl, ?_⟩
            exact { base := II.out.base.trans ex, f0 := fun h => (II.out.f0 (old (by decide) h)).keep kk, f1 := fun _ => hv, f2 := fun h => (II.out.f2 (old (by decide) h)).keep kk, f3 := fun h => (II.out.f3 (old (by decide) h)).keep kk, f4 := fun h => (II.out.f4 (old (by decide) h)).keep kk, f5 := fun h => (II.out.f5 (old (by decide) h)).keep kk, c6 := fun h => getD_set_true (II.out.c6 (old (by decide) h)), f6 := fun h => (II.out.f6 (old (by decide) h)).ext ex }
          refine AllOps.cons ?_ ?_
          · intro hu hp K hK
            clear hp
            have HU := Lib.hid hu
            clear hu
            have y0x := II.out.base.cell y0
            have y1x := II.out.base.cell y1
            rw [if_pos (by rfl)]
            go_simp
            refine hK.out _ _ ⟨s9, s40, s41, _, s43, s44, rfl, ?_⟩
            exact { base := II.out.base, f0 := fun h => II.out.f0 (old (by decide) h), f1 := fun h => II.out.f1 (old (by decide) h), f2 := fun _ => (i6.ext II.out.base), f3 := fun h => II.out.f3 (old (by decide) h), f4 := fun h => II.out.f4 (old (by decide) h), f5 := fun h => II.out.f5 (old (by decide) h), c6 := fun h => getD_set_true (II.out.c6 (old (by decide) h)), f6 := fun h => II.out.f6 (old (by decide) h) }
          refine AllOps.cons ?_ ?_
          · intro hu hp K hK
            have p2 := hp 2 (of_decide_eq_true (by kernel_rfl))
            have q2 := II.out.f2 p2
            clear hp
            have HU := Lib.hid hu
            clear hu
            have HC := Lib.hid (cpz_calls w' s42 (y) q2 (HX.out.2.sm (by omega)))
            rw [if_pos (by rfl)]
            go_simp
            go_at_call 13
            refine HC.out.mono ?_
            rintro e wx ⟨vv, rfl, hv, ex⟩
            go_wp2_with fail
            have kk := Keep.of ex II.out.base.size
            refine hK.out _ _ ⟨s9, s40, s41, s42, vv, s44, rfl, ?_⟩
            exact { base := II.out.base.trans ex, f0 := fun h => (II.out.f0 (old (by decide) h)).keep kk, f1 := fun h => (II.out.f1 (old (by decide) h)).keep kk, f2 := fun h => (II.out.f2 (old (by decide) h)).keep kk, f3 := fun _ => hv, f4 := fun h => (II.out.f4 (old (by decide) h)).keep kk, f5 := fun h => (II.out.f5 (old (by decide) h)).keep kk, c6 := fun h => getD_set_true (II.out.c6 (old (by decide) h)), f6 := fun h => (II.out.f6 (old (by decide) h)).ext ex }
          refine AllOps.cons ?_ ?_
          · intro hu hp K hK
            have p1 := hp 1 (of_decide_eq_true (by kernel_rfl))
            have q1 := II.out.f1 p1
            have p3 := hp 3 (of_decide_eq_true (by kernel_rfl))
            have q3 := II.out.f3 p3
            clear hp
            have HU := Lib.hid hu
            clear hu
            have HC := Lib.hid (gcd_calls w' s41 s43 (x) (y) q1 q3 (HX.out.1.sm (by omega)) (HX.out.2.sm (by omega)))
            rw [if_pos (by rfl)]
            go_simp
            go_at_call 36
            refine HC.out.mono ?_
            rintro e wx ⟨vv, rfl, hv, ex⟩
            go_wp2_with fail
            have kk := Keep.of ex II.out.base.size
            refine hK.out _ _ ⟨s9, s40, s41, s42, s43, vv, rfl, ?_⟩
            exact { base := II.out.base.trans ex, f0 := fun h => (II.out.f0 (old (by decide) h)).keep kk, f1 := fun h => (II.out.f1 (old (by decide) h)).keep kk, f2 := fun h => (II.out.f2 (old (by decide) h)).keep kk, f3 := fun h => (II.out.f3 (old (by decide) h)).keep kk, f4 := fun _ => hv, f5 := fun h => (II.out.f5 (old (by decide) h)).keep kk, c6 := fun h => getD_set_true (II.out.c6 (old (by decide) h)), f6 := fun h => (II.out.f6 (old (by decide) h)).ext ex }
          refine AllOps.cons ?_ ?_
          · intro hu hp K hK
            clear hp
            have HU := Lib.hid hu
            clear hu
            have ea := (Ext.refl w').alloc (.cells #[.bool false, .slice none 0 0] 24)
            rw [if_pos (by rfl)]
            go_simp
            have kk := Keep.of ea II.out.base.size
            refine hK.out _ _ ⟨(.pointer (some ⟨w'.heap.size, 0, none⟩)), s40, s41, s42, s43, s44, rfl, ?_⟩
            exact { base := II.out.base.trans ea, f0 := fun h => (II.out.f0 (old (by decide) h)).keep kk, f1 := fun h => (II.out.f1 (old (by decide) h)).keep kk, f2 := fun h => (II.out.f2 (old (by decide) h)).keep kk, f3 := fun h => (II.out.f3 (old (by decide) h)).keep kk, f4 := fun h => (II.out.f4 (old (by decide) h)).keep kk, f5 := fun _ => varInt_new II.out.base.size 24, c6 := fun h => getD_set_true (II.out.c6 (old (by decide) h)), f6 := fun h => absurd (II.out.c6 (old (by decide) h)) (by rw [HU.out]; simp) }
          refine AllOps.cons ?_ ?_
          · intro hu hp K hK
            have p4 := hp 4 (of_decide_eq_true (by kernel_rfl))
            have q4 := II.out.f4 p4
            have p5 := hp 5 (of_decide_eq_true (by kernel_rfl))
            have q5 := II.out.f5 p5
            clear hp
            have HU := Lib.hid hu
            clear hu
            obtain ⟨b, rfl, hB, ⟨x0, g0⟩, ⟨y0, m0, d0, g1⟩, fr0, fr1⟩ := q5
            have hI := q4
            obtain ⟨ao1, cap1, s1, n1, rfl, _⟩ := q4.open_
            rw [if_pos (by rfl)]
            go_simp
            have kk := keep_put hB g0 g1 s1 ao1 (limbs n1).length cap1
            refine hK.out _ _ ⟨(.pointer (some ⟨b, 0, none⟩)), s40, s41, s42, s43, (.agg #[.bool s1, .slice ao1 (limbs n1).length cap1]), rfl, ?_⟩
            exact { base := (II.out.base.setCell (p := ⟨b, 0, none⟩) hB _).setCell (p := ⟨b, 1, none⟩) hB _, f0 := fun h => (II.out.f0 (old (by decide) h)).keep kk, f1 := fun h => (II.out.f1 (old (by decide) h)).keep kk, f2 := fun h => (II.out.f2 (old (by decide) h)).keep kk, f3 := fun h => (II.out.f3 (old (by decide) h)).keep kk, f4 := fun h => (II.out.f4 (old (by decide) h)).keep kk, f5 := fun h => (II.out.f5 (old (by decide) h)).keep kk, c6 := fun _ => getD_set_true p5, f6 := fun _ => boxInt_put g0 g1 hI }
          exact AllOps.nil
        case he =>
          rintro l _ w' hall ⟨s9, s40, s41, s42, s43, s44, rfl, I⟩
          have q6 := I.f6 (hall 6 (by decide))
          have e1 := I.base
          clear I hall
          simp only [setAll, Act.put, List.setIfInBounds_toArray, List.set_cons_zero, List.set_cons_succ]
          go_wp2_with fail
          go_meet
          exact ⟨e1, q6⟩
    case rest =>
      obtain ⟨w6, rfl⟩ : ∃ w6, w6 = wc := ⟨_, rfl⟩
      obtain ⟨e2, ⟨b7, t7, a7, n7, p7, rfl, u0, u1, i7⟩⟩ := hcut
      replace eW := eW.trans e2
      replace x0 := e2.cell x0
      replace x1 := e2.cell x1
      replace y0 := e2.cell y0
      replace y1 := e2.cell y1
      replace i5 := i5.ext e2
      replace i6 := i6.ext e2
      have HG := Lib.hid (And.intro HX.out.1 (And.intro HX.out.2 (gcd_le 12 HX.out.1 HX.out.2)))
      clear e2 HX
      by_cases hg : ((Nat.gcd x.natAbs y.natAbs : Nat) : Int) = 0
      · have hz := gcd_zero hg
        obtain ⟨rfl, rfl⟩ := hz
        rw [hg] at i7 HG
        clear hg
        go_upto_region 5 with fail
        go_cut [55] (fun t wx => t = .bool true ∧ Ext w6 wx)
        case first =>
            refine wp_region_inv (fun a0 l a w' => ∃ s45 s46 s47 s48 s49 s50 s51 s52 s53 s54 s55, a = setAll a0 [(45, s45), (46, s46), (47, s47), (48, s48), (49, s49), (50, s50), (51, s51), (52, s52), (53, s53), (54, s54), (55, s55)] ∧ RegG5a w6 l s45 s46 s47 s48 s49 s50 s51 s52 s53 s54 s55 w') (by kernel_rfl) (by kernel_rfl) 103 rfl ?h0 ?hs ?he
            case h0 =>
              intro a hn
              refine ⟨_, _, _, _, _, _, _, _, _, _, _, (setAll_self a 103 hn [45, 46, 47, 48, 49, 50, 51, 52, 53, 54, 55] (by decide)).symm, ?_⟩
              exact { base := (Ext.refl _).drew, f0 := fun h => (none_yet h).elim, f1 := fun h => (none_yet h).elim, f2 := fun h => (none_yet h).elim, f3 := fun h => (none_yet h).elim, f4 := fun h => (none_yet h).elim, f5 := fun h => (none_yet h).elim, f6 := fun h => (none_yet h).elim, f7 := fun h => (none_yet h).elim, f8 := fun h => (none_yet h).elim, f9 := fun h => (none_yet h).elim, f10 := fun h => (none_yet h).elim }
            case hs =>
              rintro l _ w' ⟨s45, s46, s47, s48, s49, s50, s51, s52, s53, s54, s55, rfl, I⟩
              have II := Lib.hid I
              clear I
              simp only [setAll, Act.put, List.setIfInBounds_toArray, List.set_cons_zero, List.set_cons_succ]
              refine AllOps.cons ?_ ?_
              · intro hu hp K hK
                clear hp
                have HU := Lib.hid hu
                clear hu
                have u0x := II.out.base.cell u0
                have u1x := II.out.base.cell u1
                rw [if_pos (by rfl)]
                go_simp
                refine hK.out _ _ ⟨_, s46, s47, s48, s49, s50, s51, s52, s53, s54, s55, rfl, ?_⟩
                exact { base := II.out.base, f0 := fun _ => (i7.ext II.out.base), f1 := fun h => II.out.f1 (old (by decide) h), f2 := fun h => II.out.f2 (old (by decide) h), f3 := fun h => II.out.f3 (old (by decide) h), f4 := fun h => II.out.f4 (old (by decide) h), f5 := fun h => II.out.f5 (old (by decide) h), f6 := fun h => II.out.f6 (old (by decide) h), f7 := fun h => II.out.f7 (old (by decide) h), f8 := fun h => II.out.f8 (old (by decide) h), f9 := fun h => II.out.f9 (old (by decide) h), f10 := fun h => II.out.f10 (old (by decide) h) }
              refine AllOps.cons ?_ ?_
              · intro hu hp K hK
                clear hp
                have HU := Lib.hid hu
                clear hu
                have x0x := II.out.base.cell x0
                have x1x := II.out.base.cell x1
                rw [if_pos (by rfl)]
                go_simp
                refine hK.out _ _ ⟨s45, _, s47, s48, s49, s50, s51, s52, s53, s54, s55, rfl, ?_⟩
                exact { base := II.out.base, f0 := fun h => II.out.f0 (old (by decide) h), f1 := fun _ => (i5.ext II.out.base), f2 := fun h => II.out.f2 (old (by decide) h), f3 := fun h => II.out.f3 (old (by decide) h), f4 := fun h => II.out.f4 (old (by decide) h), f5 := fun h => II.out.f5 (old (by decide) h), f6 := fun h => II.out.f6 (old (by decide) h), f7 := fun h => II.out.f7 (old (by decide) h), f8 := fun h => II.out.f8 (old (by decide) h), f9 := fun h => II.out.f9 (old (by decide) h), f10 := fun h => II.out.f10 (old (by decide) h) }
              refine AllOps.cons ?_ ?_
              · intro hu hp K hK
                clear hp
                have HU := Lib.hid hu
                clear hu
                have y0x := II.out.base.cell y0
                have y1x := II.out.base.cell y1
                rw [if_pos (by rfl)]
                go_simp
                refine hK.out _ _ ⟨s45, s46, _, s48, s49, s50, s51, s52, s53, s54, s55, rfl, ?_⟩
                exact { base := II.out.base, f0 := fun h => II.out.f0 (old (by decide) h), f1 := fun h => II.out.f1 (old (by decide) h), f2 := fun _ => (i6.ext II.out.base), f3 := fun h => II.out.f3 (old (by decide) h), f4 := fun h => II.out.f4 (old (by decide) h), f5 := fun h => II.out.f5 (old (by decide) h), f6 := fun h => II.out.f6 (old (by decide) h), f7 := fun h => II.out.f7 (old (by decide) h), f8 := fun h => II.out.f8 (old (by decide) h), f9 := fun h => II.out.f9 (old (by decide) h), f10 := fun h => II.out.f10 (old (by decide) h) }
              refine AllOps.cons ?_ ?_
              · intro hu hp K hK
                have p1 := hp 1 (of_decide_eq_true (by kernel_rfl))
                have q1 := II.out.f1 p1
                have p2 := hp 2 (of_decide_eq_true (by kernel_rfl))
                have q2 := II.out.f2 p2
                clear hp
                have HU := Lib.hid hu
                clear hu
                have HC := Lib.hid (rgcd_calls w' s46 s47 ((0 : Int)) ((0 : Int)) q1 q2 (HG.out.1.sm (by omega)) (HG.out.1.sm (by omega)))
                rw [if_pos (by rfl)]
                go_simp
                go_at_call 37
                refine HC.out.mono ?_
                rintro e wx ⟨vv, rfl, hv, ex⟩
                go_wp2_with fail
                have kk := Keep.of ex II.out.base.size
                refine hK.out _ _ ⟨s45, s46, s47, vv, s49, s50, s51, s52, s53, s54, s55, rfl, ?_⟩
                exact { base := II.out.base.trans ex, f0 := fun h => (II.out.f0 (old (by decide) h)).keep kk, f1 := fun h => (II.out.f1 (old (by decide) h)).keep kk, f2 := fun h => (II.out.f2 (old (by decide) h)).keep kk, f3 := fun _ => hv, f4 := fun h => II.out.f4 (old (by decide) h), f5 := fun h => II.out.f5 (old (by decide) h), f6 := fun h => II.out.f6 (old (by decide) h), f7 := fun h => (II.out.f7 (old (by decide) h)).keep kk, f8 := fun h => II.out.f8 (old (by decide) h), f9 := fun h => II.out.f9 (old (by decide) h), f10 := fun h => II.out.f10 (old (by decide) h) }
              refine AllOps.cons ?_ ?_
              · intro hu hp K hK
                have p0 := hp 0 (of_decide_eq_true (by kernel_rfl))
                have q0 := II.out.f0 p0
                have p3 := hp 3 (of_decide_eq_true (by kernel_rfl))
                have q3 := II.out.f3 p3
                clear hp
                have HU := Lib.hid hu
                clear hu
                have HC := Lib.hid (same_true w' s45 s48 (((Nat.gcd ((0 : Int)).natAbs ((0 : Int)).natAbs : Nat) : Int)) (q0) q3)
                rw [if_pos (by rfl)]
                go_simp
                go_at_call 19
                refine HC.out.mono ?_
                rintro e wx ⟨rfl, ex⟩
                go_wp2_with fail
                have kk := Keep.of ex II.out.base.size
                refine hK.out _ _ ⟨s45, s46, s47, s48, (.bool true), s50, s51, s52, s53, s54, s55, rfl, ?_⟩
                exact { base := II.out.base.trans ex, f0 := fun h => (II.out.f0 (old (by decide) h)).keep kk, f1 := fun h => (II.out.f1 (old (by decide) h)).keep kk, f2 := fun h => (II.out.f2 (old (by decide) h)).keep kk, f3 := fun h => (II.out.f3 (old (by decide) h)).keep kk, f4 := fun _ => rfl, f5 := fun h => II.out.f5 (old (by decide) h), f6 := fun h => II.out.f6 (old (by decide) h), f7 := fun h => (II.out.f7 (old (by decide) h)).keep kk, f8 := fun h => II.out.f8 (old (by decide) h), f9 := fun h => II.out.f9 (old (by decide) h), f10 := fun h => II.out.f10 (old (by decide) h) }
              refine AllOps.cons ?_ ?_
              · intro hu hp K hK
                have p4 := hp 4 (of_decide_eq_true (by kernel_rfl))
                have q4 := II.out.f4 p4
                clear hp
                have HU := Lib.hid hu
                clear hu
                subst q4
                rw [if_pos (by rfl)]
                go_simp
                refine hK.out _ _ ⟨s45, s46, s47, s48, (.bool true), (.bool false), s51, s52, s53, s54, s55, rfl, ?_⟩
                exact { base := II.out.base, f0 := fun h => II.out.f0 (old (by decide) h), f1 := fun h => II.out.f1 (old (by decide) h), f2 := fun h => II.out.f2 (old (by decide) h), f3 := fun h => II.out.f3 (old (by decide) h), f4 := fun h => II.out.f4 (old (by decide) h), f5 := fun _ => rfl, f6 := fun h => II.out.f6 (old (by decide) h), f7 := fun h => II.out.f7 (old (by decide) h), f8 := fun h => II.out.f8 (old (by decide) h), f9 := fun h => II.out.f9 (old (by decide) h), f10 := fun h => II.out.f10 (old (by decide) h) }
              refine AllOps.cons ?_ ?_
              · intro hu hp K hK
                have p5 := hp 5 (of_decide_eq_true (by kernel_rfl))
                have q5 := II.out.f5 p5
                clear hp
                have HU := Lib.hid hu
                clear hu
                subst q5
                rw [if_pos (by rfl)]
                go_simp
                refine hK.out _ _ ⟨s45, s46, s47, s48, s49, (.bool false), (.bool false), s52, s53, s54, s55, rfl, ?_⟩
                exact { base := II.out.base, f0 := fun h => II.out.f0 (old (by decide) h), f1 := fun h => II.out.f1 (old (by decide) h), f2 := fun h => II.out.f2 (old (by decide) h), f3 := fun h => II.out.f3 (old (by decide) h), f4 := fun h => II.out.f4 (old (by decide) h), f5 := fun h => II.out.f5 (old (by decide) h), f6 := fun _ => rfl, f7 := fun h => II.out.f7 (old (by decide) h), f8 := fun h => II.out.f8 (old (by decide) h), f9 := fun h => II.out.f9 (old (by decide) h), f10 := fun h => II.out.f10 (old (by decide) h) }
              refine AllOps.cons ?_ ?_
              · intro hu hp K hK
                have p6 := hp 6 (of_decide_eq_true (by kernel_rfl))
                have q6 := II.out.f6 p6
                clear hp
                have HU := Lib.hid hu
                clear hu
                subst q6
                have u0x := II.out.base.cell u0
                have u1x := II.out.base.cell u1
                rw [if_pos (by rfl)]
                go_simp
                refine hK.out _ _ ⟨s45, s46, s47, s48, s49, s50, (.bool false), _, s53, s54, s55, rfl, ?_⟩
                exact { base := II.out.base, f0 := fun h => II.out.f0 (old (by decide) h), f1 := fun h => II.out.f1 (old (by decide) h), f2 := fun h => II.out.f2 (old (by decide) h), f3 := fun h => II.out.f3 (old (by decide) h), f4 := fun h => II.out.f4 (old (by decide) h), f5 := fun h => II.out.f5 (old (by decide) h), f6 := fun h => II.out.f6 (old (by decide) h), f7 := fun _ => (i7.ext II.out.base), f8 := fun h => II.out.f8 (old (by decide) h), f9 := fun h => II.out.f9 (old (by decide) h), f10 := fun h => II.out.f10 (old (by decide) h) }
              refine AllOps.cons ?_ ?_
              · intro hu hp K hK
                have p6 := hp 6 (of_decide_eq_true (by kernel_rfl))
                have q6 := II.out.f6 p6
                have p7 := hp 7 (of_decide_eq_true (by kernel_rfl))
                have q7 := II.out.f7 p7
                clear hp
                have HU := Lib.hid hu
                clear hu
                subst q6
                have HC := Lib.hid (rsign_lit w' s52 ((0 : Int)) (0) q7 rfl)
                rw [if_pos (by rfl)]
                go_simp
                go_at_call 28
                refine HC.out.mono ?_
                rintro e wx ⟨rfl, ex⟩
                go_wp2_with fail
                have kk := Keep.of ex II.out.base.size
                refine hK.out _ _ ⟨s45, s46, s47, s48, s49, s50, (.bool false), s52, (.int .i64 0), s54, s55, rfl, ?_⟩
                exact { base := II.out.base.trans ex, f0 := fun h => (II.out.f0 (old (by decide) h)).keep kk, f1 := fun h => (II.out.f1 (old (by decide) h)).keep kk, f2 := fun h => (II.out.f2 (old (by decide) h)).keep kk, f3 := fun h => (II.out.f3 (old (by decide) h)).keep kk, f4 := fun h => II.out.f4 (old (by decide) h), f5 := fun h => II.out.f5 (old (by decide) h), f6 := fun h => II.out.f6 (old (by decide) h), f7 := fun h => (II.out.f7 (old (by decide) h)).keep kk, f8 := fun _ => rfl, f9 := fun h => II.out.f9 (old (by decide) h), f10 := fun h => II.out.f10 (old (by decide) h) }
              refine AllOps.cons ?_ ?_
              · intro hu hp K hK
                have p6 := hp 6 (of_decide_eq_true (by kernel_rfl))
                have q6 := II.out.f6 p6
                have p8 := hp 8 (of_decide_eq_true (by kernel_rfl))
                have q8 := II.out.f8 p8
                clear hp
                have HU := Lib.hid hu
                clear hu
                subst q6
                subst q8
                rw [if_pos (by rfl)]
                go_simp
                refine hK.out _ _ ⟨s45, s46, s47, s48, s49, s50, (.bool false), s52, (.int .i64 0), (.bool true), s55, rfl, ?_⟩
                exact { base := II.out.base, f0 := fun h => II.out.f0 (old (by decide) h), f1 := fun h => II.out.f1 (old (by decide) h), f2 := fun h => II.out.f2 (old (by decide) h), f3 := fun h => II.out.f3 (old (by decide) h), f4 := fun h => II.out.f4 (old (by decide) h), f5 := fun h => II.out.f5 (old (by decide) h), f6 := fun h => II.out.f6 (old (by decide) h), f7 := fun h => II.out.f7 (old (by decide) h), f8 := fun h => II.out.f8 (old (by decide) h), f9 := fun _ => rfl, f10 := fun h => II.out.f10 (old (by decide) h) }
              refine AllOps.cons ?_ ?_
              · intro hu hp K hK
                have p6 := hp 6 (of_decide_eq_true (by kernel_rfl))
                have q6 := II.out.f6 p6
                have p9 := hp 9 (of_decide_eq_true (by kernel_rfl))
                have q9 := II.out.f9 p9
                clear hp
                have HU := Lib.hid hu
                clear hu
                subst q6
                subst q9
                rw [if_pos (by rfl)]
                go_simp
                refine hK.out _ _ ⟨s45, s46, s47, s48, s49, s50, (.bool false), s52, s53, (.bool true), (.bool true), rfl, ?_⟩
                exact { base := II.out.base, f0 := fun h => II.out.f0 (old (by decide) h), f1 := fun h => II.out.f1 (old (by decide) h), f2 := fun h => II.out.f2 (old (by decide) h), f3 := fun h => II.out.f3 (old (by decide) h), f4 := fun h => II.out.f4 (old (by decide) h), f5 := fun h => II.out.f5 (old (by decide) h), f6 := fun h => II.out.f6 (old (by decide) h), f7 := fun h => II.out.f7 (old (by decide) h), f8 := fun h => II.out.f8 (old (by decide) h), f9 := fun h => II.out.f9 (old (by decide) h), f10 := fun _ => rfl }
              exact AllOps.nil
            case he =>
              rintro l _ w' hall ⟨s45, s46, s47, s48, s49, s50, s51, s52, s53, s54, s55, rfl, I⟩
              have q10 := I.f10 (hall 10 (by decide))
              have e1 := I.base
              clear I hall
              simp only [setAll, Act.put, List.setIfInBounds_toArray, List.set_cons_zero, List.set_cons_succ]
              obtain rfl := q10
              go_wp2_with fail
              go_meet
              exact ⟨rfl, e1⟩
        case rest =>
          obtain ⟨rfl, e2⟩ := hcut
          replace eW := eW.trans e2
          replace x0 := e2.cell x0
          replace x1 := e2.cell x1
          replace y0 := e2.cell y0
          replace y1 := e2.cell y1
          replace u0 := e2.cell u0
          replace u1 := e2.cell u1
          replace i5 := i5.ext e2
          replace i6 := i6.ext e2
          replace i7 := i7.ext e2
          clear e2 HG
          have hz0 : cmpZ 0 0 = 0 := rfl
          go_wp2_with fail
          refine (rsign_calls _ _ 0 i7).mono ?_
          rintro e w5 ⟨rfl, e5⟩
          replace x0 := e5.cell x0
          replace x1 := e5.cell x1
          replace y0 := e5.cell y0
          replace y1 := e5.cell y1
          rw [hz0]
          go_wp2_with fail
          refine (rsign_calls _ _ 0 (i5.ext e5)).mono ?_
          rintro e w6 ⟨rfl, e6⟩
          replace y0 := e6.cell y0
          replace y1 := e6.cell y1
          rw [hz0]
          go_wp2_with fail
          refine (rsign_calls _ _ 0 ((i6.ext e5).ext e6)).mono ?_
          rintro e w7 ⟨rfl, e7⟩
          rw [hz0]
          go_wp2_with fail
          go_ret
          exact ⟨rfl, ((eW.trans e5).trans e6).trans e7⟩
      · have HF := Lib.hid (gcd_facts x y hg)
        have HGE := Lib.hid (Eq.refl ((Nat.gcd x.natAbs y.natAbs : Nat) : Int))
        have hgp : 0 < ((Nat.gcd x.natAbs y.natAbs : Nat) : Int) := by omega
        generalize hgg : ((Nat.gcd x.natAbs y.natAbs : Nat) : Int) = g at *
        have HP := Lib.hid (cmpZ_gt hgp)
        have HN := Lib.hid hg
        clear hg hgp
        have HQ := Lib.hid hgg
        clear hgg HGE
        go_upto_region 5 with fail
        go_cut [55] (fun t wx => t = .bool false ∧ Ext w6 wx)
        case first =>
            refine wp_region_inv (fun a0 l a w' => ∃ s45 s46 s47 s48 s49 s50 s51 s52 s53 s54 s55, a = setAll a0 [(45, s45), (46, s46), (47, s47), (48, s48), (49, s49), (50, s50), (51, s51), (52, s52), (53, s53), (54, s54), (55, s55)] ∧ RegG5b w6 x y g l s45 s46 s47 s48 s49 s50 s51 s52 s53 s54 s55 w') (by kernel_rfl) (by kernel_rfl) 103 rfl ?h0 ?hs ?he
            case h0 =>
              intro a hn
              refine ⟨_, _, _, _, _, _, _, _, _, _, _, (setAll_self a 103 hn [45, 46, 47, 48, 49, 50, 51, 52, 53, 54, 55] (by decide)).symm, ?_⟩
              exact { base := (Ext.refl _).drew, f0 := fun h => (none_yet h).elim, f1 := fun h => (none_yet h).elim, f2 := fun h => (none_yet h).elim, f3 := fun h => (none_yet h).elim, f4 := fun h => (none_yet h).elim, f5 := fun h => (none_yet h).elim, f6 := fun h => (none_yet h).elim, f7 := fun h => (none_yet h).elim, f8 := fun h => (none_yet h).elim, f9 := fun h => (none_yet h).elim, f10 := fun h => (none_yet h).elim }
            case hs =>
              rintro l _ w' ⟨s45, s46, s47, s48, s49, s50, s51, s52, s53, s54, s55, rfl, I⟩
              have II := Lib.hid I
              clear I
              simp only [setAll, Act.put, List.setIfInBounds_toArray, List.set_cons_zero, List.set_cons_succ]
              refine AllOps.cons ?_ ?_
              · intro hu hp K hK
                clear hp
                have HU := Lib.hid hu
                clear hu
                have u0x := II.out.base.cell u0
                have u1x := II.out.base.cell u1
                rw [if_pos (by rfl)]
                go_simp
                refine hK.out _ _ ⟨_, s46, s47, s48, s49, s50, s51, s52, s53, s54, s55, rfl, ?_⟩
                exact { base := II.out.base, f0 := fun _ => (i7.ext II.out.base), f1 := fun h => II.out.f1 (old (by decide) h), f2 := fun h => II.out.f2 (old (by decide) h), f3 := fun h => II.out.f3 (old (by decide) h), f4 := fun h => II.out.f4 (old (by decide) h), f5 := fun h => II.out.f5 (old (by decide) h), f6 := fun h => II.out.f6 (old (by decide) h), f7 := fun h => II.out.f7 (old (by decide) h), f8 := fun h => II.out.f8 (old (by decide) h), f9 := fun h => II.out.f9 (old (by decide) h), f10 := fun h => II.out.f10 (old (by decide) h) }
              refine AllOps.cons ?_ ?_
              · intro hu hp K hK
                clear hp
                have HU := Lib.hid hu
                clear hu
                have x0x := II.out.base.cell x0
                have x1x := II.out.base.cell x1
                rw [if_pos (by rfl)]
                go_simp
                refine hK.out _ _ ⟨s45, _, s47, s48, s49, s50, s51, s52, s53, s54, s55, rfl, ?_⟩
                exact { base := II.out.base, f0 := fun h => II.out.f0 (old (by decide) h), f1 := fun _ => (i5.ext II.out.base), f2 := fun h => II.out.f2 (old (by decide) h), f3 := fun h => II.out.f3 (old (by decide) h), f4 := fun h => II.out.f4 (old (by decide) h), f5 := fun h => II.out.f5 (old (by decide) h), f6 := fun h => II.out.f6 (old (by decide) h), f7 := fun h => II.out.f7 (old (by decide) h), f8 := fun h => II.out.f8 (old (by decide) h), f9 := fun h => II.out.f9 (old (by decide) h), f10 := fun h => II.out.f10 (old (by decide) h) }
              refine AllOps.cons ?_ ?_
              · intro hu hp K hK
                clear hp
                have HU := Lib.hid hu
                clear hu
                have y0x := II.out.base.cell y0
                have y1x := II.out.base.cell y1
                rw [if_pos (by rfl)]
                go_simp
                refine hK.out _ _ ⟨s45, s46, _, s48, s49, s50, s51, s52, s53, s54, s55, rfl, ?_⟩
                exact { base := II.out.base, f0 := fun h => II.out.f0 (old (by decide) h), f1 := fun h => II.out.f1 (old (by decide) h), f2 := fun _ => (i6.ext II.out.base), f3 := fun h => II.out.f3 (old (by decide) h), f4 := fun h => II.out.f4 (old (by decide) h), f5 := fun h => II.out.f5 (old (by decide) h), f6 := fun h => II.out.f6 (old (by decide) h), f7 := fun h => II.out.f7 (old (by decide) h), f8 := fun h => II.out.f8 (old (by decide) h), f9 := fun h => II.out.f9 (old (by decide) h), f10 := fun h => II.out.f10 (old (by decide) h) }
              refine AllOps.cons ?_ ?_
              · intro hu hp K hK
                have p1 := hp 1 (of_decide_eq_true (by kernel_rfl))
                have q1 := II.out.f1 p1
                have p2 := hp 2 (of_decide_eq_true (by kernel_rfl))
                have q2 := II.out.f2 p2
                clear hp
                have HU := Lib.hid hu
                clear hu
                have HC := Lib.hid (rgcd_calls w' s46 s47 (x) (y) q1 q2 (HG.out.1.sm (by omega)) (HG.out.2.1.sm (by omega)))
                rw [if_pos (by rfl)]
                go_simp
                go_at_call 37
                refine HC.out.mono ?_
                rintro e wx ⟨vv, rfl, hv, ex⟩
                go_wp2_with fail
                have kk := Keep.of ex II.out.base.size
                refine hK.out _ _ ⟨s45, s46, s47, vv, s49, s50, s51, s52, s53, s54, s55, rfl, ?_⟩
                exact { base := II.out.base.trans ex, f0 := fun h => (II.out.f0 (old (by decide) h)).keep kk, f1 := fun h => (II.out.f1 (old (by decide) h)).keep kk, f2 := fun h => (II.out.f2 (old (by decide) h)).keep kk, f3 := fun _ => hv, f4 := fun h => II.out.f4 (old (by decide) h), f5 := fun h => II.out.f5 (old (by decide) h), f6 := fun h => II.out.f6 (old (by decide) h), f7 := fun h => (II.out.f7 (old (by decide) h)).keep kk, f8 := fun h => II.out.f8 (old (by decide) h), f9 := fun h => II.out.f9 (old (by decide) h), f10 := fun h => II.out.f10 (old (by decide) h) }
              refine AllOps.cons ?_ ?_
              · intro hu hp K hK
                have p0 := hp 0 (of_decide_eq_true (by kernel_rfl))
                have q0 := II.out.f0 p0
                have p3 := hp 3 (of_decide_eq_true (by kernel_rfl))
                have q3 := II.out.f3 p3
                clear hp
                have HU := Lib.hid hu
                clear hu
                have HC := Lib.hid (same_true w' s45 s48 (((Nat.gcd (x).natAbs (y).natAbs : Nat) : Int)) ((HQ.out ▸ q0)) q3)
                rw [if_pos (by rfl)]
                go_simp
                go_at_call 19
                refine HC.out.mono ?_
                rintro e wx ⟨rfl, ex⟩
                go_wp2_with fail
                have kk := Keep.of ex II.out.base.size
                refine hK.out _ _ ⟨s45, s46, s47, s48, (.bool true), s50, s51, s52, s53, s54, s55, rfl, ?_⟩
                exact { base := II.out.base.trans ex, f0 := fun h => (II.out.f0 (old (by decide) h)).keep kk, f1 := fun h => (II.out.f1 (old (by decide) h)).keep kk, f2 := fun h => (II.out.f2 (old (by decide) h)).keep kk, f3 := fun h => (II.out.f3 (old (by decide) h)).keep kk, f4 := fun _ => rfl, f5 := fun h => II.out.f5 (old (by decide) h), f6 := fun h => II.out.f6 (old (by decide) h), f7 := fun h => (II.out.f7 (old (by decide) h)).keep kk, f8 := fun h => II.out.f8 (old (by decide) h), f9 := fun h => II.out.f9 (old (by decide) h), f10 := fun h => II.out.f10 (old (by decide) h) }
              refine AllOps.cons ?_ ?_
              · intro hu hp K hK
                have p4 := hp 4 (of_decide_eq_true (by kernel_rfl))
                have q4 := II.out.f4 p4
                clear hp
                have HU := Lib.hid hu
                clear hu
                subst q4
                rw [if_pos (by rfl)]
                go_simp
                refine hK.out _ _ ⟨s45, s46, s47, s48, (.bool true), (.bool false), s51, s52, s53, s54, s55, rfl, ?_⟩
                exact { base := II.out.base, f0 := fun h => II.out.f0 (old (by decide) h), f1 := fun h => II.out.f1 (old (by decide) h), f2 := fun h => II.out.f2 (old (by decide) h), f3 := fun h => II.out.f3 (old (by decide) h), f4 := fun h => II.out.f4 (old (by decide) h), f5 := fun _ => rfl, f6 := fun h => II.out.f6 (old (by decide) h), f7 := fun h => II.out.f7 (old (by decide) h), f8 := fun h => II.out.f8 (old (by decide) h), f9 := fun h => II.out.f9 (old (by decide) h), f10 := fun h => II.out.f10 (old (by decide) h) }
              refine AllOps.cons ?_ ?_
              · intro hu hp K hK
                have p5 := hp 5 (of_decide_eq_true (by kernel_rfl))
                have q5 := II.out.f5 p5
                clear hp
                have HU := Lib.hid hu
                clear hu
                subst q5
                rw [if_pos (by rfl)]
                go_simp
                refine hK.out _ _ ⟨s45, s46, s47, s48, s49, (.bool false), (.bool false), s52, s53, s54, s55, rfl, ?_⟩
                exact { base := II.out.base, f0 := fun h => II.out.f0 (old (by decide) h), f1 := fun h => II.out.f1 (old (by decide) h), f2 := fun h => II.out.f2 (old (by decide) h), f3 := fun h => II.out.f3 (old (by decide) h), f4 := fun h => II.out.f4 (old (by decide) h), f5 := fun h => II.out.f5 (old (by decide) h), f6 := fun _ => rfl, f7 := fun h => II.out.f7 (old (by decide) h), f8 := fun h => II.out.f8 (old (by decide) h), f9 := fun h => II.out.f9 (old (by decide) h), f10 := fun h => II.out.f10 (old (by decide) h) }
              refine AllOps.cons ?_ ?_
              · intro hu hp K hK
                have p6 := hp 6 (of_decide_eq_true (by kernel_rfl))
                have q6 := II.out.f6 p6
                clear hp
                have HU := Lib.hid hu
                clear hu
                subst q6
                have u0x := II.out.base.cell u0
                have u1x := II.out.base.cell u1
                rw [if_pos (by rfl)]
                go_simp
                refine hK.out _ _ ⟨s45, s46, s47, s48, s49, s50, (.bool false), _, s53, s54, s55, rfl, ?_⟩
                exact { base := II.out.base, f0 := fun h => II.out.f0 (old (by decide) h), f1 := fun h => II.out.f1 (old (by decide) h), f2 := fun h => II.out.f2 (old (by decide) h), f3 := fun h => II.out.f3 (old (by decide) h), f4 := fun h => II.out.f4 (old (by decide) h), f5 := fun h => II.out.f5 (old (by decide) h), f6 := fun h => II.out.f6 (old (by decide) h), f7 := fun _ => (i7.ext II.out.base), f8 := fun h => II.out.f8 (old (by decide) h), f9 := fun h => II.out.f9 (old (by decide) h), f10 := fun h => II.out.f10 (old (by decide) h) }
              refine AllOps.cons ?_ ?_
              · intro hu hp K hK
                have p6 := hp 6 (of_decide_eq_true (by kernel_rfl))
                have q6 := II.out.f6 p6
                have p7 := hp 7 (of_decide_eq_true (by kernel_rfl))
                have q7 := II.out.f7 p7
                clear hp
                have HU := Lib.hid hu
                clear hu
                subst q6
                have HC := Lib.hid (rsign_lit w' s52 (g) (1) q7 HP.out)
                rw [if_pos (by rfl)]
                go_simp
                go_at_call 28
                refine HC.out.mono ?_
                rintro e wx ⟨rfl, ex⟩
                go_wp2_with fail
                have kk := Keep.of ex II.out.base.size
                refine hK.out _ _ ⟨s45, s46, s47, s48, s49, s50, (.bool false), s52, (.int .i64 1), s54, s55, rfl, ?_⟩
                exact { base := II.out.base.trans ex, f0 := fun h => (II.out.f0 (old (by decide) h)).keep kk, f1 := fun h => (II.out.f1 (old (by decide) h)).keep kk, f2 := fun h => (II.out.f2 (old (by decide) h)).keep kk, f3 := fun h => (II.out.f3 (old (by decide) h)).keep kk, f4 := fun h => II.out.f4 (old (by decide) h), f5 := fun h => II.out.f5 (old (by decide) h), f6 := fun h => II.out.f6 (old (by decide) h), f7 := fun h => (II.out.f7 (old (by decide) h)).keep kk, f8 := fun _ => rfl, f9 := fun h => II.out.f9 (old (by decide) h), f10 := fun h => II.out.f10 (old (by decide) h) }
              refine AllOps.cons ?_ ?_
              · intro hu hp K hK
                have p6 := hp 6 (of_decide_eq_true (by kernel_rfl))
                have q6 := II.out.f6 p6
                have p8 := hp 8 (of_decide_eq_true (by kernel_rfl))
                have q8 := II.out.f8 p8
                clear hp
                have HU := Lib.hid hu
                clear hu
                subst q6
                subst q8
                rw [if_pos (by rfl)]
                go_simp
                refine hK.out _ _ ⟨s45, s46, s47, s48, s49, s50, (.bool false), s52, (.int .i64 1), (.bool false), s55, rfl, ?_⟩
                exact { base := II.out.base, f0 := fun h => II.out.f0 (old (by decide) h), f1 := fun h => II.out.f1 (old (by decide) h), f2 := fun h => II.out.f2 (old (by decide) h), f3 := fun h => II.out.f3 (old (by decide) h), f4 := fun h => II.out.f4 (old (by decide) h), f5 := fun h => II.out.f5 (old (by decide) h), f6 := fun h => II.out.f6 (old (by decide) h), f7 := fun h => II.out.f7 (old (by decide) h), f8 := fun h => II.out.f8 (old (by decide) h), f9 := fun _ => rfl, f10 := fun h => II.out.f10 (old (by decide) h) }
              refine AllOps.cons ?_ ?_
              · intro hu hp K hK
                have p6 := hp 6 (of_decide_eq_true (by kernel_rfl))
                have q6 := II.out.f6 p6
                have p9 := hp 9 (of_decide_eq_true (by kernel_rfl))
                have q9 := II.out.f9 p9
                clear hp
                have HU := Lib.hid hu
                clear hu
                subst q6
                subst q9
                rw [if_pos (by rfl)]
                go_simp
                refine hK.out _ _ ⟨s45, s46, s47, s48, s49, s50, (.bool false), s52, s53, (.bool false), (.bool false), rfl, ?_⟩
                exact { base := II.out.base, f0 := fun h => II.out.f0 (old (by decide) h), f1 := fun h => II.out.f1 (old (by decide) h), f2 := fun h => II.out.f2 (old (by decide) h), f3 := fun h => II.out.f3 (old (by decide) h), f4 := fun h => II.out.f4 (old (by decide) h), f5 := fun h => II.out.f5 (old (by decide) h), f6 := fun h => II.out.f6 (old (by decide) h), f7 := fun h => II.out.f7 (old (by decide) h), f8 := fun h => II.out.f8 (old (by decide) h), f9 := fun h => II.out.f9 (old (by decide) h), f10 := fun _ => rfl }
              exact AllOps.nil
            case he =>
              rintro l _ w' hall ⟨s45, s46, s47, s48, s49, s50, s51, s52, s53, s54, s55, rfl, I⟩
              have q10 := I.f10 (hall 10 (by decide))
              have e1 := I.base
              clear I hall
              simp only [setAll, Act.put, List.setIfInBounds_toArray, List.set_cons_zero, List.set_cons_succ]
              obtain rfl := q10
              go_wp2_with fail
              go_meet
              exact ⟨rfl, e1⟩
        case rest =>
          obtain ⟨w7, rfl⟩ : ∃ w7, w7 = wc := ⟨_, rfl⟩
          obtain ⟨rfl, e2⟩ := hcut
          replace eW := eW.trans e2
          replace x0 := e2.cell x0
          replace x1 := e2.cell x1
          replace y0 := e2.cell y0
          replace y1 := e2.cell y1
          replace u0 := e2.cell u0
          replace u1 := e2.cell u1
          replace i5 := i5.ext e2
          replace i6 := i6.ext e2
          replace i7 := i7.ext e2
          have HE := Lib.hid (de_ne HN.out)
          have HD := Lib.hid (And.intro (dq_abs x g) (dq_abs y g))
          clear e2 HP HN
          have H1 := Lib.hid (divMod_fn w7 _ _ x g i5 i7 (HG.out.1.sm (by omega)) (HG.out.2.2.sm (by omega)))
          go_upto_region 7 with fail
          go_cut [10, 11, 12] (fun p q r wx => Ext w7 wx ∧ BoxInt wx p (dq x g) ∧ BoxInt wx q 0 ∧ r = .int .i64 0)
          case first =>
            go_wp2_with fail
            refine H1.out.mono ?_
            rintro e w8 ⟨q1, q2, rfl, hv1, hv2, e8⟩
            rw [HF.out.1] at hv2
            obtain ⟨ao1, cap1, sg1, n1, rfl, _⟩ := hv1.open_
            obtain ⟨ao2, cap2, sg2, n2, rfl, _⟩ := hv2.open_
            rw [HE.out]
            go_wp2_with fail
            go_meet
            have B := box_two (t := 24) e8 hv1 hv2
            exact ⟨B.1, B.2.1, B.2.2, rfl⟩
          case rest =>
            obtain ⟨w8, rfl⟩ : ∃ w8, w8 = wc := ⟨_, rfl⟩
            obtain ⟨e2, ⟨b8, t8, a8, n8, p8, rfl, k0, k1, i8⟩, ⟨b9, t9, a9, n9, p9, rfl, l0, l1, i9⟩, rfl⟩ := hcut
            replace eW := eW.trans e2
            replace y0 := e2.cell y0
            replace y1 := e2.cell y1
            replace u0 := e2.cell u0
            replace u1 := e2.cell u1
            replace i6 := i6.ext e2
            replace i7 := i7.ext e2
            clear e2 H1 x0 x1 i5
            have H1 := Lib.hid (divMod_fn w8 _ _ y g i6 i7 (HG.out.2.1.sm (by omega)) (HG.out.2.2.sm (by omega)))
            go_upto_region 8 with fail
            go_cut [13, 14, 15] (fun p q r wx => Ext w8 wx ∧ BoxInt wx p (dq y g) ∧ BoxInt wx q 0 ∧ r = .int .i64 0)
            case first =>
              go_wp2_with fail
              refine H1.out.mono ?_
              rintro e w9 ⟨q1, q2, rfl, hv1, hv2, e9⟩
              rw [HF.out.2.1] at hv2
              obtain ⟨ao1, cap1, sg1, n1, rfl, _⟩ := hv1.open_
              obtain ⟨ao2, cap2, sg2, n2, rfl, _⟩ := hv2.open_
              rw [HE.out]
              go_wp2_with fail
              go_meet
              have B := box_two (t := 24) e9 hv1 hv2
              exact ⟨B.1, B.2.1, B.2.2, rfl⟩
            case rest =>
              obtain ⟨w9, rfl⟩ : ∃ w9, w9 = wc := ⟨_, rfl⟩
              obtain ⟨e2, ⟨b10, t10, a10, n10, p10, rfl, m0, m1, i10⟩, ⟨b11, t11, a11, n11, p11, rfl, o0, o1, i11⟩, rfl⟩ := hcut
              replace eW := eW.trans e2
              replace k0 := e2.cell k0
              replace k1 := e2.cell k1
              replace l0 := e2.cell l0
              replace l1 := e2.cell l1
              replace i8 := i8.ext e2
              replace i9 := i9.ext e2
              clear e2 H1 y0 y1 u0 u1 i6 i7
              have HS := Lib.hid (And.intro ((HG.out.1.natAbs_le HD.out.1).sm (by omega)) ((HG.out.2.1.natAbs_le HD.out.2).sm (by omega)))
              go_wp2_with fail
              refine (is_true _ _ 0 i9 (by omega) (by omega)).mono ?_
              rintro e w10 ⟨rfl, e10⟩
              replace k0 := e10.cell k0
              replace k1 := e10.cell k1
              replace m0 := e10.cell m0
              replace m1 := e10.cell m1
              replace o0 := e10.cell o0
              replace o1 := e10.cell o1
              replace i8 := i8.ext e10
              replace i10 := i10.ext e10
              replace i11 := i11.ext e10
              replace eW := eW.trans e10
              go_wp2_with fail
              refine (is_true _ _ 0 i11 (by omega) (by omega)).mono ?_
              rintro e w11 ⟨rfl, e11⟩
              replace k0 := e11.cell k0
              replace k1 := e11.cell k1
              replace m0 := e11.cell m0
              replace m1 := e11.cell m1
              go_wp2_with fail
              refine (gcd_calls _ _ _ (dq x g) (dq y g) (i8.ext e11) (i10.ext e11) HS.out.1 HS.out.2).mono ?_
              rintro e w12 ⟨vv, rfl, hv, e12⟩
              rw [HF.out.2.2] at hv
              go_wp2_with fail
              refine (is_true _ _ 1 hv (by omega) (by omega)).mono ?_
              rintro e w13 ⟨rfl, e13⟩
              go_wp2_with fail
              go_ret
              exact ⟨rfl, ((eW.trans e11).trans e12).trans e13⟩

end Go.Proofs.Ytfjaboolfjgleaa
