/-
  What the statement on square roots does when it is called.
-/
import Derived.Test.YtfjaboolfjgleaaSqr
import Derived.Test.YtfjaboolfjgleaaLawDivMod
namespace Go.Proofs.Ytfjaboolfjgleaa
open Go.RowKit

theorem cpz_calls' (w : World) (v : Value) (z : Int) (h : IsInt w v z) (l : Sm z) : Calls Try.prog 13 #[v] w (Ret (fun v' w' => IsInt w' v' z) w) := by
  obtain ⟨ao, cap, s, n, rfl, h1, h2, h3, H4, H5, H6⟩ := h.open_
  obtain ⟨k1, k2⟩ := isInt_raw h1 h2 h3 H6.out
  have hz : sgn s (val (limbs n)) = z := by rw [val_limbs]; exact H5.out.symm
  refine (cp_calls w _ s (limbs n) k1 (by unfold Sm at l; rw [← H4.out] at l; exact l)).mono ?_
  rintro e w' ⟨vv, rfl, hv, ex⟩
  refine ⟨vv, rfl, ?_, ex⟩
  rw [← hz]
  exact (okB_int hv k2).1
/-- The root in the statement. -/
theorem isq_facts {z : Int} (h : 0 ≤ z) : 0 ≤ isq z ∧ isq z * isq z ≤ z ∧ z < (isq z + 1) * (isq z + 1) ∧ isqE z = 0 ∧ (isq z).natAbs ≤ z.natAbs := by
  have hs := isqN_spec z.natAbs
  have hle := isSq_le hs
  unfold isq isqE
  rw [if_neg (by omega), if_neg (by omega)]
  obtain ⟨h1, h2⟩ := hs
  generalize isqN z.natAbs = r at *
  have e1 : ((r : Int) * r) = ((r * r : Nat) : Int) := by rw [Int.natCast_mul]
  have e2 : ((r : Int) + 1) * ((r : Int) + 1) = (((r + 1) * (r + 1) : Nat) : Int) := by rw [Int.natCast_mul]; rfl
  rw [e1, e2]
  refine ⟨by omega, by omega, by omega, rfl, by omega⟩
theorem isq_neg {z : Int} (h : z < 0) : isq z = 0 ∧ isqE z = 7 := ⟨if_pos h, if_pos h⟩
theorem sqrt_fn (w : World) (v : Value) (z : Int) (h : IsInt w v z) (l : Lim 16 z) : Calls Try.prog 38 #[v] w (RetSqA z w) := sqrt_any w v z h (l.mono (by omega))
theorem item_newS {w : World} {b1 : Bool} {a1 : Option Addr} {x1 : List Nat} {c1 : Nat} (k1 : x1.length ≤ c1) (l1 : c1 ≤ 9223372036854775807) (h1 : Cells w a1 x1) :
    ∀ k, k < [(b1, x1)].length → Item (w.alloc (.cells #[.bool b1, .slice a1 x1.length c1] 24)) w.heap.size k ([(b1, x1)].getD k (false, [])) := by
  have e := (Ext.refl w).alloc (.cells #[.bool b1, .slice a1 x1.length c1] 24)
  intro k hk
  match k, hk with
  | 0, _ => exact ⟨a1, c1, by simp, by simp, k1, l1, h1.ext e⟩
theorem box_one {a w : World} {s : Bool} {ao : Option Addr} {n c : Nat} {q : Int} {t : TypeId} (E : Ext a w) (h : IsInt w (.agg #[.bool s, .slice ao n c]) q) :
    Ext a (w.alloc (.cells #[.bool s, .slice ao n c] t)) ∧ BoxInt (w.alloc (.cells #[.bool s, .slice ao n c] t)) (.pointer (some ⟨w.heap.size, 0, none⟩)) q := by
  have e1 := (Ext.refl w).alloc (.cells #[.bool s, .slice ao n c] t)
  have n1 := struct_new w (.bool s) (.slice ao n c) t
  exact ⟨E.trans e1, ⟨_, _, _, _, _, rfl, n1.1, n1.2, h.ext e1⟩⟩
/-- The head's number. -/
theorem small16 {w : World} {v : Value} {s : Bool} {xs : List Nat} (h : Raw w v s xs) (hb : smB (s, xs) = true) : IsInt w v (sgn s (val xs)) ∧ Lim 16 (sgn s (val xs)) := ⟨(smB_int h hb).1, smB_lim h hb⟩
theorem neg_of {w : World} {s : Bool} {ao : Option Addr} {n cap : Nat} {z : Int} (h : IsInt w (.agg #[.bool s, .slice ao n cap]) z) : s = decide (z < 0) := by
  obtain ⟨_, _, hv, _⟩ := h
  injection hv with hv
  have := congrArg (fun x => x[0]?) hv
  simpa using this

structure RegS6 (w3 : World) (r : Int) (l : Array Bool) (s5 s29 s30 s31 : Value) (w : World) : Prop where
  base : Ext w3 w
  f0 : l.getD 0 false = true → IsInt w s29 (r)
  f1 : l.getD 1 false = true → IsInt w s30 ((1 : Int))
  f2 : l.getD 2 false = true → IsInt w s31 ((r) + ((1 : Int)))
  f3 : l.getD 3 false = true → VarInt w3.heap.size w s5
  c4 : l.getD 4 false = true → l.getD 3 false = true
  f4 : l.getD 4 false = true → BoxInt w s5 ((r) + ((1 : Int)))

structure RegS7a (w4 : World) (b5 : Nat) (z1 r n : Int) (l : Array Bool) (s2 s32 s33 s34 s35 s36 s37 s38 s39 s40 s41 s42 s43 s44 s45 s46 s47 s48 s49 s50 s51 s52 s53 s54 s55 s56 s57 s58 : Value) (w : World) : Prop where
  base : Ext w4 w
  f0 : l.getD 0 false = true → s32 = (.int .i64 0)
  f1 : l.getD 1 false = true → s33 = (.bool true)
  f2 : l.getD 2 false = true → s34 = (.bool true)
  f3 : l.getD 3 false = true → IsInt w s35 (r)
  f4 : l.getD 4 false = true → s36 = (.bool true)
  f5 : l.getD 5 false = true → s37 = (.bool true)
  f6 : l.getD 6 false = true → s38 = (.bool true)
  f7 : l.getD 7 false = true → s39 = (.pointer (some ⟨b5, 0, none⟩))
  f8 : l.getD 8 false = true → s40 = (.bool false)
  f9 : l.getD 9 false = true → s41 = (.bool true)
  f10 : l.getD 10 false = true → s42 = (.bool true)
  f11 : l.getD 11 false = true → s43 = (.bool true)
  f12 : l.getD 12 false = true → IsInt w s44 (r)
  f13 : l.getD 13 false = true → IsInt w s45 (r)
  f14 : l.getD 14 false = true → IsInt w s46 ((r) * (r))
  f15 : l.getD 15 false = true → IsInt w s47 (z1)
  f16 : l.getD 16 false = true → s48 = (.int .i64 (-1))
  f17 : l.getD 17 false = true → s49 = (.bool true)
  f18 : l.getD 18 false = true → s50 = (.bool true)
  f19 : l.getD 19 false = true → s51 = (.bool true)
  f20 : l.getD 20 false = true → IsInt w s52 (n)
  f21 : l.getD 21 false = true → IsInt w s53 (n)
  f22 : l.getD 22 false = true → IsInt w s54 ((n) * (n))
  f23 : l.getD 23 false = true → IsInt w s55 (z1)
  f24 : l.getD 24 false = true → s56 = (.int .i64 1)
  f25 : l.getD 25 false = true → s57 = (.bool true)
  f26 : l.getD 26 false = true → s58 = (.bool true)
  f27 : l.getD 27 false = true → s2 = (.bool true)

structure RegS7b (w4 : World) (b5 : Nat) (z1 r n : Int) (l : Array Bool) (s2 s32 s33 s34 s35 s36 s37 s38 s39 s40 s41 s42 s43 s44 s45 s46 s47 s48 s49 s50 s51 s52 s53 s54 s55 s56 s57 s58 : Value) (w : World) : Prop where
  base : Ext w4 w
  f0 : l.getD 0 false = true → s32 = (.int .i64 0)
  f1 : l.getD 1 false = true → s33 = (.bool true)
  f2 : l.getD 2 false = true → s34 = (.bool true)
  f3 : l.getD 3 false = true → IsInt w s35 (r)
  f4 : l.getD 4 false = true → s36 = (.bool true)
  f5 : l.getD 5 false = true → s37 = (.bool true)
  f6 : l.getD 6 false = true → s38 = (.bool true)
  f7 : l.getD 7 false = true → s39 = (.pointer (some ⟨b5, 0, none⟩))
  f8 : l.getD 8 false = true → s40 = (.bool false)
  f9 : l.getD 9 false = true → s41 = (.bool true)
  f10 : l.getD 10 false = true → s42 = (.bool true)
  f11 : l.getD 11 false = true → s43 = (.bool true)
  f12 : l.getD 12 false = true → IsInt w s44 (r)
  f13 : l.getD 13 false = true → IsInt w s45 (r)
  f14 : l.getD 14 false = true → IsInt w s46 ((r) * (r))
  f15 : l.getD 15 false = true → IsInt w s47 (z1)
  f16 : l.getD 16 false = true → s48 = (.int .i64 0)
  f17 : l.getD 17 false = true → s49 = (.bool true)
  f18 : l.getD 18 false = true → s50 = (.bool true)
  f19 : l.getD 19 false = true → s51 = (.bool true)
  f20 : l.getD 20 false = true → IsInt w s52 (n)
  f21 : l.getD 21 false = true → IsInt w s53 (n)
  f22 : l.getD 22 false = true → IsInt w s54 ((n) * (n))
  f23 : l.getD 23 false = true → IsInt w s55 (z1)
  f24 : l.getD 24 false = true → s56 = (.int .i64 1)
  f25 : l.getD 25 false = true → s57 = (.bool true)
  f26 : l.getD 26 false = true → s58 = (.bool true)
  f27 : l.getD 27 false = true → s2 = (.bool true)

set_option maxRecDepth 100000 in
set_option maxHeartbeats 3200000 in
theorem lawSqrt_calls (w : World) (v1 : Value) (s1 : Bool) (xs : List Nat) (h : Raw w v1 s1 xs) :
    Calls Try.prog 10 #[v1] w fun e w' => e = .returned (.bool true) ∧ Ext w w' := by
  have hR := h
  obtain ⟨ao, cap, rfl, h1, h2, h3⟩ := h
  obtain ⟨W, hW, eW, c0, c1⟩ := box1 w (.bool s1) (.slice ao xs.length cap) 24
  have HI := Lib.hid (And.intro h1 (And.intro h2 h3))
  clear h1 h2 h3
  go_enter Try.func10, Try.ntmps10
  go_wp2_with fail
  clear hW
  refine (awake_calls _).mono ?_
  rintro e w1 ⟨rfl, e1⟩
  replace c0 := e1.cell c0
  replace c1 := e1.cell c1
  replace eW := eW.trans e1
  clear e1
  have hsm := Lib.hid (small_calls _ w1.heap.size [(s1, xs)] (by simp) (item_newS HI.out.1 HI.out.2.1 (HI.out.2.2.ext eW)))
  go_wp2_with fail
  refine hsm.out.mono ?_
  rintro e w2 ⟨rfl, e2⟩
  replace e2 := ((Ext.refl w1).alloc _).trans e2
  replace c0 := e2.cell c0
  replace c1 := e2.cell c1
  replace eW := eW.trans e2
  clear e2 hsm HI
  cases hb : [(s1, xs)].all smB
  · clear hb
    go_wp2_with fail
    refine (awake_calls _).mono ?_
    rintro e w3 ⟨rfl, e3⟩
    go_wp2
    go_ret
    exact ⟨rfl, eW.trans e3⟩
  · have i1 := small16 hR (show smB (s1, xs) = true by simpa using hb)
    have j1 := i1.1.ext eW
    have HS := Lib.hid (neg_of j1)
    have HL := Lib.hid i1.2
    clear hb i1 hR
    generalize sgn s1 (val xs) = z1 at *
    go_upto_region 3 with fail
    go_cut [3, 4] (fun p r wx => Ext w2 wx ∧ BoxInt wx p (isq z1) ∧ r = .int .i64 (isqE z1))
    case first =>
      go_wp2_with fail
      refine (cpz_calls' _ _ z1 j1 (HL.out.sm (by omega))).mono ?_
      rintro e w3 ⟨v3, rfl, hv3, e3⟩
      go_wp2_with fail
      refine (sqrt_fn _ _ z1 hv3 HL.out).mono ?_
      rintro e w4 ⟨v4, rfl, hv4, e4⟩
      obtain ⟨ao1, cap1, sg1, n1, rfl, _⟩ := IsInt.open_ hv4
      go_wp2_with fail
      go_meet
      have B := box_one (t := 24) (e3.trans e4) hv4
      exact ⟨B.1, B.2, rfl⟩
    case rest =>
      obtain ⟨w3, rfl⟩ : ∃ w3, w3 = wc := ⟨_, rfl⟩
      obtain ⟨e2, ⟨b5, t5, a5, n5, p5, rfl, x0, x1, i5⟩, rfl⟩ := hcut
      replace c0 := e2.cell c0
      replace c1 := e2.cell c1
      replace eW := eW.trans e2
      replace j1 := j1.ext e2
      clear e2
      by_cases hz : z1 < 0
      · have hs : s1 = true := by rw [HS.out]; exact decide_eq_true hz
        have hq := isq_neg hz
        rw [hq.1] at i5
        have HE := Lib.hid hq.2
        subst hs
        clear hz hq HS
        rw [HE.out]
        go_wp2_with fail
        refine (is_true _ _ 0 i5 (by omega) (by omega)).mono ?_
        rintro e w4 ⟨rfl, e4⟩
        go_wp2_with fail
        go_ret
        exact ⟨rfl, eW.trans e4⟩
      · have hs : s1 = false := by rw [HS.out]; exact decide_eq_false hz
        have hq := isq_facts (z := z1) (by omega)
        have HS5 := Lib.hid (neg_of i5)
        subst hs
        obtain ⟨q0, q1, q2, q3, q4⟩ := hq
        have HLq := Lib.hid (HL.out.natAbs_le q4)
        rw [q3]
        generalize isq z1 = r at *
        have hs5 : t5 = false := by rw [HS5.out]; exact decide_eq_false (by omega)
        subst hs5
        have G1 := Lib.hid (show cmpZ (r * r) z1 = -1 ∨ cmpZ (r * r) z1 = 0 by rcases cmpZ_cases (r * r) z1 with h | h | h <;> omega)
        have G2 := Lib.hid (cmpZ_gt q2)
        have HL1 := Lib.hid (show Lim 16 (1 : Int) from limbs_len_le (by decide))
        have HLn := Lib.hid (HLq.out.add HL1.out)
        clear hz q0 q1 q2 q3 q4 HS HS5
        go_upto_region 6 with fail
        go_cut [5] (fun p wx => Ext w3 wx ∧ BoxInt wx p (r + 1))
        case first =>
          refine wp_region_inv (fun a0 l a w' => ∃ s5 s29 s30 s31, a = setAll a0 [(5, s5), (29, s29), (30, s30), (31, s31)] ∧ RegS6 w3 r l s5 s29 s30 s31 w') (by kernel_rfl) (by kernel_rfl) 59 rfl ?h0 ?hs ?he
          case h0 =>
            intro a hn
            refine ⟨_, _, _, _, (setAll_self a 59 hn [5, 29, 30, 31] (by decide)).symm, ?_⟩
            exact { base := (Ext.refl _).drew, f0 := fun h => (none_yet h).elim, f1 := fun h => (none_yet h).elim, f2 := fun h => (none_yet h).elim, f3 := fun h => (none_yet h).elim, c4 := fun h => (none_yet h).elim, f4 := fun h => (none_yet h).elim }
          case hs =>
            rintro l _ w' ⟨s5, s29, s30, s31, rfl, I⟩
            have II := Lib.hid I
            clear I
            simp only [setAll, Act.put, List.setIfInBounds_toArray, List.set_cons_zero, List.set_cons_succ]
            refine AllOps.cons ?_ ?_
            · intro hu hp K hK
              clear hp
              have HU := Lib.hid hu
              clear hu
              have x0x := II.out.base.cell x0
              have x1x := II.out.base.cell x1
              rw [if_pos (by rfl)]
              go_simp
              refine hK.out _ _ ⟨s5, _, s30, s31, rfl, ?_⟩
              exact { base := II.out.base, f0 := fun _ => (i5.ext II.out.base), f1 := fun h => II.out.f1 (old (by decide) h), f2 := fun h => II.out.f2 (old (by decide) h), f3 := fun h => II.out.f3 (old (by decide) h), c4 := fun h => getD_set_true (II.out.c4 (old (by decide) h)), f4 := fun h => II.out.f4 (old (by decide) h) }
            refine AllOps.cons ?_ ?_
            · intro hu hp K hK
              clear hp
              have HU := Lib.hid hu
              clear hu
              have HC := Lib.hid (rfromInt64_calls w' (1) (by omega) (by omega))
              rw [if_pos (by rfl)]
              go_simp
              go_at_call 20
              refine HC.out.mono ?_
              rintro e wx ⟨vv, rfl, hv, ex⟩
              go_wp2_with fail
              have kk := Keep.of ex II.out.base.size
              refine hK.out _ _ ⟨s5, s29, vv, s31, rfl, ?_⟩
              exact { base := II.out.base.trans ex, f0 := fun h => (II.out.f0 (old (by decide) h)).keep kk, f1 := fun _ => hv, f2 := fun h => (II.out.f2 (old (by decide) h)).keep kk, f3 := fun h => (II.out.f3 (old (by decide) h)).keep kk, c4 := fun h => getD_set_true (II.out.c4 (old (by decide) h)), f4 := fun h => (II.out.f4 (old (by decide) h)).ext ex }
            refine AllOps.cons ?_ ?_
            · intro hu hp K hK
              have p0 := hp 0 (of_decide_eq_true (by kernel_rfl))
              have q0 := II.out.f0 p0
              have p1 := hp 1 (of_decide_eq_true (by kernel_rfl))
              have q1 := II.out.f1 p1
              clear hp
              have HU := Lib.hid hu
              clear hu
              have HC := Lib.hid (radd_calls w' s29 s30 (r) ((1 : Int)) q0 q1 (HLq.out.sm (by omega)) (HL1.out.sm (by omega)))
              rw [if_pos (by rfl)]
              go_simp
              go_at_call 22
              refine HC.out.mono ?_
              rintro e wx ⟨vv, rfl, hv, ex⟩
              go_wp2_with fail
              have kk := Keep.of ex II.out.base.size
              refine hK.out _ _ ⟨s5, s29, s30, vv, rfl, ?_⟩
              exact { base := II.out.base.trans ex, f0 := fun h => (II.out.f0 (old (by decide) h)).keep kk, f1 := fun h => (II.out.f1 (old (by decide) h)).keep kk, f2 := fun _ => hv, f3 := fun h => (II.out.f3 (old (by decide) h)).keep kk, c4 := fun h => getD_set_true (II.out.c4 (old (by decide) h)), f4 := fun h => (II.out.f4 (old (by decide) h)).ext ex }
            refine AllOps.cons ?_ ?_
            · intro hu hp K hK
              clear hp
              have HU := Lib.hid hu
              clear hu
              have ea := (Ext.refl w').alloc (.cells #[.bool false, .slice none 0 0] 24)
              rw [if_pos (by rfl)]
              go_simp
              have kk := Keep.of ea II.out.base.size
              refine hK.out _ _ ⟨(.pointer (some ⟨w'.heap.size, 0, none⟩)), s29, s30, s31, rfl, ?_⟩
              exact { base := II.out.base.trans ea, f0 := fun h => (II.out.f0 (old (by decide) h)).keep kk, f1 := fun h => (II.out.f1 (old (by decide) h)).keep kk, f2 := fun h => (II.out.f2 (old (by decide) h)).keep kk, f3 := fun _ => varInt_new II.out.base.size 24, c4 := fun h => getD_set_true (II.out.c4 (old (by decide) h)), f4 := fun h => absurd (II.out.c4 (old (by decide) h)) (by rw [HU.out]; simp) }
            refine AllOps.cons ?_ ?_
            · intro hu hp K hK
              have p2 := hp 2 (of_decide_eq_true (by kernel_rfl))
              have q2 := II.out.f2 p2
              have p3 := hp 3 (of_decide_eq_true (by kernel_rfl))
              have q3 := II.out.f3 p3
              clear hp
              have HU := Lib.hid hu
              clear hu
              obtain ⟨b, rfl, hB, ⟨x0, g0⟩, ⟨y0, m0, d0, g1⟩, fr0, fr1⟩ := q3
              have hI := q2
              obtain ⟨ao1, cap1, s1, n1, rfl, _⟩ := q2.open_
              rw [if_pos (by rfl)]
              go_simp
              have kk := keep_put hB g0 g1 s1 ao1 (limbs n1).length cap1
              refine hK.out _ _ ⟨(.pointer (some ⟨b, 0, none⟩)), s29, s30, (.agg #[.bool s1, .slice ao1 (limbs n1).length cap1]), rfl, ?_⟩
              exact { base := (II.out.base.setCell (p := ⟨b, 0, none⟩) hB _).setCell (p := ⟨b, 1, none⟩) hB _, f0 := fun h => (II.out.f0 (old (by decide) h)).keep kk, f1 := fun h => (II.out.f1 (old (by decide) h)).keep kk, f2 := fun h => (II.out.f2 (old (by decide) h)).keep kk, f3 := fun h => (II.out.f3 (old (by decide) h)).keep kk, c4 := fun _ => getD_set_true p3, f4 := fun _ => boxInt_put g0 g1 hI }
            exact AllOps.nil
          case he =>
            rintro l _ w' hall ⟨s5, s29, s30, s31, rfl, I⟩
            have q4 := I.f4 (hall 4 (by decide))
            have e1 := I.base
            clear I hall
            simp only [setAll, Act.put, List.setIfInBounds_toArray, List.set_cons_zero, List.set_cons_succ]
            go_wp2_with fail
            go_meet
            exact ⟨e1, q4⟩
        case rest =>
          obtain ⟨w4, rfl⟩ : ∃ w4, w4 = wc := ⟨_, rfl⟩
          obtain ⟨e2, ⟨b7, t7, a7, n7, p7, rfl, u0, u1, i7⟩⟩ := hcut
          replace c0 := e2.cell c0
          replace c1 := e2.cell c1
          replace x0 := e2.cell x0
          replace x1 := e2.cell x1
          replace eW := eW.trans e2
          replace j1 := j1.ext e2
          replace i5 := i5.ext e2
          clear e2
          generalize r + 1 = n at *
          rcases G1.out with g1 | g1
          · have G := Lib.hid (And.intro g1 G2.out)
            clear g1 G1 G2
            go_upto_region 7 with fail
            refine wp_region_inv (fun a0 l a w' => ∃ s2 s32 s33 s34 s35 s36 s37 s38 s39 s40 s41 s42 s43 s44 s45 s46 s47 s48 s49 s50 s51 s52 s53 s54 s55 s56 s57 s58, a = setAll a0 [(2, s2), (32, s32), (33, s33), (34, s34), (35, s35), (36, s36), (37, s37), (38, s38), (39, s39), (40, s40), (41, s41), (42, s42), (43, s43), (44, s44), (45, s45), (46, s46), (47, s47), (48, s48), (49, s49), (50, s50), (51, s51), (52, s52), (53, s53), (54, s54), (55, s55), (56, s56), (57, s57), (58, s58)] ∧ RegS7a w4 b5 z1 r n l s2 s32 s33 s34 s35 s36 s37 s38 s39 s40 s41 s42 s43 s44 s45 s46 s47 s48 s49 s50 s51 s52 s53 s54 s55 s56 s57 s58 w') (by kernel_rfl) (by kernel_rfl) 59 rfl ?h0 ?hs ?he
            case h0 =>
              intro a hn
              refine ⟨_, _, _, _, _, _, _, _, _, _, _, _, _, _, _, _, _, _, _, _, _, _, _, _, _, _, _, _, (setAll_self a 59 hn [2, 32, 33, 34, 35, 36, 37, 38, 39, 40, 41, 42, 43, 44, 45, 46, 47, 48, 49, 50, 51, 52, 53, 54, 55, 56, 57, 58] (by decide)).symm, ?_⟩
              exact { base := (Ext.refl _).drew, f0 := fun h => (none_yet h).elim, f1 := fun h => (none_yet h).elim, f2 := fun h => (none_yet h).elim, f3 := fun h => (none_yet h).elim, f4 := fun h => (none_yet h).elim, f5 := fun h => (none_yet h).elim, f6 := fun h => (none_yet h).elim, f7 := fun h => (none_yet h).elim, f8 := fun h => (none_yet h).elim, f9 := fun h => (none_yet h).elim, f10 := fun h => (none_yet h).elim, f11 := fun h => (none_yet h).elim, f12 := fun h => (none_yet h).elim, f13 := fun h => (none_yet h).elim, f14 := fun h => (none_yet h).elim, f15 := fun h => (none_yet h).elim, f16 := fun h => (none_yet h).elim, f17 := fun h => (none_yet h).elim, f18 := fun h => (none_yet h).elim, f19 := fun h => (none_yet h).elim, f20 := fun h => (none_yet h).elim, f21 := fun h => (none_yet h).elim, f22 := fun h => (none_yet h).elim, f23 := fun h => (none_yet h).elim, f24 := fun h => (none_yet h).elim, f25 := fun h => (none_yet h).elim, f26 := fun h => (none_yet h).elim, f27 := fun h => (none_yet h).elim }
            case hs =>
              rintro l _ w' ⟨s2, s32, s33, s34, s35, s36, s37, s38, s39, s40, s41, s42, s43, s44, s45, s46, s47, s48, s49, s50, s51, s52, s53, s54, s55, s56, s57, s58, rfl, I⟩
              have II := Lib.hid I
              clear I
              simp only [setAll, Act.put, List.setIfInBounds_toArray, List.set_cons_zero, List.set_cons_succ]
              refine AllOps.cons ?_ ?_
              · intro hu hp K hK
                clear hp
                have HU := Lib.hid hu
                clear hu
                rw [if_pos (by rfl)]
                go_simp
                refine hK.out _ _ ⟨s2, (.int .i64 0), s33, s34, s35, s36, s37, s38, s39, s40, s41, s42, s43, s44, s45, s46, s47, s48, s49, s50, s51, s52, s53, s54, s55, s56, s57, s58, rfl, ?_⟩
                exact { base := II.out.base, f0 := fun _ => rfl, f1 := fun h => II.out.f1 (old (by decide) h), f2 := fun h => II.out.f2 (old (by decide) h), f3 := fun h => II.out.f3 (old (by decide) h), f4 := fun h => II.out.f4 (old (by decide) h), f5 := fun h => II.out.f5 (old (by decide) h), f6 := fun h => II.out.f6 (old (by decide) h), f7 := fun h => II.out.f7 (old (by decide) h), f8 := fun h => II.out.f8 (old (by decide) h), f9 := fun h => II.out.f9 (old (by decide) h), f10 := fun h => II.out.f10 (old (by decide) h), f11 := fun h => II.out.f11 (old (by decide) h), f12 := fun h => II.out.f12 (old (by decide) h), f13 := fun h => II.out.f13 (old (by decide) h), f14 := fun h => II.out.f14 (old (by decide) h), f15 := fun h => II.out.f15 (old (by decide) h), f16 := fun h => II.out.f16 (old (by decide) h), f17 := fun h => II.out.f17 (old (by decide) h), f18 := fun h => II.out.f18 (old (by decide) h), f19 := fun h => II.out.f19 (old (by decide) h), f20 := fun h => II.out.f20 (old (by decide) h), f21 := fun h => II.out.f21 (old (by decide) h), f22 := fun h => II.out.f22 (old (by decide) h), f23 := fun h => II.out.f23 (old (by decide) h), f24 := fun h => II.out.f24 (old (by decide) h), f25 := fun h => II.out.f25 (old (by decide) h), f26 := fun h => II.out.f26 (old (by decide) h), f27 := fun h => II.out.f27 (old (by decide) h) }
              refine AllOps.cons ?_ ?_
              · intro hu hp K hK
                have p0 := hp 0 (of_decide_eq_true (by kernel_rfl))
                have q0 := II.out.f0 p0
                clear hp
                have HU := Lib.hid hu
                clear hu
                subst q0
                rw [if_pos (by rfl)]
                go_simp
                refine hK.out _ _ ⟨s2, (.int .i64 0), (.bool true), s34, s35, s36, s37, s38, s39, s40, s41, s42, s43, s44, s45, s46, s47, s48, s49, s50, s51, s52, s53, s54, s55, s56, s57, s58, rfl, ?_⟩
                exact { base := II.out.base, f0 := fun h => II.out.f0 (old (by decide) h), f1 := fun _ => rfl, f2 := fun h => II.out.f2 (old (by decide) h), f3 := fun h => II.out.f3 (old (by decide) h), f4 := fun h => II.out.f4 (old (by decide) h), f5 := fun h => II.out.f5 (old (by decide) h), f6 := fun h => II.out.f6 (old (by decide) h), f7 := fun h => II.out.f7 (old (by decide) h), f8 := fun h => II.out.f8 (old (by decide) h), f9 := fun h => II.out.f9 (old (by decide) h), f10 := fun h => II.out.f10 (old (by decide) h), f11 := fun h => II.out.f11 (old (by decide) h), f12 := fun h => II.out.f12 (old (by decide) h), f13 := fun h => II.out.f13 (old (by decide) h), f14 := fun h => II.out.f14 (old (by decide) h), f15 := fun h => II.out.f15 (old (by decide) h), f16 := fun h => II.out.f16 (old (by decide) h), f17 := fun h => II.out.f17 (old (by decide) h), f18 := fun h => II.out.f18 (old (by decide) h), f19 := fun h => II.out.f19 (old (by decide) h), f20 := fun h => II.out.f20 (old (by decide) h), f21 := fun h => II.out.f21 (old (by decide) h), f22 := fun h => II.out.f22 (old (by decide) h), f23 := fun h => II.out.f23 (old (by decide) h), f24 := fun h => II.out.f24 (old (by decide) h), f25 := fun h => II.out.f25 (old (by decide) h), f26 := fun h => II.out.f26 (old (by decide) h), f27 := fun h => II.out.f27 (old (by decide) h) }
              refine AllOps.cons ?_ ?_
              · intro hu hp K hK
                have p1 := hp 1 (of_decide_eq_true (by kernel_rfl))
                have q1 := II.out.f1 p1
                clear hp
                have HU := Lib.hid hu
                clear hu
                subst q1
                rw [if_pos (by rfl)]
                go_simp
                refine hK.out _ _ ⟨s2, s32, (.bool true), (.bool true), s35, s36, s37, s38, s39, s40, s41, s42, s43, s44, s45, s46, s47, s48, s49, s50, s51, s52, s53, s54, s55, s56, s57, s58, rfl, ?_⟩
                exact { base := II.out.base, f0 := fun h => II.out.f0 (old (by decide) h), f1 := fun h => II.out.f1 (old (by decide) h), f2 := fun _ => rfl, f3 := fun h => II.out.f3 (old (by decide) h), f4 := fun h => II.out.f4 (old (by decide) h), f5 := fun h => II.out.f5 (old (by decide) h), f6 := fun h => II.out.f6 (old (by decide) h), f7 := fun h => II.out.f7 (old (by decide) h), f8 := fun h => II.out.f8 (old (by decide) h), f9 := fun h => II.out.f9 (old (by decide) h), f10 := fun h => II.out.f10 (old (by decide) h), f11 := fun h => II.out.f11 (old (by decide) h), f12 := fun h => II.out.f12 (old (by decide) h), f13 := fun h => II.out.f13 (old (by decide) h), f14 := fun h => II.out.f14 (old (by decide) h), f15 := fun h => II.out.f15 (old (by decide) h), f16 := fun h => II.out.f16 (old (by decide) h), f17 := fun h => II.out.f17 (old (by decide) h), f18 := fun h => II.out.f18 (old (by decide) h), f19 := fun h => II.out.f19 (old (by decide) h), f20 := fun h => II.out.f20 (old (by decide) h), f21 := fun h => II.out.f21 (old (by decide) h), f22 := fun h => II.out.f22 (old (by decide) h), f23 := fun h => II.out.f23 (old (by decide) h), f24 := fun h => II.out.f24 (old (by decide) h), f25 := fun h => II.out.f25 (old (by decide) h), f26 := fun h => II.out.f26 (old (by decide) h), f27 := fun h => II.out.f27 (old (by decide) h) }
              refine AllOps.cons ?_ ?_
              · intro hu hp K hK
                have p2 := hp 2 (of_decide_eq_true (by kernel_rfl))
                have q2 := II.out.f2 p2
                clear hp
                have HU := Lib.hid hu
                clear hu
                subst q2
                have x0x := II.out.base.cell x0
                have x1x := II.out.base.cell x1
                rw [if_pos (by rfl)]
                go_simp
                refine hK.out _ _ ⟨s2, s32, s33, (.bool true), _, s36, s37, s38, s39, s40, s41, s42, s43, s44, s45, s46, s47, s48, s49, s50, s51, s52, s53, s54, s55, s56, s57, s58, rfl, ?_⟩
                exact { base := II.out.base, f0 := fun h => II.out.f0 (old (by decide) h), f1 := fun h => II.out.f1 (old (by decide) h), f2 := fun h => II.out.f2 (old (by decide) h), f3 := fun _ => (i5.ext II.out.base), f4 := fun h => II.out.f4 (old (by decide) h), f5 := fun h => II.out.f5 (old (by decide) h), f6 := fun h => II.out.f6 (old (by decide) h), f7 := fun h => II.out.f7 (old (by decide) h), f8 := fun h => II.out.f8 (old (by decide) h), f9 := fun h => II.out.f9 (old (by decide) h), f10 := fun h => II.out.f10 (old (by decide) h), f11 := fun h => II.out.f11 (old (by decide) h), f12 := fun h => II.out.f12 (old (by decide) h), f13 := fun h => II.out.f13 (old (by decide) h), f14 := fun h => II.out.f14 (old (by decide) h), f15 := fun h => II.out.f15 (old (by decide) h), f16 := fun h => II.out.f16 (old (by decide) h), f17 := fun h => II.out.f17 (old (by decide) h), f18 := fun h => II.out.f18 (old (by decide) h), f19 := fun h => II.out.f19 (old (by decide) h), f20 := fun h => II.out.f20 (old (by decide) h), f21 := fun h => II.out.f21 (old (by decide) h), f22 := fun h => II.out.f22 (old (by decide) h), f23 := fun h => II.out.f23 (old (by decide) h), f24 := fun h => II.out.f24 (old (by decide) h), f25 := fun h => II.out.f25 (old (by decide) h), f26 := fun h => II.out.f26 (old (by decide) h), f27 := fun h => II.out.f27 (old (by decide) h) }
              refine AllOps.cons ?_ ?_
              · intro hu hp K hK
                have p2 := hp 2 (of_decide_eq_true (by kernel_rfl))
                have q2 := II.out.f2 p2
                have p3 := hp 3 (of_decide_eq_true (by kernel_rfl))
                have q3 := II.out.f3 p3
                clear hp
                have HU := Lib.hid hu
                clear hu
                subst q2
                have HC := Lib.hid (rvalid_true w' s35 (r) q3)
                rw [if_pos (by rfl)]
                go_simp
                go_at_call 14
                refine HC.out.mono ?_
                rintro e wx ⟨rfl, ex⟩
                go_wp2_with fail
                have kk := Keep.of ex II.out.base.size
                refine hK.out _ _ ⟨s2, s32, s33, (.bool true), s35, (.bool true), s37, s38, s39, s40, s41, s42, s43, s44, s45, s46, s47, s48, s49, s50, s51, s52, s53, s54, s55, s56, s57, s58, rfl, ?_⟩
                exact { base := II.out.base.trans ex, f0 := fun h => II.out.f0 (old (by decide) h), f1 := fun h => II.out.f1 (old (by decide) h), f2 := fun h => II.out.f2 (old (by decide) h), f3 := fun h => (II.out.f3 (old (by decide) h)).keep kk, f4 := fun _ => rfl, f5 := fun h => II.out.f5 (old (by decide) h), f6 := fun h => II.out.f6 (old (by decide) h), f7 := fun h => II.out.f7 (old (by decide) h), f8 := fun h => II.out.f8 (old (by decide) h), f9 := fun h => II.out.f9 (old (by decide) h), f10 := fun h => II.out.f10 (old (by decide) h), f11 := fun h => II.out.f11 (old (by decide) h), f12 := fun h => (II.out.f12 (old (by decide) h)).keep kk, f13 := fun h => (II.out.f13 (old (by decide) h)).keep kk, f14 := fun h => (II.out.f14 (old (by decide) h)).keep kk, f15 := fun h => (II.out.f15 (old (by decide) h)).keep kk, f16 := fun h => II.out.f16 (old (by decide) h), f17 := fun h => II.out.f17 (old (by decide) h), f18 := fun h => II.out.f18 (old (by decide) h), f19 := fun h => II.out.f19 (old (by decide) h), f20 := fun h => (II.out.f20 (old (by decide) h)).keep kk, f21 := fun h => (II.out.f21 (old (by decide) h)).keep kk, f22 := fun h => (II.out.f22 (old (by decide) h)).keep kk, f23 := fun h => (II.out.f23 (old (by decide) h)).keep kk, f24 := fun h => II.out.f24 (old (by decide) h), f25 := fun h => II.out.f25 (old (by decide) h), f26 := fun h => II.out.f26 (old (by decide) h), f27 := fun h => II.out.f27 (old (by decide) h) }
              refine AllOps.cons ?_ ?_
              · intro hu hp K hK
                have p2 := hp 2 (of_decide_eq_true (by kernel_rfl))
                have q2 := II.out.f2 p2
                have p4 := hp 4 (of_decide_eq_true (by kernel_rfl))
                have q4 := II.out.f4 p4
                clear hp
                have HU := Lib.hid hu
                clear hu
                subst q2
                subst q4
                rw [if_pos (by rfl)]
                go_simp
                refine hK.out _ _ ⟨s2, s32, s33, (.bool true), s35, (.bool true), (.bool true), s38, s39, s40, s41, s42, s43, s44, s45, s46, s47, s48, s49, s50, s51, s52, s53, s54, s55, s56, s57, s58, rfl, ?_⟩
                exact { base := II.out.base, f0 := fun h => II.out.f0 (old (by decide) h), f1 := fun h => II.out.f1 (old (by decide) h), f2 := fun h => II.out.f2 (old (by decide) h), f3 := fun h => II.out.f3 (old (by decide) h), f4 := fun h => II.out.f4 (old (by decide) h), f5 := fun _ => rfl, f6 := fun h => II.out.f6 (old (by decide) h), f7 := fun h => II.out.f7 (old (by decide) h), f8 := fun h => II.out.f8 (old (by decide) h), f9 := fun h => II.out.f9 (old (by decide) h), f10 := fun h => II.out.f10 (old (by decide) h), f11 := fun h => II.out.f11 (old (by decide) h), f12 := fun h => II.out.f12 (old (by decide) h), f13 := fun h => II.out.f13 (old (by decide) h), f14 := fun h => II.out.f14 (old (by decide) h), f15 := fun h => II.out.f15 (old (by decide) h), f16 := fun h => II.out.f16 (old (by decide) h), f17 := fun h => II.out.f17 (old (by decide) h), f18 := fun h => II.out.f18 (old (by decide) h), f19 := fun h => II.out.f19 (old (by decide) h), f20 := fun h => II.out.f20 (old (by decide) h), f21 := fun h => II.out.f21 (old (by decide) h), f22 := fun h => II.out.f22 (old (by decide) h), f23 := fun h => II.out.f23 (old (by decide) h), f24 := fun h => II.out.f24 (old (by decide) h), f25 := fun h => II.out.f25 (old (by decide) h), f26 := fun h => II.out.f26 (old (by decide) h), f27 := fun h => II.out.f27 (old (by decide) h) }
              refine AllOps.cons ?_ ?_
              · intro hu hp K hK
                have p5 := hp 5 (of_decide_eq_true (by kernel_rfl))
                have q5 := II.out.f5 p5
                clear hp
                have HU := Lib.hid hu
                clear hu
                subst q5
                rw [if_pos (by rfl)]
                go_simp
                refine hK.out _ _ ⟨s2, s32, s33, s34, s35, s36, (.bool true), (.bool true), s39, s40, s41, s42, s43, s44, s45, s46, s47, s48, s49, s50, s51, s52, s53, s54, s55, s56, s57, s58, rfl, ?_⟩
                exact { base := II.out.base, f0 := fun h => II.out.f0 (old (by decide) h), f1 := fun h => II.out.f1 (old (by decide) h), f2 := fun h => II.out.f2 (old (by decide) h), f3 := fun h => II.out.f3 (old (by decide) h), f4 := fun h => II.out.f4 (old (by decide) h), f5 := fun h => II.out.f5 (old (by decide) h), f6 := fun _ => rfl, f7 := fun h => II.out.f7 (old (by decide) h), f8 := fun h => II.out.f8 (old (by decide) h), f9 := fun h => II.out.f9 (old (by decide) h), f10 := fun h => II.out.f10 (old (by decide) h), f11 := fun h => II.out.f11 (old (by decide) h), f12 := fun h => II.out.f12 (old (by decide) h), f13 := fun h => II.out.f13 (old (by decide) h), f14 := fun h => II.out.f14 (old (by decide) h), f15 := fun h => II.out.f15 (old (by decide) h), f16 := fun h => II.out.f16 (old (by decide) h), f17 := fun h => II.out.f17 (old (by decide) h), f18 := fun h => II.out.f18 (old (by decide) h), f19 := fun h => II.out.f19 (old (by decide) h), f20 := fun h => II.out.f20 (old (by decide) h), f21 := fun h => II.out.f21 (old (by decide) h), f22 := fun h => II.out.f22 (old (by decide) h), f23 := fun h => II.out.f23 (old (by decide) h), f24 := fun h => II.out.f24 (old (by decide) h), f25 := fun h => II.out.f25 (old (by decide) h), f26 := fun h => II.out.f26 (old (by decide) h), f27 := fun h => II.out.f27 (old (by decide) h) }
              refine AllOps.cons ?_ ?_
              · intro hu hp K hK
                have p6 := hp 6 (of_decide_eq_true (by kernel_rfl))
                have q6 := II.out.f6 p6
                clear hp
                have HU := Lib.hid hu
                clear hu
                subst q6
                rw [if_pos (by rfl)]
                go_simp
                refine hK.out _ _ ⟨s2, s32, s33, s34, s35, s36, s37, (.bool true), (.pointer (some ⟨b5, 0, none⟩)), s40, s41, s42, s43, s44, s45, s46, s47, s48, s49, s50, s51, s52, s53, s54, s55, s56, s57, s58, rfl, ?_⟩
                exact { base := II.out.base, f0 := fun h => II.out.f0 (old (by decide) h), f1 := fun h => II.out.f1 (old (by decide) h), f2 := fun h => II.out.f2 (old (by decide) h), f3 := fun h => II.out.f3 (old (by decide) h), f4 := fun h => II.out.f4 (old (by decide) h), f5 := fun h => II.out.f5 (old (by decide) h), f6 := fun h => II.out.f6 (old (by decide) h), f7 := fun _ => rfl, f8 := fun h => II.out.f8 (old (by decide) h), f9 := fun h => II.out.f9 (old (by decide) h), f10 := fun h => II.out.f10 (old (by decide) h), f11 := fun h => II.out.f11 (old (by decide) h), f12 := fun h => II.out.f12 (old (by decide) h), f13 := fun h => II.out.f13 (old (by decide) h), f14 := fun h => II.out.f14 (old (by decide) h), f15 := fun h => II.out.f15 (old (by decide) h), f16 := fun h => II.out.f16 (old (by decide) h), f17 := fun h => II.out.f17 (old (by decide) h), f18 := fun h => II.out.f18 (old (by decide) h), f19 := fun h => II.out.f19 (old (by decide) h), f20 := fun h => II.out.f20 (old (by decide) h), f21 := fun h => II.out.f21 (old (by decide) h), f22 := fun h => II.out.f22 (old (by decide) h), f23 := fun h => II.out.f23 (old (by decide) h), f24 := fun h => II.out.f24 (old (by decide) h), f25 := fun h => II.out.f25 (old (by decide) h), f26 := fun h => II.out.f26 (old (by decide) h), f27 := fun h => II.out.f27 (old (by decide) h) }
              refine AllOps.cons ?_ ?_
              · intro hu hp K hK
                have p6 := hp 6 (of_decide_eq_true (by kernel_rfl))
                have q6 := II.out.f6 p6
                have p7 := hp 7 (of_decide_eq_true (by kernel_rfl))
                have q7 := II.out.f7 p7
                clear hp
                have HU := Lib.hid hu
                clear hu
                subst q6
                subst q7
                have x0x := II.out.base.cell x0
                rw [if_pos (by rfl)]
                go_simp
                refine hK.out _ _ ⟨s2, s32, s33, s34, s35, s36, s37, (.bool true), (.pointer (some ⟨b5, 0, none⟩)), (.bool false), s41, s42, s43, s44, s45, s46, s47, s48, s49, s50, s51, s52, s53, s54, s55, s56, s57, s58, rfl, ?_⟩
                exact { base := II.out.base, f0 := fun h => II.out.f0 (old (by decide) h), f1 := fun h => II.out.f1 (old (by decide) h), f2 := fun h => II.out.f2 (old (by decide) h), f3 := fun h => II.out.f3 (old (by decide) h), f4 := fun h => II.out.f4 (old (by decide) h), f5 := fun h => II.out.f5 (old (by decide) h), f6 := fun h => II.out.f6 (old (by decide) h), f7 := fun h => II.out.f7 (old (by decide) h), f8 := fun _ => rfl, f9 := fun h => II.out.f9 (old (by decide) h), f10 := fun h => II.out.f10 (old (by decide) h), f11 := fun h => II.out.f11 (old (by decide) h), f12 := fun h => II.out.f12 (old (by decide) h), f13 := fun h => II.out.f13 (old (by decide) h), f14 := fun h => II.out.f14 (old (by decide) h), f15 := fun h => II.out.f15 (old (by decide) h), f16 := fun h => II.out.f16 (old (by decide) h), f17 := fun h => II.out.f17 (old (by decide) h), f18 := fun h => II.out.f18 (old (by decide) h), f19 := fun h => II.out.f19 (old (by decide) h), f20 := fun h => II.out.f20 (old (by decide) h), f21 := fun h => II.out.f21 (old (by decide) h), f22 := fun h => II.out.f22 (old (by decide) h), f23 := fun h => II.out.f23 (old (by decide) h), f24 := fun h => II.out.f24 (old (by decide) h), f25 := fun h => II.out.f25 (old (by decide) h), f26 := fun h => II.out.f26 (old (by decide) h), f27 := fun h => II.out.f27 (old (by decide) h) }
              refine AllOps.cons ?_ ?_
              · intro hu hp K hK
                have p6 := hp 6 (of_decide_eq_true (by kernel_rfl))
                have q6 := II.out.f6 p6
                have p8 := hp 8 (of_decide_eq_true (by kernel_rfl))
                have q8 := II.out.f8 p8
                clear hp
                have HU := Lib.hid hu
                clear hu
                subst q6
                subst q8
                rw [if_pos (by rfl)]
                go_simp
                refine hK.out _ _ ⟨s2, s32, s33, s34, s35, s36, s37, (.bool true), s39, (.bool false), (.bool true), s42, s43, s44, s45, s46, s47, s48, s49, s50, s51, s52, s53, s54, s55, s56, s57, s58, rfl, ?_⟩
                exact { base := II.out.base, f0 := fun h => II.out.f0 (old (by decide) h), f1 := fun h => II.out.f1 (old (by decide) h), f2 := fun h => II.out.f2 (old (by decide) h), f3 := fun h => II.out.f3 (old (by decide) h), f4 := fun h => II.out.f4 (old (by decide) h), f5 := fun h => II.out.f5 (old (by decide) h), f6 := fun h => II.out.f6 (old (by decide) h), f7 := fun h => II.out.f7 (old (by decide) h), f8 := fun h => II.out.f8 (old (by decide) h), f9 := fun _ => rfl, f10 := fun h => II.out.f10 (old (by decide) h), f11 := fun h => II.out.f11 (old (by decide) h), f12 := fun h => II.out.f12 (old (by decide) h), f13 := fun h => II.out.f13 (old (by decide) h), f14 := fun h => II.out.f14 (old (by decide) h), f15 := fun h => II.out.f15 (old (by decide) h), f16 := fun h => II.out.f16 (old (by decide) h), f17 := fun h => II.out.f17 (old (by decide) h), f18 := fun h => II.out.f18 (old (by decide) h), f19 := fun h => II.out.f19 (old (by decide) h), f20 := fun h => II.out.f20 (old (by decide) h), f21 := fun h => II.out.f21 (old (by decide) h), f22 := fun h => II.out.f22 (old (by decide) h), f23 := fun h => II.out.f23 (old (by decide) h), f24 := fun h => II.out.f24 (old (by decide) h), f25 := fun h => II.out.f25 (old (by decide) h), f26 := fun h => II.out.f26 (old (by decide) h), f27 := fun h => II.out.f27 (old (by decide) h) }
              refine AllOps.cons ?_ ?_
              · intro hu hp K hK
                have p6 := hp 6 (of_decide_eq_true (by kernel_rfl))
                have q6 := II.out.f6 p6
                have p9 := hp 9 (of_decide_eq_true (by kernel_rfl))
                have q9 := II.out.f9 p9
                clear hp
                have HU := Lib.hid hu
                clear hu
                subst q6
                subst q9
                rw [if_pos (by rfl)]
                go_simp
                refine hK.out _ _ ⟨s2, s32, s33, s34, s35, s36, s37, (.bool true), s39, s40, (.bool true), (.bool true), s43, s44, s45, s46, s47, s48, s49, s50, s51, s52, s53, s54, s55, s56, s57, s58, rfl, ?_⟩
                exact { base := II.out.base, f0 := fun h => II.out.f0 (old (by decide) h), f1 := fun h => II.out.f1 (old (by decide) h), f2 := fun h => II.out.f2 (old (by decide) h), f3 := fun h => II.out.f3 (old (by decide) h), f4 := fun h => II.out.f4 (old (by decide) h), f5 := fun h => II.out.f5 (old (by decide) h), f6 := fun h => II.out.f6 (old (by decide) h), f7 := fun h => II.out.f7 (old (by decide) h), f8 := fun h => II.out.f8 (old (by decide) h), f9 := fun h => II.out.f9 (old (by decide) h), f10 := fun _ => rfl, f11 := fun h => II.out.f11 (old (by decide) h), f12 := fun h => II.out.f12 (old (by decide) h), f13 := fun h => II.out.f13 (old (by decide) h), f14 := fun h => II.out.f14 (old (by decide) h), f15 := fun h => II.out.f15 (old (by decide) h), f16 := fun h => II.out.f16 (old (by decide) h), f17 := fun h => II.out.f17 (old (by decide) h), f18 := fun h => II.out.f18 (old (by decide) h), f19 := fun h => II.out.f19 (old (by decide) h), f20 := fun h => II.out.f20 (old (by decide) h), f21 := fun h => II.out.f21 (old (by decide) h), f22 := fun h => II.out.f22 (old (by decide) h), f23 := fun h => II.out.f23 (old (by decide) h), f24 := fun h => II.out.f24 (old (by decide) h), f25 := fun h => II.out.f25 (old (by decide) h), f26 := fun h => II.out.f26 (old (by decide) h), f27 := fun h => II.out.f27 (old (by decide) h) }
              refine AllOps.cons ?_ ?_
              · intro hu hp K hK
                have p10 := hp 10 (of_decide_eq_true (by kernel_rfl))
                have q10 := II.out.f10 p10
                clear hp
                have HU := Lib.hid hu
                clear hu
                subst q10
                rw [if_pos (by rfl)]
                go_simp
                refine hK.out _ _ ⟨s2, s32, s33, s34, s35, s36, s37, s38, s39, s40, s41, (.bool true), (.bool true), s44, s45, s46, s47, s48, s49, s50, s51, s52, s53, s54, s55, s56, s57, s58, rfl, ?_⟩
                exact { base := II.out.base, f0 := fun h => II.out.f0 (old (by decide) h), f1 := fun h => II.out.f1 (old (by decide) h), f2 := fun h => II.out.f2 (old (by decide) h), f3 := fun h => II.out.f3 (old (by decide) h), f4 := fun h => II.out.f4 (old (by decide) h), f5 := fun h => II.out.f5 (old (by decide) h), f6 := fun h => II.out.f6 (old (by decide) h), f7 := fun h => II.out.f7 (old (by decide) h), f8 := fun h => II.out.f8 (old (by decide) h), f9 := fun h => II.out.f9 (old (by decide) h), f10 := fun h => II.out.f10 (old (by decide) h), f11 := fun _ => rfl, f12 := fun h => II.out.f12 (old (by decide) h), f13 := fun h => II.out.f13 (old (by decide) h), f14 := fun h => II.out.f14 (old (by decide) h), f15 := fun h => II.out.f15 (old (by decide) h), f16 := fun h => II.out.f16 (old (by decide) h), f17 := fun h => II.out.f17 (old (by decide) h), f18 := fun h => II.out.f18 (old (by decide) h), f19 := fun h => II.out.f19 (old (by decide) h), f20 := fun h => II.out.f20 (old (by decide) h), f21 := fun h => II.out.f21 (old (by decide) h), f22 := fun h => II.out.f22 (old (by decide) h), f23 := fun h => II.out.f23 (old (by decide) h), f24 := fun h => II.out.f24 (old (by decide) h), f25 := fun h => II.out.f25 (old (by decide) h), f26 := fun h => II.out.f26 (old (by decide) h), f27 := fun h => II.out.f27 (old (by decide) h) }
              refine AllOps.cons ?_ ?_
              · intro hu hp K hK
                have p11 := hp 11 (of_decide_eq_true (by kernel_rfl))
                have q11 := II.out.f11 p11
                clear hp
                have HU := Lib.hid hu
                clear hu
                subst q11
                have x0x := II.out.base.cell x0
                have x1x := II.out.base.cell x1
                rw [if_pos (by rfl)]
                go_simp
                refine hK.out _ _ ⟨s2, s32, s33, s34, s35, s36, s37, s38, s39, s40, s41, s42, (.bool true), _, s45, s46, s47, s48, s49, s50, s51, s52, s53, s54, s55, s56, s57, s58, rfl, ?_⟩
                exact { base := II.out.base, f0 := fun h => II.out.f0 (old (by decide) h), f1 := fun h => II.out.f1 (old (by decide) h), f2 := fun h => II.out.f2 (old (by decide) h), f3 := fun h => II.out.f3 (old (by decide) h), f4 := fun h => II.out.f4 (old (by decide) h), f5 := fun h => II.out.f5 (old (by decide) h), f6 := fun h => II.out.f6 (old (by decide) h), f7 := fun h => II.out.f7 (old (by decide) h), f8 := fun h => II.out.f8 (old (by decide) h), f9 := fun h => II.out.f9 (old (by decide) h), f10 := fun h => II.out.f10 (old (by decide) h), f11 := fun h => II.out.f11 (old (by decide) h), f12 := fun _ => (i5.ext II.out.base), f13 := fun h => II.out.f13 (old (by decide) h), f14 := fun h => II.out.f14 (old (by decide) h), f15 := fun h => II.out.f15 (old (by decide) h), f16 := fun h => II.out.f16 (old (by decide) h), f17 := fun h => II.out.f17 (old (by decide) h), f18 := fun h => II.out.f18 (old (by decide) h), f19 := fun h => II.out.f19 (old (by decide) h), f20 := fun h => II.out.f20 (old (by decide) h), f21 := fun h => II.out.f21 (old (by decide) h), f22 := fun h => II.out.f22 (old (by decide) h), f23 := fun h => II.out.f23 (old (by decide) h), f24 := fun h => II.out.f24 (old (by decide) h), f25 := fun h => II.out.f25 (old (by decide) h), f26 := fun h => II.out.f26 (old (by decide) h), f27 := fun h => II.out.f27 (old (by decide) h) }
              refine AllOps.cons ?_ ?_
              · intro hu hp K hK
                have p11 := hp 11 (of_decide_eq_true (by kernel_rfl))
                have q11 := II.out.f11 p11
                clear hp
                have HU := Lib.hid hu
                clear hu
                subst q11
                have x0x := II.out.base.cell x0
                have x1x := II.out.base.cell x1
                rw [if_pos (by rfl)]
                go_simp
                refine hK.out _ _ ⟨s2, s32, s33, s34, s35, s36, s37, s38, s39, s40, s41, s42, (.bool true), s44, _, s46, s47, s48, s49, s50, s51, s52, s53, s54, s55, s56, s57, s58, rfl, ?_⟩
                exact { base := II.out.base, f0 := fun h => II.out.f0 (old (by decide) h), f1 := fun h => II.out.f1 (old (by decide) h), f2 := fun h => II.out.f2 (old (by decide) h), f3 := fun h => II.out.f3 (old (by decide) h), f4 := fun h => II.out.f4 (old (by decide) h), f5 := fun h => II.out.f5 (old (by decide) h), f6 := fun h => II.out.f6 (old (by decide) h), f7 := fun h => II.out.f7 (old (by decide) h), f8 := fun h => II.out.f8 (old (by decide) h), f9 := fun h => II.out.f9 (old (by decide) h), f10 := fun h => II.out.f10 (old (by decide) h), f11 := fun h => II.out.f11 (old (by decide) h), f12 := fun h => II.out.f12 (old (by decide) h), f13 := fun _ => (i5.ext II.out.base), f14 := fun h => II.out.f14 (old (by decide) h), f15 := fun h => II.out.f15 (old (by decide) h), f16 := fun h => II.out.f16 (old (by decide) h), f17 := fun h => II.out.f17 (old (by decide) h), f18 := fun h => II.out.f18 (old (by decide) h), f19 := fun h => II.out.f19 (old (by decide) h), f20 := fun h => II.out.f20 (old (by decide) h), f21 := fun h => II.out.f21 (old (by decide) h), f22 := fun h => II.out.f22 (old (by decide) h), f23 := fun h => II.out.f23 (old (by decide) h), f24 := fun h => II.out.f24 (old (by decide) h), f25 := fun h => II.out.f25 (old (by decide) h), f26 := fun h => II.out.f26 (old (by decide) h), f27 := fun h => II.out.f27 (old (by decide) h) }
              refine AllOps.cons ?_ ?_
              · intro hu hp K hK
                have p11 := hp 11 (of_decide_eq_true (by kernel_rfl))
                have q11 := II.out.f11 p11
                have p12 := hp 12 (of_decide_eq_true (by kernel_rfl))
                have q12 := II.out.f12 p12
                have p13 := hp 13 (of_decide_eq_true (by kernel_rfl))
                have q13 := II.out.f13 p13
                clear hp
                have HU := Lib.hid hu
                clear hu
                subst q11
                have HC := Lib.hid (rmul_calls w' s44 s45 (r) (r) q12 q13 (HLq.out.sm (by omega)) (HLq.out.sm (by omega)))
                rw [if_pos (by rfl)]
                go_simp
                go_at_call 32
                refine HC.out.mono ?_
                rintro e wx ⟨vv, rfl, hv, ex⟩
                go_wp2_with fail
                have kk := Keep.of ex II.out.base.size
                refine hK.out _ _ ⟨s2, s32, s33, s34, s35, s36, s37, s38, s39, s40, s41, s42, (.bool true), s44, s45, vv, s47, s48, s49, s50, s51, s52, s53, s54, s55, s56, s57, s58, rfl, ?_⟩
                exact { base := II.out.base.trans ex, f0 := fun h => II.out.f0 (old (by decide) h), f1 := fun h => II.out.f1 (old (by decide) h), f2 := fun h => II.out.f2 (old (by decide) h), f3 := fun h => (II.out.f3 (old (by decide) h)).keep kk, f4 := fun h => II.out.f4 (old (by decide) h), f5 := fun h => II.out.f5 (old (by decide) h), f6 := fun h => II.out.f6 (old (by decide) h), f7 := fun h => II.out.f7 (old (by decide) h), f8 := fun h => II.out.f8 (old (by decide) h), f9 := fun h => II.out.f9 (old (by decide) h), f10 := fun h => II.out.f10 (old (by decide) h), f11 := fun h => II.out.f11 (old (by decide) h), f12 := fun h => (II.out.f12 (old (by decide) h)).keep kk, f13 := fun h => (II.out.f13 (old (by decide) h)).keep kk, f14 := fun _ => hv, f15 := fun h => (II.out.f15 (old (by decide) h)).keep kk, f16 := fun h => II.out.f16 (old (by decide) h), f17 := fun h => II.out.f17 (old (by decide) h), f18 := fun h => II.out.f18 (old (by decide) h), f19 := fun h => II.out.f19 (old (by decide) h), f20 := fun h => (II.out.f20 (old (by decide) h)).keep kk, f21 := fun h => (II.out.f21 (old (by decide) h)).keep kk, f22 := fun h => (II.out.f22 (old (by decide) h)).keep kk, f23 := fun h => (II.out.f23 (old (by decide) h)).keep kk, f24 := fun h => II.out.f24 (old (by decide) h), f25 := fun h => II.out.f25 (old (by decide) h), f26 := fun h => II.out.f26 (old (by decide) h), f27 := fun h => II.out.f27 (old (by decide) h) }
              refine AllOps.cons ?_ ?_
              · intro hu hp K hK
                have p11 := hp 11 (of_decide_eq_true (by kernel_rfl))
                have q11 := II.out.f11 p11
                clear hp
                have HU := Lib.hid hu
                clear hu
                subst q11
                have c0x := II.out.base.cell c0
                have c1x := II.out.base.cell c1
                rw [if_pos (by rfl)]
                go_simp
                refine hK.out _ _ ⟨s2, s32, s33, s34, s35, s36, s37, s38, s39, s40, s41, s42, (.bool true), s44, s45, s46, _, s48, s49, s50, s51, s52, s53, s54, s55, s56, s57, s58, rfl, ?_⟩
                exact { base := II.out.base, f0 := fun h => II.out.f0 (old (by decide) h), f1 := fun h => II.out.f1 (old (by decide) h), f2 := fun h => II.out.f2 (old (by decide) h), f3 := fun h => II.out.f3 (old (by decide) h), f4 := fun h => II.out.f4 (old (by decide) h), f5 := fun h => II.out.f5 (old (by decide) h), f6 := fun h => II.out.f6 (old (by decide) h), f7 := fun h => II.out.f7 (old (by decide) h), f8 := fun h => II.out.f8 (old (by decide) h), f9 := fun h => II.out.f9 (old (by decide) h), f10 := fun h => II.out.f10 (old (by decide) h), f11 := fun h => II.out.f11 (old (by decide) h), f12 := fun h => II.out.f12 (old (by decide) h), f13 := fun h => II.out.f13 (old (by decide) h), f14 := fun h => II.out.f14 (old (by decide) h), f15 := fun _ => (j1.ext II.out.base), f16 := fun h => II.out.f16 (old (by decide) h), f17 := fun h => II.out.f17 (old (by decide) h), f18 := fun h => II.out.f18 (old (by decide) h), f19 := fun h => II.out.f19 (old (by decide) h), f20 := fun h => II.out.f20 (old (by decide) h), f21 := fun h => II.out.f21 (old (by decide) h), f22 := fun h => II.out.f22 (old (by decide) h), f23 := fun h => II.out.f23 (old (by decide) h), f24 := fun h => II.out.f24 (old (by decide) h), f25 := fun h => II.out.f25 (old (by decide) h), f26 := fun h => II.out.f26 (old (by decide) h), f27 := fun h => II.out.f27 (old (by decide) h) }
              refine AllOps.cons ?_ ?_
              · intro hu hp K hK
                have p11 := hp 11 (of_decide_eq_true (by kernel_rfl))
                have q11 := II.out.f11 p11
                have p14 := hp 14 (of_decide_eq_true (by kernel_rfl))
                have q14 := II.out.f14 p14
                have p15 := hp 15 (of_decide_eq_true (by kernel_rfl))
                have q15 := II.out.f15 p15
                clear hp
                have HU := Lib.hid hu
                clear hu
                subst q11
                have HC := Lib.hid (rcmp_lit w' s46 s47 ((r) * (r)) (z1) (-1) q14 q15 G.out.1)
                rw [if_pos (by rfl)]
                go_simp
                go_at_call 30
                refine HC.out.mono ?_
                rintro e wx ⟨rfl, ex⟩
                go_wp2_with fail
                have kk := Keep.of ex II.out.base.size
                refine hK.out _ _ ⟨s2, s32, s33, s34, s35, s36, s37, s38, s39, s40, s41, s42, (.bool true), s44, s45, s46, s47, (.int .i64 (-1)), s49, s50, s51, s52, s53, s54, s55, s56, s57, s58, rfl, ?_⟩
                exact { base := II.out.base.trans ex, f0 := fun h => II.out.f0 (old (by decide) h), f1 := fun h => II.out.f1 (old (by decide) h), f2 := fun h => II.out.f2 (old (by decide) h), f3 := fun h => (II.out.f3 (old (by decide) h)).keep kk, f4 := fun h => II.out.f4 (old (by decide) h), f5 := fun h => II.out.f5 (old (by decide) h), f6 := fun h => II.out.f6 (old (by decide) h), f7 := fun h => II.out.f7 (old (by decide) h), f8 := fun h => II.out.f8 (old (by decide) h), f9 := fun h => II.out.f9 (old (by decide) h), f10 := fun h => II.out.f10 (old (by decide) h), f11 := fun h => II.out.f11 (old (by decide) h), f12 := fun h => (II.out.f12 (old (by decide) h)).keep kk, f13 := fun h => (II.out.f13 (old (by decide) h)).keep kk, f14 := fun h => (II.out.f14 (old (by decide) h)).keep kk, f15 := fun h => (II.out.f15 (old (by decide) h)).keep kk, f16 := fun _ => rfl, f17 := fun h => II.out.f17 (old (by decide) h), f18 := fun h => II.out.f18 (old (by decide) h), f19 := fun h => II.out.f19 (old (by decide) h), f20 := fun h => (II.out.f20 (old (by decide) h)).keep kk, f21 := fun h => (II.out.f21 (old (by decide) h)).keep kk, f22 := fun h => (II.out.f22 (old (by decide) h)).keep kk, f23 := fun h => (II.out.f23 (old (by decide) h)).keep kk, f24 := fun h => II.out.f24 (old (by decide) h), f25 := fun h => II.out.f25 (old (by decide) h), f26 := fun h => II.out.f26 (old (by decide) h), f27 := fun h => II.out.f27 (old (by decide) h) }
              refine AllOps.cons ?_ ?_
              · intro hu hp K hK
                have p11 := hp 11 (of_decide_eq_true (by kernel_rfl))
                have q11 := II.out.f11 p11
                have p16 := hp 16 (of_decide_eq_true (by kernel_rfl))
                have q16 := II.out.f16 p16
                clear hp
                have HU := Lib.hid hu
                clear hu
                subst q11
                subst q16
                rw [if_pos (by rfl)]
                go_simp
                refine hK.out _ _ ⟨s2, s32, s33, s34, s35, s36, s37, s38, s39, s40, s41, s42, (.bool true), s44, s45, s46, s47, (.int .i64 (-1)), (.bool true), s50, s51, s52, s53, s54, s55, s56, s57, s58, rfl, ?_⟩
                exact { base := II.out.base, f0 := fun h => II.out.f0 (old (by decide) h), f1 := fun h => II.out.f1 (old (by decide) h), f2 := fun h => II.out.f2 (old (by decide) h), f3 := fun h => II.out.f3 (old (by decide) h), f4 := fun h => II.out.f4 (old (by decide) h), f5 := fun h => II.out.f5 (old (by decide) h), f6 := fun h => II.out.f6 (old (by decide) h), f7 := fun h => II.out.f7 (old (by decide) h), f8 := fun h => II.out.f8 (old (by decide) h), f9 := fun h => II.out.f9 (old (by decide) h), f10 := fun h => II.out.f10 (old (by decide) h), f11 := fun h => II.out.f11 (old (by decide) h), f12 := fun h => II.out.f12 (old (by decide) h), f13 := fun h => II.out.f13 (old (by decide) h), f14 := fun h => II.out.f14 (old (by decide) h), f15 := fun h => II.out.f15 (old (by decide) h), f16 := fun h => II.out.f16 (old (by decide) h), f17 := fun _ => rfl, f18 := fun h => II.out.f18 (old (by decide) h), f19 := fun h => II.out.f19 (old (by decide) h), f20 := fun h => II.out.f20 (old (by decide) h), f21 := fun h => II.out.f21 (old (by decide) h), f22 := fun h => II.out.f22 (old (by decide) h), f23 := fun h => II.out.f23 (old (by decide) h), f24 := fun h => II.out.f24 (old (by decide) h), f25 := fun h => II.out.f25 (old (by decide) h), f26 := fun h => II.out.f26 (old (by decide) h), f27 := fun h => II.out.f27 (old (by decide) h) }
              refine AllOps.cons ?_ ?_
              · intro hu hp K hK
                have p11 := hp 11 (of_decide_eq_true (by kernel_rfl))
                have q11 := II.out.f11 p11
                have p17 := hp 17 (of_decide_eq_true (by kernel_rfl))
                have q17 := II.out.f17 p17
                clear hp
                have HU := Lib.hid hu
                clear hu
                subst q11
                subst q17
                rw [if_pos (by rfl)]
                go_simp
                refine hK.out _ _ ⟨s2, s32, s33, s34, s35, s36, s37, s38, s39, s40, s41, s42, (.bool true), s44, s45, s46, s47, s48, (.bool true), (.bool true), s51, s52, s53, s54, s55, s56, s57, s58, rfl, ?_⟩
                exact { base := II.out.base, f0 := fun h => II.out.f0 (old (by decide) h), f1 := fun h => II.out.f1 (old (by decide) h), f2 := fun h => II.out.f2 (old (by decide) h), f3 := fun h => II.out.f3 (old (by decide) h), f4 := fun h => II.out.f4 (old (by decide) h), f5 := fun h => II.out.f5 (old (by decide) h), f6 := fun h => II.out.f6 (old (by decide) h), f7 := fun h => II.out.f7 (old (by decide) h), f8 := fun h => II.out.f8 (old (by decide) h), f9 := fun h => II.out.f9 (old (by decide) h), f10 := fun h => II.out.f10 (old (by decide) h), f11 := fun h => II.out.f11 (old (by decide) h), f12 := fun h => II.out.f12 (old (by decide) h), f13 := fun h => II.out.f13 (old (by decide) h), f14 := fun h => II.out.f14 (old (by decide) h), f15 := fun h => II.out.f15 (old (by decide) h), f16 := fun h => II.out.f16 (old (by decide) h), f17 := fun h => II.out.f17 (old (by decide) h), f18 := fun _ => rfl, f19 := fun h => II.out.f19 (old (by decide) h), f20 := fun h => II.out.f20 (old (by decide) h), f21 := fun h => II.out.f21 (old (by decide) h), f22 := fun h => II.out.f22 (old (by decide) h), f23 := fun h => II.out.f23 (old (by decide) h), f24 := fun h => II.out.f24 (old (by decide) h), f25 := fun h => II.out.f25 (old (by decide) h), f26 := fun h => II.out.f26 (old (by decide) h), f27 := fun h => II.out.f27 (old (by decide) h) }
              refine AllOps.cons ?_ ?_
              · intro hu hp K hK
                have p18 := hp 18 (of_decide_eq_true (by kernel_rfl))
                have q18 := II.out.f18 p18
                clear hp
                have HU := Lib.hid hu
                clear hu
                subst q18
                rw [if_pos (by rfl)]
                go_simp
                refine hK.out _ _ ⟨s2, s32, s33, s34, s35, s36, s37, s38, s39, s40, s41, s42, s43, s44, s45, s46, s47, s48, s49, (.bool true), (.bool true), s52, s53, s54, s55, s56, s57, s58, rfl, ?_⟩
                exact { base := II.out.base, f0 := fun h => II.out.f0 (old (by decide) h), f1 := fun h => II.out.f1 (old (by decide) h), f2 := fun h => II.out.f2 (old (by decide) h), f3 := fun h => II.out.f3 (old (by decide) h), f4 := fun h => II.out.f4 (old (by decide) h), f5 := fun h => II.out.f5 (old (by decide) h), f6 := fun h => II.out.f6 (old (by decide) h), f7 := fun h => II.out.f7 (old (by decide) h), f8 := fun h => II.out.f8 (old (by decide) h), f9 := fun h => II.out.f9 (old (by decide) h), f10 := fun h => II.out.f10 (old (by decide) h), f11 := fun h => II.out.f11 (old (by decide) h), f12 := fun h => II.out.f12 (old (by decide) h), f13 := fun h => II.out.f13 (old (by decide) h), f14 := fun h => II.out.f14 (old (by decide) h), f15 := fun h => II.out.f15 (old (by decide) h), f16 := fun h => II.out.f16 (old (by decide) h), f17 := fun h => II.out.f17 (old (by decide) h), f18 := fun h => II.out.f18 (old (by decide) h), f19 := fun _ => rfl, f20 := fun h => II.out.f20 (old (by decide) h), f21 := fun h => II.out.f21 (old (by decide) h), f22 := fun h => II.out.f22 (old (by decide) h), f23 := fun h => II.out.f23 (old (by decide) h), f24 := fun h => II.out.f24 (old (by decide) h), f25 := fun h => II.out.f25 (old (by decide) h), f26 := fun h => II.out.f26 (old (by decide) h), f27 := fun h => II.out.f27 (old (by decide) h) }
              refine AllOps.cons ?_ ?_
              · intro hu hp K hK
                have p19 := hp 19 (of_decide_eq_true (by kernel_rfl))
                have q19 := II.out.f19 p19
                clear hp
                have HU := Lib.hid hu
                clear hu
                subst q19
                have u0x := II.out.base.cell u0
                have u1x := II.out.base.cell u1
                rw [if_pos (by rfl)]
                go_simp
                refine hK.out _ _ ⟨s2, s32, s33, s34, s35, s36, s37, s38, s39, s40, s41, s42, s43, s44, s45, s46, s47, s48, s49, s50, (.bool true), _, s53, s54, s55, s56, s57, s58, rfl, ?_⟩
                exact { base := II.out.base, f0 := fun h => II.out.f0 (old (by decide) h), f1 := fun h => II.out.f1 (old (by decide) h), f2 := fun h => II.out.f2 (old (by decide) h), f3 := fun h => II.out.f3 (old (by decide) h), f4 := fun h => II.out.f4 (old (by decide) h), f5 := fun h => II.out.f5 (old (by decide) h), f6 := fun h => II.out.f6 (old (by decide) h), f7 := fun h => II.out.f7 (old (by decide) h), f8 := fun h => II.out.f8 (old (by decide) h), f9 := fun h => II.out.f9 (old (by decide) h), f10 := fun h => II.out.f10 (old (by decide) h), f11 := fun h => II.out.f11 (old (by decide) h), f12 := fun h => II.out.f12 (old (by decide) h), f13 := fun h => II.out.f13 (old (by decide) h), f14 := fun h => II.out.f14 (old (by decide) h), f15 := fun h => II.out.f15 (old (by decide) h), f16 := fun h => II.out.f16 (old (by decide) h), f17 := fun h => II.out.f17 (old (by decide) h), f18 := fun h => II.out.f18 (old (by decide) h), f19 := fun h => II.out.f19 (old (by decide) h), f20 := fun _ => (i7.ext II.out.base), f21 := fun h => II.out.f21 (old (by decide) h), f22 := fun h => II.out.f22 (old (by decide) h), f23 := fun h => II.out.f23 (old (by decide) h), f24 := fun h => II.out.f24 (old (by decide) h), f25 := fun h => II.out.f25 (old (by decide) h), f26 := fun h => II.out.f26 (old (by decide) h), f27 := fun h => II.out.f27 (old (by decide) h) }
              refine AllOps.cons ?_ ?_
              · intro hu hp K hK
                have p19 := hp 19 (of_decide_eq_true (by kernel_rfl))
                have q19 := II.out.f19 p19
                clear hp
                have HU := Lib.hid hu
                clear hu
                subst q19
                have u0x := II.out.base.cell u0
                have u1x := II.out.base.cell u1
                rw [if_pos (by rfl)]
                go_simp
                refine hK.out _ _ ⟨s2, s32, s33, s34, s35, s36, s37, s38, s39, s40, s41, s42, s43, s44, s45, s46, s47, s48, s49, s50, (.bool true), s52, _, s54, s55, s56, s57, s58, rfl, ?_⟩
                exact { base := II.out.base, f0 := fun h => II.out.f0 (old (by decide) h), f1 := fun h => II.out.f1 (old (by decide) h), f2 := fun h => II.out.f2 (old (by decide) h), f3 := fun h => II.out.f3 (old (by decide) h), f4 := fun h => II.out.f4 (old (by decide) h), f5 := fun h => II.out.f5 (old (by decide) h), f6 := fun h => II.out.f6 (old (by decide) h), f7 := fun h => II.out.f7 (old (by decide) h), f8 := fun h => II.out.f8 (old (by decide) h), f9 := fun h => II.out.f9 (old (by decide) h), f10 := fun h => II.out.f10 (old (by decide) h), f11 := fun h => II.out.f11 (old (by decide) h), f12 := fun h => II.out.f12 (old (by decide) h), f13 := fun h => II.out.f13 (old (by decide) h), f14 := fun h => II.out.f14 (old (by decide) h), f15 := fun h => II.out.f15 (old (by decide) h), f16 := fun h => II.out.f16 (old (by decide) h), f17 := fun h => II.out.f17 (old (by decide) h), f18 := fun h => II.out.f18 (old (by decide) h), f19 := fun h => II.out.f19 (old (by decide) h), f20 := fun h => II.out.f20 (old (by decide) h), f21 := fun _ => (i7.ext II.out.base), f22 := fun h => II.out.f22 (old (by decide) h), f23 := fun h => II.out.f23 (old (by decide) h), f24 := fun h => II.out.f24 (old (by decide) h), f25 := fun h => II.out.f25 (old (by decide) h), f26 := fun h => II.out.f26 (old (by decide) h), f27 := fun h => II.out.f27 (old (by decide) h) }
              refine AllOps.cons ?_ ?_
              · intro hu hp K hK
                have p19 := hp 19 (of_decide_eq_true (by kernel_rfl))
                have q19 := II.out.f19 p19
                have p20 := hp 20 (of_decide_eq_true (by kernel_rfl))
                have q20 := II.out.f20 p20
                have p21 := hp 21 (of_decide_eq_true (by kernel_rfl))
                have q21 := II.out.f21 p21
                clear hp
                have HU := Lib.hid hu
                clear hu
                subst q19
                have HC := Lib.hid (rmul_calls w' s52 s53 (n) (n) q20 q21 (HLn.out.sm (by omega)) (HLn.out.sm (by omega)))
                rw [if_pos (by rfl)]
                go_simp
                go_at_call 32
                refine HC.out.mono ?_
                rintro e wx ⟨vv, rfl, hv, ex⟩
                go_wp2_with fail
                have kk := Keep.of ex II.out.base.size
                refine hK.out _ _ ⟨s2, s32, s33, s34, s35, s36, s37, s38, s39, s40, s41, s42, s43, s44, s45, s46, s47, s48, s49, s50, (.bool true), s52, s53, vv, s55, s56, s57, s58, rfl, ?_⟩
                exact { base := II.out.base.trans ex, f0 := fun h => II.out.f0 (old (by decide) h), f1 := fun h => II.out.f1 (old (by decide) h), f2 := fun h => II.out.f2 (old (by decide) h), f3 := fun h => (II.out.f3 (old (by decide) h)).keep kk, f4 := fun h => II.out.f4 (old (by decide) h), f5 := fun h => II.out.f5 (old (by decide) h), f6 := fun h => II.out.f6 (old (by decide) h), f7 := fun h => II.out.f7 (old (by decide) h), f8 := fun h => II.out.f8 (old (by decide) h), f9 := fun h => II.out.f9 (old (by decide) h), f10 := fun h => II.out.f10 (old (by decide) h), f11 := fun h => II.out.f11 (old (by decide) h), f12 := fun h => (II.out.f12 (old (by decide) h)).keep kk, f13 := fun h => (II.out.f13 (old (by decide) h)).keep kk, f14 := fun h => (II.out.f14 (old (by decide) h)).keep kk, f15 := fun h => (II.out.f15 (old (by decide) h)).keep kk, f16 := fun h => II.out.f16 (old (by decide) h), f17 := fun h => II.out.f17 (old (by decide) h), f18 := fun h => II.out.f18 (old (by decide) h), f19 := fun h => II.out.f19 (old (by decide) h), f20 := fun h => (II.out.f20 (old (by decide) h)).keep kk, f21 := fun h => (II.out.f21 (old (by decide) h)).keep kk, f22 := fun _ => hv, f23 := fun h => (II.out.f23 (old (by decide) h)).keep kk, f24 := fun h => II.out.f24 (old (by decide) h), f25 := fun h => II.out.f25 (old (by decide) h), f26 := fun h => II.out.f26 (old (by decide) h), f27 := fun h => II.out.f27 (old (by decide) h) }
              refine AllOps.cons ?_ ?_
              · intro hu hp K hK
                have p19 := hp 19 (of_decide_eq_true (by kernel_rfl))
                have q19 := II.out.f19 p19
                clear hp
                have HU := Lib.hid hu
                clear hu
                subst q19
                have c0x := II.out.base.cell c0
                have c1x := II.out.base.cell c1
                rw [if_pos (by rfl)]
                go_simp
                refine hK.out _ _ ⟨s2, s32, s33, s34, s35, s36, s37, s38, s39, s40, s41, s42, s43, s44, s45, s46, s47, s48, s49, s50, (.bool true), s52, s53, s54, _, s56, s57, s58, rfl, ?_⟩
                exact { base := II.out.base, f0 := fun h => II.out.f0 (old (by decide) h), f1 := fun h => II.out.f1 (old (by decide) h), f2 := fun h => II.out.f2 (old (by decide) h), f3 := fun h => II.out.f3 (old (by decide) h), f4 := fun h => II.out.f4 (old (by decide) h), f5 := fun h => II.out.f5 (old (by decide) h), f6 := fun h => II.out.f6 (old (by decide) h), f7 := fun h => II.out.f7 (old (by decide) h), f8 := fun h => II.out.f8 (old (by decide) h), f9 := fun h => II.out.f9 (old (by decide) h), f10 := fun h => II.out.f10 (old (by decide) h), f11 := fun h => II.out.f11 (old (by decide) h), f12 := fun h => II.out.f12 (old (by decide) h), f13 := fun h => II.out.f13 (old (by decide) h), f14 := fun h => II.out.f14 (old (by decide) h), f15 := fun h => II.out.f15 (old (by decide) h), f16 := fun h => II.out.f16 (old (by decide) h), f17 := fun h => II.out.f17 (old (by decide) h), f18 := fun h => II.out.f18 (old (by decide) h), f19 := fun h => II.out.f19 (old (by decide) h), f20 := fun h => II.out.f20 (old (by decide) h), f21 := fun h => II.out.f21 (old (by decide) h), f22 := fun h => II.out.f22 (old (by decide) h), f23 := fun _ => (j1.ext II.out.base), f24 := fun h => II.out.f24 (old (by decide) h), f25 := fun h => II.out.f25 (old (by decide) h), f26 := fun h => II.out.f26 (old (by decide) h), f27 := fun h => II.out.f27 (old (by decide) h) }
              refine AllOps.cons ?_ ?_
              · intro hu hp K hK
                have p19 := hp 19 (of_decide_eq_true (by kernel_rfl))
                have q19 := II.out.f19 p19
                have p22 := hp 22 (of_decide_eq_true (by kernel_rfl))
                have q22 := II.out.f22 p22
                have p23 := hp 23 (of_decide_eq_true (by kernel_rfl))
                have q23 := II.out.f23 p23
                clear hp
                have HU := Lib.hid hu
                clear hu
                subst q19
                have HC := Lib.hid (rcmp_lit w' s54 s55 ((n) * (n)) (z1) (1) q22 q23 G.out.2)
                rw [if_pos (by rfl)]
                go_simp
                go_at_call 30
                refine HC.out.mono ?_
                rintro e wx ⟨rfl, ex⟩
                go_wp2_with fail
                have kk := Keep.of ex II.out.base.size
                refine hK.out _ _ ⟨s2, s32, s33, s34, s35, s36, s37, s38, s39, s40, s41, s42, s43, s44, s45, s46, s47, s48, s49, s50, (.bool true), s52, s53, s54, s55, (.int .i64 1), s57, s58, rfl, ?_⟩
                exact { base := II.out.base.trans ex, f0 := fun h => II.out.f0 (old (by decide) h), f1 := fun h => II.out.f1 (old (by decide) h), f2 := fun h => II.out.f2 (old (by decide) h), f3 := fun h => (II.out.f3 (old (by decide) h)).keep kk, f4 := fun h => II.out.f4 (old (by decide) h), f5 := fun h => II.out.f5 (old (by decide) h), f6 := fun h => II.out.f6 (old (by decide) h), f7 := fun h => II.out.f7 (old (by decide) h), f8 := fun h => II.out.f8 (old (by decide) h), f9 := fun h => II.out.f9 (old (by decide) h), f10 := fun h => II.out.f10 (old (by decide) h), f11 := fun h => II.out.f11 (old (by decide) h), f12 := fun h => (II.out.f12 (old (by decide) h)).keep kk, f13 := fun h => (II.out.f13 (old (by decide) h)).keep kk, f14 := fun h => (II.out.f14 (old (by decide) h)).keep kk, f15 := fun h => (II.out.f15 (old (by decide) h)).keep kk, f16 := fun h => II.out.f16 (old (by decide) h), f17 := fun h => II.out.f17 (old (by decide) h), f18 := fun h => II.out.f18 (old (by decide) h), f19 := fun h => II.out.f19 (old (by decide) h), f20 := fun h => (II.out.f20 (old (by decide) h)).keep kk, f21 := fun h => (II.out.f21 (old (by decide) h)).keep kk, f22 := fun h => (II.out.f22 (old (by decide) h)).keep kk, f23 := fun h => (II.out.f23 (old (by decide) h)).keep kk, f24 := fun _ => rfl, f25 := fun h => II.out.f25 (old (by decide) h), f26 := fun h => II.out.f26 (old (by decide) h), f27 := fun h => II.out.f27 (old (by decide) h) }
              refine AllOps.cons ?_ ?_
              · intro hu hp K hK
                have p19 := hp 19 (of_decide_eq_true (by kernel_rfl))
                have q19 := II.out.f19 p19
                have p24 := hp 24 (of_decide_eq_true (by kernel_rfl))
                have q24 := II.out.f24 p24
                clear hp
                have HU := Lib.hid hu
                clear hu
                subst q19
                subst q24
                rw [if_pos (by rfl)]
                go_simp
                refine hK.out _ _ ⟨s2, s32, s33, s34, s35, s36, s37, s38, s39, s40, s41, s42, s43, s44, s45, s46, s47, s48, s49, s50, (.bool true), s52, s53, s54, s55, (.int .i64 1), (.bool true), s58, rfl, ?_⟩
                exact { base := II.out.base, f0 := fun h => II.out.f0 (old (by decide) h), f1 := fun h => II.out.f1 (old (by decide) h), f2 := fun h => II.out.f2 (old (by decide) h), f3 := fun h => II.out.f3 (old (by decide) h), f4 := fun h => II.out.f4 (old (by decide) h), f5 := fun h => II.out.f5 (old (by decide) h), f6 := fun h => II.out.f6 (old (by decide) h), f7 := fun h => II.out.f7 (old (by decide) h), f8 := fun h => II.out.f8 (old (by decide) h), f9 := fun h => II.out.f9 (old (by decide) h), f10 := fun h => II.out.f10 (old (by decide) h), f11 := fun h => II.out.f11 (old (by decide) h), f12 := fun h => II.out.f12 (old (by decide) h), f13 := fun h => II.out.f13 (old (by decide) h), f14 := fun h => II.out.f14 (old (by decide) h), f15 := fun h => II.out.f15 (old (by decide) h), f16 := fun h => II.out.f16 (old (by decide) h), f17 := fun h => II.out.f17 (old (by decide) h), f18 := fun h => II.out.f18 (old (by decide) h), f19 := fun h => II.out.f19 (old (by decide) h), f20 := fun h => II.out.f20 (old (by decide) h), f21 := fun h => II.out.f21 (old (by decide) h), f22 := fun h => II.out.f22 (old (by decide) h), f23 := fun h => II.out.f23 (old (by decide) h), f24 := fun h => II.out.f24 (old (by decide) h), f25 := fun _ => rfl, f26 := fun h => II.out.f26 (old (by decide) h), f27 := fun h => II.out.f27 (old (by decide) h) }
              refine AllOps.cons ?_ ?_
              · intro hu hp K hK
                have p19 := hp 19 (of_decide_eq_true (by kernel_rfl))
                have q19 := II.out.f19 p19
                have p25 := hp 25 (of_decide_eq_true (by kernel_rfl))
                have q25 := II.out.f25 p25
                clear hp
                have HU := Lib.hid hu
                clear hu
                subst q19
                subst q25
                rw [if_pos (by rfl)]
                go_simp
                refine hK.out _ _ ⟨s2, s32, s33, s34, s35, s36, s37, s38, s39, s40, s41, s42, s43, s44, s45, s46, s47, s48, s49, s50, (.bool true), s52, s53, s54, s55, s56, (.bool true), (.bool true), rfl, ?_⟩
                exact { base := II.out.base, f0 := fun h => II.out.f0 (old (by decide) h), f1 := fun h => II.out.f1 (old (by decide) h), f2 := fun h => II.out.f2 (old (by decide) h), f3 := fun h => II.out.f3 (old (by decide) h), f4 := fun h => II.out.f4 (old (by decide) h), f5 := fun h => II.out.f5 (old (by decide) h), f6 := fun h => II.out.f6 (old (by decide) h), f7 := fun h => II.out.f7 (old (by decide) h), f8 := fun h => II.out.f8 (old (by decide) h), f9 := fun h => II.out.f9 (old (by decide) h), f10 := fun h => II.out.f10 (old (by decide) h), f11 := fun h => II.out.f11 (old (by decide) h), f12 := fun h => II.out.f12 (old (by decide) h), f13 := fun h => II.out.f13 (old (by decide) h), f14 := fun h => II.out.f14 (old (by decide) h), f15 := fun h => II.out.f15 (old (by decide) h), f16 := fun h => II.out.f16 (old (by decide) h), f17 := fun h => II.out.f17 (old (by decide) h), f18 := fun h => II.out.f18 (old (by decide) h), f19 := fun h => II.out.f19 (old (by decide) h), f20 := fun h => II.out.f20 (old (by decide) h), f21 := fun h => II.out.f21 (old (by decide) h), f22 := fun h => II.out.f22 (old (by decide) h), f23 := fun h => II.out.f23 (old (by decide) h), f24 := fun h => II.out.f24 (old (by decide) h), f25 := fun h => II.out.f25 (old (by decide) h), f26 := fun _ => rfl, f27 := fun h => II.out.f27 (old (by decide) h) }
              refine AllOps.cons ?_ ?_
              · intro hu hp K hK
                have p26 := hp 26 (of_decide_eq_true (by kernel_rfl))
                have q26 := II.out.f26 p26
                clear hp
                have HU := Lib.hid hu
                clear hu
                subst q26
                rw [if_pos (by rfl)]
                go_simp
                refine hK.out _ _ ⟨(.bool true), s32, s33, s34, s35, s36, s37, s38, s39, s40, s41, s42, s43, s44, s45, s46, s47, s48, s49, s50, s51, s52, s53, s54, s55, s56, s57, (.bool true), rfl, ?_⟩
                exact { base := II.out.base, f0 := fun h => II.out.f0 (old (by decide) h), f1 := fun h => II.out.f1 (old (by decide) h), f2 := fun h => II.out.f2 (old (by decide) h), f3 := fun h => II.out.f3 (old (by decide) h), f4 := fun h => II.out.f4 (old (by decide) h), f5 := fun h => II.out.f5 (old (by decide) h), f6 := fun h => II.out.f6 (old (by decide) h), f7 := fun h => II.out.f7 (old (by decide) h), f8 := fun h => II.out.f8 (old (by decide) h), f9 := fun h => II.out.f9 (old (by decide) h), f10 := fun h => II.out.f10 (old (by decide) h), f11 := fun h => II.out.f11 (old (by decide) h), f12 := fun h => II.out.f12 (old (by decide) h), f13 := fun h => II.out.f13 (old (by decide) h), f14 := fun h => II.out.f14 (old (by decide) h), f15 := fun h => II.out.f15 (old (by decide) h), f16 := fun h => II.out.f16 (old (by decide) h), f17 := fun h => II.out.f17 (old (by decide) h), f18 := fun h => II.out.f18 (old (by decide) h), f19 := fun h => II.out.f19 (old (by decide) h), f20 := fun h => II.out.f20 (old (by decide) h), f21 := fun h => II.out.f21 (old (by decide) h), f22 := fun h => II.out.f22 (old (by decide) h), f23 := fun h => II.out.f23 (old (by decide) h), f24 := fun h => II.out.f24 (old (by decide) h), f25 := fun h => II.out.f25 (old (by decide) h), f26 := fun h => II.out.f26 (old (by decide) h), f27 := fun _ => rfl }
              exact AllOps.nil
            case he =>
              rintro l _ w' hall ⟨s2, s32, s33, s34, s35, s36, s37, s38, s39, s40, s41, s42, s43, s44, s45, s46, s47, s48, s49, s50, s51, s52, s53, s54, s55, s56, s57, s58, rfl, I⟩
              have q27 := I.f27 (hall 27 (by decide))
              have e1 := I.base
              clear I hall
              simp only [setAll, Act.put, List.setIfInBounds_toArray, List.set_cons_zero, List.set_cons_succ]
              obtain rfl := q27
              go_wp2_with fail
              go_ret
              exact ⟨rfl, eW.trans e1⟩
          · have G := Lib.hid (And.intro g1 G2.out)
            clear g1 G1 G2
            go_upto_region 7 with fail
            refine wp_region_inv (fun a0 l a w' => ∃ s2 s32 s33 s34 s35 s36 s37 s38 s39 s40 s41 s42 s43 s44 s45 s46 s47 s48 s49 s50 s51 s52 s53 s54 s55 s56 s57 s58, a = setAll a0 [(2, s2), (32, s32), (33, s33), (34, s34), (35, s35), (36, s36), (37, s37), (38, s38), (39, s39), (40, s40), (41, s41), (42, s42), (43, s43), (44, s44), (45, s45), (46, s46), (47, s47), (48, s48), (49, s49), (50, s50), (51, s51), (52, s52), (53, s53), (54, s54), (55, s55), (56, s56), (57, s57), (58, s58)] ∧ RegS7b w4 b5 z1 r n l s2 s32 s33 s34 s35 s36 s37 s38 s39 s40 s41 s42 s43 s44 s45 s46 s47 s48 s49 s50 s51 s52 s53 s54 s55 s56 s57 s58 w') (by kernel_rfl) (by kernel_rfl) 59 rfl ?h0 ?hs ?he
            case h0 =>
              intro a hn
              refine ⟨_, _, _, _, _, _, _, _, _, _, _, _, _, _, _, _, _, _, _, _, _, _, _, _, _, _, _, _, (setAll_self a 59 hn [2, 32, 33, 34, 35, 36, 37, 38, 39, 40, 41, 42, 43, 44, 45, 46, 47, 48, 49, 50, 51, 52, 53, 54, 55, 56, 57, 58] (by decide)).symm, ?_⟩
              exact { base := (Ext.refl _).drew, f0 := fun h => (none_yet h).elim, f1 := fun h => (none_yet h).elim, f2 := fun h => (none_yet h).elim, f3 := fun h => (none_yet h).elim, f4 := fun h => (none_yet h).elim, f5 := fun h => (none_yet h).elim, f6 := fun h => (none_yet h).elim, f7 := fun h => (none_yet h).elim, f8 := fun h => (none_yet h).elim, f9 := fun h => (none_yet h).elim, f10 := fun h => (none_yet h).elim, f11 := fun h => (none_yet h).elim, f12 := fun h => (none_yet h).elim, f13 := fun h => (none_yet h).elim, f14 := fun h => (none_yet h).elim, f15 := fun h => (none_yet h).elim, f16 := fun h => (none_yet h).elim, f17 := fun h => (none_yet h).elim, f18 := fun h => (none_yet h).elim, f19 := fun h => (none_yet h).elim, f20 := fun h => (none_yet h).elim, f21 := fun h => (none_yet h).elim, f22 := fun h => (none_yet h).elim, f23 := fun h => (none_yet h).elim, f24 := fun h => (none_yet h).elim, f25 := fun h => (none_yet h).elim, f26 := fun h => (none_yet h).elim, f27 := fun h => (none_yet h).elim }
            case hs =>
              rintro l _ w' ⟨s2, s32, s33, s34, s35, s36, s37, s38, s39, s40, s41, s42, s43, s44, s45, s46, s47, s48, s49, s50, s51, s52, s53, s54, s55, s56, s57, s58, rfl, I⟩
              have II := Lib.hid I
              clear I
              simp only [setAll, Act.put, List.setIfInBounds_toArray, List.set_cons_zero, List.set_cons_succ]
              refine AllOps.cons ?_ ?_
              · intro hu hp K hK
                clear hp
                have HU := Lib.hid hu
                clear hu
                rw [if_pos (by rfl)]
                go_simp
                refine hK.out _ _ ⟨s2, (.int .i64 0), s33, s34, s35, s36, s37, s38, s39, s40, s41, s42, s43, s44, s45, s46, s47, s48, s49, s50, s51, s52, s53, s54, s55, s56, s57, s58, rfl, ?_⟩
                exact { base := II.out.base, f0 := fun _ => rfl, f1 := fun h => II.out.f1 (old (by decide) h), f2 := fun h => II.out.f2 (old (by decide) h), f3 := fun h => II.out.f3 (old (by decide) h), f4 := fun h => II.out.f4 (old (by decide) h), f5 := fun h => II.out.f5 (old (by decide) h), f6 := fun h => II.out.f6 (old (by decide) h), f7 := fun h => II.out.f7 (old (by decide) h), f8 := fun h => II.out.f8 (old (by decide) h), f9 := fun h => II.out.f9 (old (by decide) h), f10 := fun h => II.out.f10 (old (by decide) h), f11 := fun h => II.out.f11 (old (by decide) h), f12 := fun h => II.out.f12 (old (by decide) h), f13 := fun h => II.out.f13 (old (by decide) h), f14 := fun h => II.out.f14 (old (by decide) h), f15 := fun h => II.out.f15 (old (by decide) h), f16 := fun h => II.out.f16 (old (by decide) h), f17 := fun h => II.out.f17 (old (by decide) h), f18 := fun h => II.out.f18 (old (by decide) h), f19 := fun h => II.out.f19 (old (by decide) h), f20 := fun h => II.out.f20 (old (by decide) h), f21 := fun h => II.out.f21 (old (by decide) h), f22 := fun h => II.out.f22 (old (by decide) h), f23 := fun h => II.out.f23 (old (by decide) h), f24 := fun h => II.out.f24 (old (by decide) h), f25 := fun h => II.out.f25 (old (by decide) h), f26 := fun h => II.out.f26 (old (by decide) h), f27 := fun h => II.out.f27 (old (by decide) h) }
              refine AllOps.cons ?_ ?_
              · intro hu hp K hK
                have p0 := hp 0 (of_decide_eq_true (by kernel_rfl))
                have q0 := II.out.f0 p0
                clear hp
                have HU := Lib.hid hu
                clear hu
                subst q0
                rw [if_pos (by rfl)]
                go_simp
                refine hK.out _ _ ⟨s2, (.int .i64 0), (.bool true), s34, s35, s36, s37, s38, s39, s40, s41, s42, s43, s44, s45, s46, s47, s48, s49, s50, s51, s52, s53, s54, s55, s56, s57, s58, rfl, ?_⟩
                exact { base := II.out.base, f0 := fun h => II.out.f0 (old (by decide) h), f1 := fun _ => rfl, f2 := fun h => II.out.f2 (old (by decide) h), f3 := fun h => II.out.f3 (old (by decide) h), f4 := fun h => II.out.f4 (old (by decide) h), f5 := fun h => II.out.f5 (old (by decide) h), f6 := fun h => II.out.f6 (old (by decide) h), f7 := fun h => II.out.f7 (old (by decide) h), f8 := fun h => II.out.f8 (old (by decide) h), f9 := fun h => II.out.f9 (old (by decide) h), f10 := fun h => II.out.f10 (old (by decide) h), f11 := fun h => II.out.f11 (old (by decide) h), f12 := fun h => II.out.f12 (old (by decide) h), f13 := fun h => II.out.f13 (old (by decide) h), f14 := fun h => II.out.f14 (old (by decide) h), f15 := fun h => II.out.f15 (old (by decide) h), f16 := fun h => II.out.f16 (old (by decide) h), f17 := fun h => II.out.f17 (old (by decide) h), f18 := fun h => II.out.f18 (old (by decide) h), f19 := fun h => II.out.f19 (old (by decide) h), f20 := fun h => II.out.f20 (old (by decide) h), f21 := fun h => II.out.f21 (old (by decide) h), f22 := fun h => II.out.f22 (old (by decide) h), f23 := fun h => II.out.f23 (old (by decide) h), f24 := fun h => II.out.f24 (old (by decide) h), f25 := fun h => II.out.f25 (old (by decide) h), f26 := fun h => II.out.f26 (old (by decide) h), f27 := fun h => II.out.f27 (old (by decide) h) }
              refine AllOps.cons ?_ ?_
              · intro hu hp K hK
                have p1 := hp 1 (of_decide_eq_true (by kernel_rfl))
                have q1 := II.out.f1 p1
                clear hp
                have HU := Lib.hid hu
                clear hu
                subst q1
                rw [if_pos (by rfl)]
                go_simp
                refine hK.out _ _ ⟨s2, s32, (.bool true), (.bool true), s35, s36, s37, s38, s39, s40, s41, s42, s43, s44, s45, s46, s47, s48, s49, s50, s51, s52, s53, s54, s55, s56, s57, s58, rfl, ?_⟩
                exact { base := II.out.base, f0 := fun h => II.out.f0 (old (by decide) h), f1 := fun h => II.out.f1 (old (by decide) h), f2 := fun _ => rfl, f3 := fun h => II.out.f3 (old (by decide) h), f4 := fun h => II.out.f4 (old (by decide) h), f5 := fun h => II.out.f5 (old (by decide) h), f6 := fun h => II.out.f6 (old (by decide) h), f7 := fun h => II.out.f7 (old (by decide) h), f8 := fun h => II.out.f8 (old (by decide) h), f9 := fun h => II.out.f9 (old (by decide) h), f10 := fun h => II.out.f10 (old (by decide) h), f11 := fun h => II.out.f11 (old (by decide) h), f12 := fun h => II.out.f12 (old (by decide) h), f13 := fun h => II.out.f13 (old (by decide) h), f14 := fun h => II.out.f14 (old (by decide) h), f15 := fun h => II.out.f15 (old (by decide) h), f16 := fun h => II.out.f16 (old (by decide) h), f17 := fun h => II.out.f17 (old (by decide) h), f18 := fun h => II.out.f18 (old (by decide) h), f19 := fun h => II.out.f19 (old (by decide) h), f20 := fun h => II.out.f20 (old (by decide) h), f21 := fun h => II.out.f21 (old (by decide) h), f22 := fun h => II.out.f22 (old (by decide) h), f23 := fun h => II.out.f23 (old (by decide) h), f24 := fun h => II.out.f24 (old (by decide) h), f25 := fun h => II.out.f25 (old (by decide) h), f26 := fun h => II.out.f26 (old (by decide) h), f27 := fun h => II.out.f27 (old (by decide) h) }
              refine AllOps.cons ?_ ?_
              · intro hu hp K hK
                have p2 := hp 2 (of_decide_eq_true (by kernel_rfl))
                have q2 := II.out.f2 p2
                clear hp
                have HU := Lib.hid hu
                clear hu
                subst q2
                have x0x := II.out.base.cell x0
                have x1x := II.out.base.cell x1
                rw [if_pos (by rfl)]
                go_simp
                refine hK.out _ _ ⟨s2, s32, s33, (.bool true), _, s36, s37, s38, s39, s40, s41, s42, s43, s44, s45, s46, s47, s48, s49, s50, s51, s52, s53, s54, s55, s56, s57, s58, rfl, ?_⟩
                exact { base := II.out.base, f0 := fun h => II.out.f0 (old (by decide) h), f1 := fun h => II.out.f1 (old (by decide) h), f2 := fun h => II.out.f2 (old (by decide) h), f3 := fun _ => (i5.ext II.out.base), f4 := fun h => II.out.f4 (old (by decide) h), f5 := fun h => II.out.f5 (old (by decide) h), f6 := fun h => II.out.f6 (old (by decide) h), f7 := fun h => II.out.f7 (old (by decide) h), f8 := fun h => II.out.f8 (old (by decide) h), f9 := fun h => II.out.f9 (old (by decide) h), f10 := fun h => II.out.f10 (old (by decide) h), f11 := fun h => II.out.f11 (old (by decide) h), f12 := fun h => II.out.f12 (old (by decide) h), f13 := fun h => II.out.f13 (old (by decide) h), f14 := fun h => II.out.f14 (old (by decide) h), f15 := fun h => II.out.f15 (old (by decide) h), f16 := fun h => II.out.f16 (old (by decide) h), f17 := fun h => II.out.f17 (old (by decide) h), f18 := fun h => II.out.f18 (old (by decide) h), f19 := fun h => II.out.f19 (old (by decide) h), f20 := fun h => II.out.f20 (old (by decide) h), f21 := fun h => II.out.f21 (old (by decide) h), f22 := fun h => II.out.f22 (old (by decide) h), f23 := fun h => II.out.f23 (old (by decide) h), f24 := fun h => II.out.f24 (old (by decide) h), f25 := fun h => II.out.f25 (old (by decide) h), f26 := fun h => II.out.f26 (old (by decide) h), f27 := fun h => II.out.f27 (old (by decide) h) }
              refine AllOps.cons ?_ ?_
              · intro hu hp K hK
                have p2 := hp 2 (of_decide_eq_true (by kernel_rfl))
                have q2 := II.out.f2 p2
                have p3 := hp 3 (of_decide_eq_true (by kernel_rfl))
                have q3 := II.out.f3 p3
                clear hp
                have HU := Lib.hid hu
                clear hu
                subst q2
                have HC := Lib.hid (rvalid_true w' s35 (r) q3)
                rw [if_pos (by rfl)]
                go_simp
                go_at_call 14
                refine HC.out.mono ?_
                rintro e wx ⟨rfl, ex⟩
                go_wp2_with fail
                have kk := Keep.of ex II.out.base.size
                refine hK.out _ _ ⟨s2, s32, s33, (.bool true), s35, (.bool true), s37, s38, s39, s40, s41, s42, s43, s44, s45, s46, s47, s48, s49, s50, s51, s52, s53, s54, s55, s56, s57, s58, rfl, ?_⟩
                exact { base := II.out.base.trans ex, f0 := fun h => II.out.f0 (old (by decide) h), f1 := fun h => II.out.f1 (old (by decide) h), f2 := fun h => II.out.f2 (old (by decide) h), f3 := fun h => (II.out.f3 (old (by decide) h)).keep kk, f4 := fun _ => rfl, f5 := fun h => II.out.f5 (old (by decide) h), f6 := fun h => II.out.f6 (old (by decide) h), f7 := fun h => II.out.f7 (old (by decide) h), f8 := fun h => II.out.f8 (old (by decide) h), f9 := fun h => II.out.f9 (old (by decide) h), f10 := fun h => II.out.f10 (old (by decide) h), f11 := fun h => II.out.f11 (old (by decide) h), f12 := fun h => (II.out.f12 (old (by decide) h)).keep kk, f13 := fun h => (II.out.f13 (old (by decide) h)).keep kk, f14 := fun h => (II.out.f14 (old (by decide) h)).keep kk, f15 := fun h => (II.out.f15 (old (by decide) h)).keep kk, f16 := fun h => II.out.f16 (old (by decide) h), f17 := fun h => II.out.f17 (old (by decide) h), f18 := fun h => II.out.f18 (old (by decide) h), f19 := fun h => II.out.f19 (old (by decide) h), f20 := fun h => (II.out.f20 (old (by decide) h)).keep kk, f21 := fun h => (II.out.f21 (old (by decide) h)).keep kk, f22 := fun h => (II.out.f22 (old (by decide) h)).keep kk, f23 := fun h => (II.out.f23 (old (by decide) h)).keep kk, f24 := fun h => II.out.f24 (old (by decide) h), f25 := fun h => II.out.f25 (old (by decide) h), f26 := fun h => II.out.f26 (old (by decide) h), f27 := fun h => II.out.f27 (old (by decide) h) }
              refine AllOps.cons ?_ ?_
              · intro hu hp K hK
                have p2 := hp 2 (of_decide_eq_true (by kernel_rfl))
                have q2 := II.out.f2 p2
                have p4 := hp 4 (of_decide_eq_true (by kernel_rfl))
                have q4 := II.out.f4 p4
                clear hp
                have HU := Lib.hid hu
                clear hu
                subst q2
                subst q4
                rw [if_pos (by rfl)]
                go_simp
                refine hK.out _ _ ⟨s2, s32, s33, (.bool true), s35, (.bool true), (.bool true), s38, s39, s40, s41, s42, s43, s44, s45, s46, s47, s48, s49, s50, s51, s52, s53, s54, s55, s56, s57, s58, rfl, ?_⟩
                exact { base := II.out.base, f0 := fun h => II.out.f0 (old (by decide) h), f1 := fun h => II.out.f1 (old (by decide) h), f2 := fun h => II.out.f2 (old (by decide) h), f3 := fun h => II.out.f3 (old (by decide) h), f4 := fun h => II.out.f4 (old (by decide) h), f5 := fun _ => rfl, f6 := fun h => II.out.f6 (old (by decide) h), f7 := fun h => II.out.f7 (old (by decide) h), f8 := fun h => II.out.f8 (old (by decide) h), f9 := fun h => II.out.f9 (old (by decide) h), f10 := fun h => II.out.f10 (old (by decide) h), f11 := fun h => II.out.f11 (old (by decide) h), f12 := fun h => II.out.f12 (old (by decide) h), f13 := fun h => II.out.f13 (old (by decide) h), f14 := fun h => II.out.f14 (old (by decide) h), f15 := fun h => II.out.f15 (old (by decide) h), f16 := fun h => II.out.f16 (old (by decide) h), f17 := fun h => II.out.f17 (old (by decide) h), f18 := fun h => II.out.f18 (old (by decide) h), f19 := fun h => II.out.f19 (old (by decide) h), f20 := fun h => II.out.f20 (old (by decide) h), f21 := fun h => II.out.f21 (old (by decide) h), f22 := fun h => II.out.f22 (old (by decide) h), f23 := fun h => II.out.f23 (old (by decide) h), f24 := fun h => II.out.f24 (old (by decide) h), f25 := fun h => II.out.f25 (old (by decide) h), f26 := fun h => II.out.f26 (old (by decide) h), f27 := fun h => II.out.f27 (old (by decide) h) }
              refine AllOps.cons ?_ ?_
              · intro hu hp K hK
                have p5 := hp 5 (of_decide_eq_true (by kernel_rfl))
                have q5 := II.out.f5 p5
                clear hp
                have HU := Lib.hid hu
                clear hu
                subst q5
                rw [if_pos (by rfl)]
                go_simp
                refine hK.out _ _ ⟨s2, s32, s33, s34, s35, s36, (.bool true), (.bool true), s39, s40, s41, s42, s43, s44, s45, s46, s47, s48, s49, s50, s51, s52, s53, s54, s55, s56, s57, s58, rfl, ?_⟩
                exact { base := II.out.base, f0 := fun h => II.out.f0 (old (by decide) h), f1 := fun h => II.out.f1 (old (by decide) h), f2 := fun h => II.out.f2 (old (by decide) h), f3 := fun h => II.out.f3 (old (by decide) h), f4 := fun h => II.out.f4 (old (by decide) h), f5 := fun h => II.out.f5 (old (by decide) h), f6 := fun _ => rfl, f7 := fun h => II.out.f7 (old (by decide) h), f8 := fun h => II.out.f8 (old (by decide) h), f9 := fun h => II.out.f9 (old (by decide) h), f10 := fun h => II.out.f10 (old (by decide) h), f11 := fun h => II.out.f11 (old (by decide) h), f12 := fun h => II.out.f12 (old (by decide) h), f13 := fun h => II.out.f13 (old (by decide) h), f14 := fun h => II.out.f14 (old (by decide) h), f15 := fun h => II.out.f15 (old (by decide) h), f16 := fun h => II.out.f16 (old (by decide) h), f17 := fun h => II.out.f17 (old (by decide) h), f18 := fun h => II.out.f18 (old (by decide) h), f19 := fun h => II.out.f19 (old (by decide) h), f20 := fun h => II.out.f20 (old (by decide) h), f21 := fun h => II.out.f21 (old (by decide) h), f22 := fun h => II.out.f22 (old (by decide) h), f23 := fun h => II.out.f23 (old (by decide) h), f24 := fun h => II.out.f24 (old (by decide) h), f25 := fun h => II.out.f25 (old (by decide) h), f26 := fun h => II.out.f26 (old (by decide) h), f27 := fun h => II.out.f27 (old (by decide) h) }
              refine AllOps.cons ?_ ?_
              · intro hu hp K hK
                have p6 := hp 6 (of_decide_eq_true (by kernel_rfl))
                have q6 := II.out.f6 p6
                clear hp
                have HU := Lib.hid hu
                clear hu
                subst q6
                rw [if_pos (by rfl)]
                go_simp
                refine hK.out _ _ ⟨s2, s32, s33, s34, s35, s36, s37, (.bool true), (.pointer (some ⟨b5, 0, none⟩)), s40, s41, s42, s43, s44, s45, s46, s47, s48, s49, s50, s51, s52, s53, s54, s55, s56, s57, s58, rfl, ?_⟩
                exact { base := II.out.base, f0 := fun h => II.out.f0 (old (by decide) h), f1 := fun h => II.out.f1 (old (by decide) h), f2 := fun h => II.out.f2 (old (by decide) h), f3 := fun h => II.out.f3 (old (by decide) h), f4 := fun h => II.out.f4 (old (by decide) h), f5 := fun h => II.out.f5 (old (by decide) h), f6 := fun h => II.out.f6 (old (by decide) h), f7 := fun _ => rfl, f8 := fun h => II.out.f8 (old (by decide) h), f9 := fun h => II.out.f9 (old (by decide) h), f10 := fun h => II.out.f10 (old (by decide) h), f11 := fun h => II.out.f11 (old (by decide) h), f12 := fun h => II.out.f12 (old (by decide) h), f13 := fun h => II.out.f13 (old (by decide) h), f14 := fun h => II.out.f14 (old (by decide) h), f15 := fun h => II.out.f15 (old (by decide) h), f16 := fun h => II.out.f16 (old (by decide) h), f17 := fun h => II.out.f17 (old (by decide) h), f18 := fun h => II.out.f18 (old (by decide) h), f19 := fun h => II.out.f19 (old (by decide) h), f20 := fun h => II.out.f20 (old (by decide) h), f21 := fun h => II.out.f21 (old (by decide) h), f22 := fun h => II.out.f22 (old (by decide) h), f23 := fun h => II.out.f23 (old (by decide) h), f24 := fun h => II.out.f24 (old (by decide) h), f25 := fun h => II.out.f25 (old (by decide) h), f26 := fun h => II.out.f26 (old (by decide) h), f27 := fun h => II.out.f27 (old (by decide) h) }
              refine AllOps.cons ?_ ?_
              · intro hu hp K hK
                have p6 := hp 6 (of_decide_eq_true (by kernel_rfl))
                have q6 := II.out.f6 p6
                have p7 := hp 7 (of_decide_eq_true (by kernel_rfl))
                have q7 := II.out.f7 p7
                clear hp
                have HU := Lib.hid hu
                clear hu
                subst q6
                subst q7
                have x0x := II.out.base.cell x0
                rw [if_pos (by rfl)]
                go_simp
                refine hK.out _ _ ⟨s2, s32, s33, s34, s35, s36, s37, (.bool true), (.pointer (some ⟨b5, 0, none⟩)), (.bool false), s41, s42, s43, s44, s45, s46, s47, s48, s49, s50, s51, s52, s53, s54, s55, s56, s57, s58, rfl, ?_⟩
                exact { base := II.out.base, f0 := fun h => II.out.f0 (old (by decide) h), f1 := fun h => II.out.f1 (old (by decide) h), f2 := fun h => II.out.f2 (old (by decide) h), f3 := fun h => II.out.f3 (old (by decide) h), f4 := fun h => II.out.f4 (old (by decide) h), f5 := fun h => II.out.f5 (old (by decide) h), f6 := fun h => II.out.f6 (old (by decide) h), f7 := fun h => II.out.f7 (old (by decide) h), f8 := fun _ => rfl, f9 := fun h => II.out.f9 (old (by decide) h), f10 := fun h => II.out.f10 (old (by decide) h), f11 := fun h => II.out.f11 (old (by decide) h), f12 := fun h => II.out.f12 (old (by decide) h), f13 := fun h => II.out.f13 (old (by decide) h), f14 := fun h => II.out.f14 (old (by decide) h), f15 := fun h => II.out.f15 (old (by decide) h), f16 := fun h => II.out.f16 (old (by decide) h), f17 := fun h => II.out.f17 (old (by decide) h), f18 := fun h => II.out.f18 (old (by decide) h), f19 := fun h => II.out.f19 (old (by decide) h), f20 := fun h => II.out.f20 (old (by decide) h), f21 := fun h => II.out.f21 (old (by decide) h), f22 := fun h => II.out.f22 (old (by decide) h), f23 := fun h => II.out.f23 (old (by decide) h), f24 := fun h => II.out.f24 (old (by decide) h), f25 := fun h => II.out.f25 (old (by decide) h), f26 := fun h => II.out.f26 (old (by decide) h), f27 := fun h => II.out.f27 (old (by decide) h) }
              refine AllOps.cons ?_ ?_
              · intro hu hp K hK
                have p6 := hp 6 (of_decide_eq_true (by kernel_rfl))
                have q6 := II.out.f6 p6
                have p8 := hp 8 (of_decide_eq_true (by kernel_rfl))
                have q8 := II.out.f8 p8
                clear hp
                have HU := Lib.hid hu
                clear hu
                subst q6
                subst q8
                rw [if_pos (by rfl)]
                go_simp
                refine hK.out _ _ ⟨s2, s32, s33, s34, s35, s36, s37, (.bool true), s39, (.bool false), (.bool true), s42, s43, s44, s45, s46, s47, s48, s49, s50, s51, s52, s53, s54, s55, s56, s57, s58, rfl, ?_⟩
                exact { base := II.out.base, f0 := fun h => II.out.f0 (old (by decide) h), f1 := fun h => II.out.f1 (old (by decide) h), f2 := fun h => II.out.f2 (old (by decide) h), f3 := fun h => II.out.f3 (old (by decide) h), f4 := fun h => II.out.f4 (old (by decide) h), f5 := fun h => II.out.f5 (old (by decide) h), f6 := fun h => II.out.f6 (old (by decide) h), f7 := fun h => II.out.f7 (old (by decide) h), f8 := fun h => II.out.f8 (old (by decide) h), f9 := fun _ => rfl, f10 := fun h => II.out.f10 (old (by decide) h), f11 := fun h => II.out.f11 (old (by decide) h), f12 := fun h => II.out.f12 (old (by decide) h), f13 := fun h => II.out.f13 (old (by decide) h), f14 := fun h => II.out.f14 (old (by decide) h), f15 := fun h => II.out.f15 (old (by decide) h), f16 := fun h => II.out.f16 (old (by decide) h), f17 := fun h => II.out.f17 (old (by decide) h), f18 := fun h => II.out.f18 (old (by decide) h), f19 := fun h => II.out.f19 (old (by decide) h), f20 := fun h => II.out.f20 (old (by decide) h), f21 := fun h => II.out.f21 (old (by decide) h), f22 := fun h => II.out.f22 (old (by decide) h), f23 := fun h => II.out.f23 (old (by decide) h), f24 := fun h => II.out.f24 (old (by decide) h), f25 := fun h => II.out.f25 (old (by decide) h), f26 := fun h => II.out.f26 (old (by decide) h), f27 := fun h => II.out.f27 (old (by decide) h) }
              refine AllOps.cons ?_ ?_
              · intro hu hp K hK
                have p6 := hp 6 (of_decide_eq_true (by kernel_rfl))
                have q6 := II.out.f6 p6
                have p9 := hp 9 (of_decide_eq_true (by kernel_rfl))
                have q9 := II.out.f9 p9
                clear hp
                have HU := Lib.hid hu
                clear hu
                subst q6
                subst q9
                rw [if_pos (by rfl)]
                go_simp
                refine hK.out _ _ ⟨s2, s32, s33, s34, s35, s36, s37, (.bool true), s39, s40, (.bool true), (.bool true), s43, s44, s45, s46, s47, s48, s49, s50, s51, s52, s53, s54, s55, s56, s57, s58, rfl, ?_⟩
                exact { base := II.out.base, f0 := fun h => II.out.f0 (old (by decide) h), f1 := fun h => II.out.f1 (old (by decide) h), f2 := fun h => II.out.f2 (old (by decide) h), f3 := fun h => II.out.f3 (old (by decide) h), f4 := fun h => II.out.f4 (old (by decide) h), f5 := fun h => II.out.f5 (old (by decide) h), f6 := fun h => II.out.f6 (old (by decide) h), f7 := fun h => II.out.f7 (old (by decide) h), f8 := fun h => II.out.f8 (old (by decide) h), f9 := fun h => II.out.f9 (old (by decide) h), f10 := fun _ => rfl, f11 := fun h => II.out.f11 (old (by decide) h), f12 := fun h => II.out.f12 (old (by decide) h), f13 := fun h => II.out.f13 (old (by decide) h), f14 := fun h => II.out.f14 (old (by decide) h), f15 := fun h => II.out.f15 (old (by decide) h), f16 := fun h => II.out.f16 (old (by decide) h), f17 := fun h => II.out.f17 (old (by decide) h), f18 := fun h => II.out.f18 (old (by decide) h), f19 := fun h => II.out.f19 (old (by decide) h), f20 := fun h => II.out.f20 (old (by decide) h), f21 := fun h => II.out.f21 (old (by decide) h), f22 := fun h => II.out.f22 (old (by decide) h), f23 := fun h => II.out.f23 (old (by decide) h), f24 := fun h => II.out.f24 (old (by decide) h), f25 := fun h => II.out.f25 (old (by decide) h), f26 := fun h => II.out.f26 (old (by decide) h), f27 := fun h => II.out.f27 (old (by decide) h) }
              refine AllOps.cons ?_ ?_
              · intro hu hp K hK
                have p10 := hp 10 (of_decide_eq_true (by kernel_rfl))
                have q10 := II.out.f10 p10
                clear hp
                have HU := Lib.hid hu
                clear hu
                subst q10
                rw [if_pos (by rfl)]
                go_simp
                refine hK.out _ _ ⟨s2, s32, s33, s34, s35, s36, s37, s38, s39, s40, s41, (.bool true), (.bool true), s44, s45, s46, s47, s48, s49, s50, s51, s52, s53, s54, s55, s56, s57, s58, rfl, ?_⟩
                exact { base := II.out.base, f0 := fun h => II.out.f0 (old (by decide) h), f1 := fun h => II.out.f1 (old (by decide) h), f2 := fun h => II.out.f2 (old (by decide) h), f3 := fun h => II.out.f3 (old (by decide) h), f4 := fun h => II.out.f4 (old (by decide) h), f5 := fun h => II.out.f5 (old (by decide) h), f6 := fun h => II.out.f6 (old (by decide) h), f7 := fun h => II.out.f7 (old (by decide) h), f8 := fun h => II.out.f8 (old (by decide) h), f9 := fun h => II.out.f9 (old (by decide) h), f10 := fun h => II.out.f10 (old (by decide) h), f11 := fun _ => rfl, f12 := fun h => II.out.f12 (old (by decide) h), f13 := fun h => II.out.f13 (old (by decide) h), f14 := fun h => II.out.f14 (old (by decide) h), f15 := fun h => II.out.f15 (old (by decide) h), f16 := fun h => II.out.f16 (old (by decide) h), f17 := fun h => II.out.f17 (old (by decide) h), f18 := fun h => II.out.f18 (old (by decide) h), f19 := fun h => II.out.f19 (old (by decide) h), f20 := fun h => II.out.f20 (old (by decide) h), f21 := fun h => II.out.f21 (old (by decide) h), f22 := fun h => II.out.f22 (old (by decide) h), f23 := fun h => II.out.f23 (old (by decide) h), f24 := fun h => II.out.f24 (old (by decide) h), f25 := fun h => II.out.f25 (old (by decide) h), f26 := fun h => II.out.f26 (old (by decide) h), f27 := fun h => II.out.f27 (old (by decide) h) }
              refine AllOps.cons ?_ ?_
              · intro hu hp K hK
                have p11 := hp 11 (of_decide_eq_true (by kernel_rfl))
                have q11 := II.out.f11 p11
                clear hp
                have HU := Lib.hid hu
                clear hu
                subst q11
                have x0x := II.out.base.cell x0
                have x1x := II.out.base.cell x1
                rw [if_pos (by rfl)]
                go_simp
                refine hK.out _ _ ⟨s2, s32, s33, s34, s35, s36, s37, s38, s39, s40, s41, s42, (.bool true), _, s45, s46, s47, s48, s49, s50, s51, s52, s53, s54, s55, s56, s57, s58, rfl, ?_⟩
                exact { base := II.out.base, f0 := fun h => II.out.f0 (old (by decide) h), f1 := fun h => II.out.f1 (old (by decide) h), f2 := fun h => II.out.f2 (old (by decide) h), f3 := fun h => II.out.f3 (old (by decide) h), f4 := fun h => II.out.f4 (old (by decide) h), f5 := fun h => II.out.f5 (old (by decide) h), f6 := fun h => II.out.f6 (old (by decide) h), f7 := fun h => II.out.f7 (old (by decide) h), f8 := fun h => II.out.f8 (old (by decide) h), f9 := fun h => II.out.f9 (old (by decide) h), f10 := fun h => II.out.f10 (old (by decide) h), f11 := fun h => II.out.f11 (old (by decide) h), f12 := fun _ => (i5.ext II.out.base), f13 := fun h => II.out.f13 (old (by decide) h), f14 := fun h => II.out.f14 (old (by decide) h), f15 := fun h => II.out.f15 (old (by decide) h), f16 := fun h => II.out.f16 (old (by decide) h), f17 := fun h => II.out.f17 (old (by decide) h), f18 := fun h => II.out.f18 (old (by decide) h), f19 := fun h => II.out.f19 (old (by decide) h), f20 := fun h => II.out.f20 (old (by decide) h), f21 := fun h => II.out.f21 (old (by decide) h), f22 := fun h => II.out.f22 (old (by decide) h), f23 := fun h => II.out.f23 (old (by decide) h), f24 := fun h => II.out.f24 (old (by decide) h), f25 := fun h => II.out.f25 (old (by decide) h), f26 := fun h => II.out.f26 (old (by decide) h), f27 := fun h => II.out.f27 (old (by decide) h) }
              refine AllOps.cons ?_ ?_
              · intro hu hp K hK
                have p11 := hp 11 (of_decide_eq_true (by kernel_rfl))
                have q11 := II.out.f11 p11
                clear hp
                have HU := Lib.hid hu
                clear hu
                subst q11
                have x0x := II.out.base.cell x0
                have x1x := II.out.base.cell x1
                rw [if_pos (by rfl)]
                go_simp
                refine hK.out _ _ ⟨s2, s32, s33, s34, s35, s36, s37, s38, s39, s40, s41, s42, (.bool true), s44, _, s46, s47, s48, s49, s50, s51, s52, s53, s54, s55, s56, s57, s58, rfl, ?_⟩
                exact { base := II.out.base, f0 := fun h => II.out.f0 (old (by decide) h), f1 := fun h => II.out.f1 (old (by decide) h), f2 := fun h => II.out.f2 (old (by decide) h), f3 := fun h => II.out.f3 (old (by decide) h), f4 := fun h => II.out.f4 (old (by decide) h), f5 := fun h => II.out.f5 (old (by decide) h), f6 := fun h => II.out.f6 (old (by decide) h), f7 := fun h => II.out.f7 (old (by decide) h), f8 := fun h => II.out.f8 (old (by decide) h), f9 := fun h => II.out.f9 (old (by decide) h), f10 := fun h => II.out.f10 (old (by decide) h), f11 := fun h => II.out.f11 (old (by decide) h), f12 := fun h => II.out.f12 (old (by decide) h), f13 := fun _ => (i5.ext II.out.base), f14 := fun h => II.out.f14 (old (by decide) h), f15 := fun h => II.out.f15 (old (by decide) h), f16 := fun h => II.out.f16 (old (by decide) h), f17 := fun h => II.out.f17 (old (by decide) h), f18 := fun h => II.out.f18 (old (by decide) h), f19 := fun h => II.out.f19 (old (by decide) h), f20 := fun h => II.out.f20 (old (by decide) h), f21 := fun h => II.out.f21 (old (by decide) h), f22 := fun h => II.out.f22 (old (by decide) h), f23 := fun h => II.out.f23 (old (by decide) h), f24 := fun h => II.out.f24 (old (by decide) h), f25 := fun h => II.out.f25 (old (by decide) h), f26 := fun h => II.out.f26 (old (by decide) h), f27 := fun h => II.out.f27 (old (by decide) h) }
              refine AllOps.cons ?_ ?_
              · intro hu hp K hK
                have p11 := hp 11 (of_decide_eq_true (by kernel_rfl))
                have q11 := II.out.f11 p11
                have p12 := hp 12 (of_decide_eq_true (by kernel_rfl))
                have q12 := II.out.f12 p12
                have p13 := hp 13 (of_decide_eq_true (by kernel_rfl))
                have q13 := II.out.f13 p13
                clear hp
                have HU := Lib.hid hu
                clear hu
                subst q11
                have HC := Lib.hid (rmul_calls w' s44 s45 (r) (r) q12 q13 (HLq.out.sm (by omega)) (HLq.out.sm (by omega)))
                rw [if_pos (by rfl)]
                go_simp
                go_at_call 32
                refine HC.out.mono ?_
                rintro e wx ⟨vv, rfl, hv, ex⟩
                go_wp2_with fail
                have kk := Keep.of ex II.out.base.size
                refine hK.out _ _ ⟨s2, s32, s33, s34, s35, s36, s37, s38, s39, s40, s41, s42, (.bool true), s44, s45, vv, s47, s48, s49, s50, s51, s52, s53, s54, s55, s56, s57, s58, rfl, ?_⟩
                exact { base := II.out.base.trans ex, f0 := fun h => II.out.f0 (old (by decide) h), f1 := fun h => II.out.f1 (old (by decide) h), f2 := fun h => II.out.f2 (old (by decide) h), f3 := fun h => (II.out.f3 (old (by decide) h)).keep kk, f4 := fun h => II.out.f4 (old (by decide) h), f5 := fun h => II.out.f5 (old (by decide) h), f6 := fun h => II.out.f6 (old (by decide) h), f7 := fun h => II.out.f7 (old (by decide) h), f8 := fun h => II.out.f8 (old (by decide) h), f9 := fun h => II.out.f9 (old (by decide) h), f10 := fun h => II.out.f10 (old (by decide) h), f11 := fun h => II.out.f11 (old (by decide) h), f12 := fun h => (II.out.f12 (old (by decide) h)).keep kk, f13 := fun h => (II.out.f13 (old (by decide) h)).keep kk, f14 := fun _ => hv, f15 := fun h => (II.out.f15 (old (by decide) h)).keep kk, f16 := fun h => II.out.f16 (old (by decide) h), f17 := fun h => II.out.f17 (old (by decide) h), f18 := fun h => II.out.f18 (old (by decide) h), f19 := fun h => II.out.f19 (old (by decide) h), f20 := fun h => (II.out.f20 (old (by decide) h)).keep kk, f21 := fun h => (II.out.f21 (old (by decide) h)).keep kk, f22 := fun h => (II.out.f22 (old (by decide) h)).keep kk, f23 := fun h => (II.out.f23 (old (by decide) h)).keep kk, f24 := fun h => II.out.f24 (old (by decide) h), f25 := fun h => II.out.f25 (old (by decide) h), f26 := fun h => II.out.f26 (old (by decide) h), f27 := fun h => II.out.f27 (old (by decide) h) }
              refine AllOps.cons ?_ ?_
              · intro hu hp K hK
                have p11 := hp 11 (of_decide_eq_true (by kernel_rfl))
                have q11 := II.out.f11 p11
                clear hp
                have HU := Lib.hid hu
                clear hu
                subst q11
                have c0x := II.out.base.cell c0
                have c1x := II.out.base.cell c1
                rw [if_pos (by rfl)]
                go_simp
                refine hK.out _ _ ⟨s2, s32, s33, s34, s35, s36, s37, s38, s39, s40, s41, s42, (.bool true), s44, s45, s46, _, s48, s49, s50, s51, s52, s53, s54, s55, s56, s57, s58, rfl, ?_⟩
                exact { base := II.out.base, f0 := fun h => II.out.f0 (old (by decide) h), f1 := fun h => II.out.f1 (old (by decide) h), f2 := fun h => II.out.f2 (old (by decide) h), f3 := fun h => II.out.f3 (old (by decide) h), f4 := fun h => II.out.f4 (old (by decide) h), f5 := fun h => II.out.f5 (old (by decide) h), f6 := fun h => II.out.f6 (old (by decide) h), f7 := fun h => II.out.f7 (old (by decide) h), f8 := fun h => II.out.f8 (old (by decide) h), f9 := fun h => II.out.f9 (old (by decide) h), f10 := fun h => II.out.f10 (old (by decide) h), f11 := fun h => II.out.f11 (old (by decide) h), f12 := fun h => II.out.f12 (old (by decide) h), f13 := fun h => II.out.f13 (old (by decide) h), f14 := fun h => II.out.f14 (old (by decide) h), f15 := fun _ => (j1.ext II.out.base), f16 := fun h => II.out.f16 (old (by decide) h), f17 := fun h => II.out.f17 (old (by decide) h), f18 := fun h => II.out.f18 (old (by decide) h), f19 := fun h => II.out.f19 (old (by decide) h), f20 := fun h => II.out.f20 (old (by decide) h), f21 := fun h => II.out.f21 (old (by decide) h), f22 := fun h => II.out.f22 (old (by decide) h), f23 := fun h => II.out.f23 (old (by decide) h), f24 := fun h => II.out.f24 (old (by decide) h), f25 := fun h => II.out.f25 (old (by decide) h), f26 := fun h => II.out.f26 (old (by decide) h), f27 := fun h => II.out.f27 (old (by decide) h) }
              refine AllOps.cons ?_ ?_
              · intro hu hp K hK
                have p11 := hp 11 (of_decide_eq_true (by kernel_rfl))
                have q11 := II.out.f11 p11
                have p14 := hp 14 (of_decide_eq_true (by kernel_rfl))
                have q14 := II.out.f14 p14
                have p15 := hp 15 (of_decide_eq_true (by kernel_rfl))
                have q15 := II.out.f15 p15
                clear hp
                have HU := Lib.hid hu
                clear hu
                subst q11
                have HC := Lib.hid (rcmp_lit w' s46 s47 ((r) * (r)) (z1) (0) q14 q15 G.out.1)
                rw [if_pos (by rfl)]
                go_simp
                go_at_call 30
                refine HC.out.mono ?_
                rintro e wx ⟨rfl, ex⟩
                go_wp2_with fail
                have kk := Keep.of ex II.out.base.size
                refine hK.out _ _ ⟨s2, s32, s33, s34, s35, s36, s37, s38, s39, s40, s41, s42, (.bool true), s44, s45, s46, s47, (.int .i64 0), s49, s50, s51, s52, s53, s54, s55, s56, s57, s58, rfl, ?_⟩
                exact { base := II.out.base.trans ex, f0 := fun h => II.out.f0 (old (by decide) h), f1 := fun h => II.out.f1 (old (by decide) h), f2 := fun h => II.out.f2 (old (by decide) h), f3 := fun h => (II.out.f3 (old (by decide) h)).keep kk, f4 := fun h => II.out.f4 (old (by decide) h), f5 := fun h => II.out.f5 (old (by decide) h), f6 := fun h => II.out.f6 (old (by decide) h), f7 := fun h => II.out.f7 (old (by decide) h), f8 := fun h => II.out.f8 (old (by decide) h), f9 := fun h => II.out.f9 (old (by decide) h), f10 := fun h => II.out.f10 (old (by decide) h), f11 := fun h => II.out.f11 (old (by decide) h), f12 := fun h => (II.out.f12 (old (by decide) h)).keep kk, f13 := fun h => (II.out.f13 (old (by decide) h)).keep kk, f14 := fun h => (II.out.f14 (old (by decide) h)).keep kk, f15 := fun h => (II.out.f15 (old (by decide) h)).keep kk, f16 := fun _ => rfl, f17 := fun h => II.out.f17 (old (by decide) h), f18 := fun h => II.out.f18 (old (by decide) h), f19 := fun h => II.out.f19 (old (by decide) h), f20 := fun h => (II.out.f20 (old (by decide) h)).keep kk, f21 := fun h => (II.out.f21 (old (by decide) h)).keep kk, f22 := fun h => (II.out.f22 (old (by decide) h)).keep kk, f23 := fun h => (II.out.f23 (old (by decide) h)).keep kk, f24 := fun h => II.out.f24 (old (by decide) h), f25 := fun h => II.out.f25 (old (by decide) h), f26 := fun h => II.out.f26 (old (by decide) h), f27 := fun h => II.out.f27 (old (by decide) h) }
              refine AllOps.cons ?_ ?_
              · intro hu hp K hK
                have p11 := hp 11 (of_decide_eq_true (by kernel_rfl))
                have q11 := II.out.f11 p11
                have p16 := hp 16 (of_decide_eq_true (by kernel_rfl))
                have q16 := II.out.f16 p16
                clear hp
                have HU := Lib.hid hu
                clear hu
                subst q11
                subst q16
                rw [if_pos (by rfl)]
                go_simp
                refine hK.out _ _ ⟨s2, s32, s33, s34, s35, s36, s37, s38, s39, s40, s41, s42, (.bool true), s44, s45, s46, s47, (.int .i64 0), (.bool true), s50, s51, s52, s53, s54, s55, s56, s57, s58, rfl, ?_⟩
                exact { base := II.out.base, f0 := fun h => II.out.f0 (old (by decide) h), f1 := fun h => II.out.f1 (old (by decide) h), f2 := fun h => II.out.f2 (old (by decide) h), f3 := fun h => II.out.f3 (old (by decide) h), f4 := fun h => II.out.f4 (old (by decide) h), f5 := fun h => II.out.f5 (old (by decide) h), f6 := fun h => II.out.f6 (old (by decide) h), f7 := fun h => II.out.f7 (old (by decide) h), f8 := fun h => II.out.f8 (old (by decide) h), f9 := fun h => II.out.f9 (old (by decide) h), f10 := fun h => II.out.f10 (old (by decide) h), f11 := fun h => II.out.f11 (old (by decide) h), f12 := fun h => II.out.f12 (old (by decide) h), f13 := fun h => II.out.f13 (old (by decide) h), f14 := fun h => II.out.f14 (old (by decide) h), f15 := fun h => II.out.f15 (old (by decide) h), f16 := fun h => II.out.f16 (old (by decide) h), f17 := fun _ => rfl, f18 := fun h => II.out.f18 (old (by decide) h), f19 := fun h => II.out.f19 (old (by decide) h), f20 := fun h => II.out.f20 (old (by decide) h), f21 := fun h => II.out.f21 (old (by decide) h), f22 := fun h => II.out.f22 (old (by decide) h), f23 := fun h => II.out.f23 (old (by decide) h), f24 := fun h => II.out.f24 (old (by decide) h), f25 := fun h => II.out.f25 (old (by decide) h), f26 := fun h => II.out.f26 (old (by decide) h), f27 := fun h => II.out.f27 (old (by decide) h) }
              refine AllOps.cons ?_ ?_
              · intro hu hp K hK
                have p11 := hp 11 (of_decide_eq_true (by kernel_rfl))
                have q11 := II.out.f11 p11
                have p17 := hp 17 (of_decide_eq_true (by kernel_rfl))
                have q17 := II.out.f17 p17
                clear hp
                have HU := Lib.hid hu
                clear hu
                subst q11
                subst q17
                rw [if_pos (by rfl)]
                go_simp
                refine hK.out _ _ ⟨s2, s32, s33, s34, s35, s36, s37, s38, s39, s40, s41, s42, (.bool true), s44, s45, s46, s47, s48, (.bool true), (.bool true), s51, s52, s53, s54, s55, s56, s57, s58, rfl, ?_⟩
                exact { base := II.out.base, f0 := fun h => II.out.f0 (old (by decide) h), f1 := fun h => II.out.f1 (old (by decide) h), f2 := fun h => II.out.f2 (old (by decide) h), f3 := fun h => II.out.f3 (old (by decide) h), f4 := fun h => II.out.f4 (old (by decide) h), f5 := fun h => II.out.f5 (old (by decide) h), f6 := fun h => II.out.f6 (old (by decide) h), f7 := fun h => II.out.f7 (old (by decide) h), f8 := fun h => II.out.f8 (old (by decide) h), f9 := fun h => II.out.f9 (old (by decide) h), f10 := fun h => II.out.f10 (old (by decide) h), f11 := fun h => II.out.f11 (old (by decide) h), f12 := fun h => II.out.f12 (old (by decide) h), f13 := fun h => II.out.f13 (old (by decide) h), f14 := fun h => II.out.f14 (old (by decide) h), f15 := fun h => II.out.f15 (old (by decide) h), f16 := fun h => II.out.f16 (old (by decide) h), f17 := fun h => II.out.f17 (old (by decide) h), f18 := fun _ => rfl, f19 := fun h => II.out.f19 (old (by decide) h), f20 := fun h => II.out.f20 (old (by decide) h), f21 := fun h => II.out.f21 (old (by decide) h), f22 := fun h => II.out.f22 (old (by decide) h), f23 := fun h => II.out.f23 (old (by decide) h), f24 := fun h => II.out.f24 (old (by decide) h), f25 := fun h => II.out.f25 (old (by decide) h), f26 := fun h => II.out.f26 (old (by decide) h), f27 := fun h => II.out.f27 (old (by decide) h) }
              refine AllOps.cons ?_ ?_
              · intro hu hp K hK
                have p18 := hp 18 (of_decide_eq_true (by kernel_rfl))
                have q18 := II.out.f18 p18
                clear hp
                have HU := Lib.hid hu
                clear hu
                subst q18
                rw [if_pos (by rfl)]
                go_simp
                refine hK.out _ _ ⟨s2, s32, s33, s34, s35, s36, s37, s38, s39, s40, s41, s42, s43, s44, s45, s46, s47, s48, s49, (.bool true), (.bool true), s52, s53, s54, s55, s56, s57, s58, rfl, ?_⟩
                exact { base := II.out.base, f0 := fun h => II.out.f0 (old (by decide) h), f1 := fun h => II.out.f1 (old (by decide) h), f2 := fun h => II.out.f2 (old (by decide) h), f3 := fun h => II.out.f3 (old (by decide) h), f4 := fun h => II.out.f4 (old (by decide) h), f5 := fun h => II.out.f5 (old (by decide) h), f6 := fun h => II.out.f6 (old (by decide) h), f7 := fun h => II.out.f7 (old (by decide) h), f8 := fun h => II.out.f8 (old (by decide) h), f9 := fun h => II.out.f9 (old (by decide) h), f10 := fun h => II.out.f10 (old (by decide) h), f11 := fun h => II.out.f11 (old (by decide) h), f12 := fun h => II.out.f12 (old (by decide) h), f13 := fun h => II.out.f13 (old (by decide) h), f14 := fun h => II.out.f14 (old (by decide) h), f15 := fun h => II.out.f15 (old (by decide) h), f16 := fun h => II.out.f16 (old (by decide) h), f17 := fun h => II.out.f17 (old (by decide) h), f18 := fun h => II.out.f18 (old (by decide) h), f19 := fun _ => rfl, f20 := fun h => II.out.f20 (old (by decide) h), f21 := fun h => II.out.f21 (old (by decide) h), f22 := fun h => II.out.f22 (old (by decide) h), f23 := fun h => II.out.f23 (old (by decide) h), f24 := fun h => II.out.f24 (old (by decide) h), f25 := fun h => II.out.f25 (old (by decide) h), f26 := fun h => II.out.f26 (old (by decide) h), f27 := fun h => II.out.f27 (old (by decide) h) }
              refine AllOps.cons ?_ ?_
              · intro hu hp K hK
                have p19 := hp 19 (of_decide_eq_true (by kernel_rfl))
                have q19 := II.out.f19 p19
                clear hp
                have HU := Lib.hid hu
                clear hu
                subst q19
                have u0x := II.out.base.cell u0
                have u1x := II.out.base.cell u1
                rw [if_pos (by rfl)]
                go_simp
                refine hK.out _ _ ⟨s2, s32, s33, s34, s35, s36, s37, s38, s39, s40, s41, s42, s43, s44, s45, s46, s47, s48, s49, s50, (.bool true), _, s53, s54, s55, s56, s57, s58, rfl, ?_⟩
                exact { base := II.out.base, f0 := fun h => II.out.f0 (old (by decide) h), f1 := fun h => II.out.f1 (old (by decide) h), f2 := fun h => II.out.f2 (old (by decide) h), f3 := fun h => II.out.f3 (old (by decide) h), f4 := fun h => II.out.f4 (old (by decide) h), f5 := fun h => II.out.f5 (old (by decide) h), f6 := fun h => II.out.f6 (old (by decide) h), f7 := fun h => II.out.f7 (old (by decide) h), f8 := fun h => II.out.f8 (old (by decide) h), f9 := fun h => II.out.f9 (old (by decide) h), f10 := fun h => II.out.f10 (old (by decide) h), f11 := fun h => II.out.f11 (old (by decide) h), f12 := fun h => II.out.f12 (old (by decide) h), f13 := fun h => II.out.f13 (old (by decide) h), f14 := fun h => II.out.f14 (old (by decide) h), f15 := fun h => II.out.f15 (old (by decide) h), f16 := fun h => II.out.f16 (old (by decide) h), f17 := fun h => II.out.f17 (old (by decide) h), f18 := fun h => II.out.f18 (old (by decide) h), f19 := fun h => II.out.f19 (old (by decide) h), f20 := fun _ => (i7.ext II.out.base), f21 := fun h => II.out.f21 (old (by decide) h), f22 := fun h => II.out.f22 (old (by decide) h), f23 := fun h => II.out.f23 (old (by decide) h), f24 := fun h => II.out.f24 (old (by decide) h), f25 := fun h => II.out.f25 (old (by decide) h), f26 := fun h => II.out.f26 (old (by decide) h), f27 := fun h => II.out.f27 (old (by decide) h) }
              refine AllOps.cons ?_ ?_
              · intro hu hp K hK
                have p19 := hp 19 (of_decide_eq_true (by kernel_rfl))
                have q19 := II.out.f19 p19
                clear hp
                have HU := Lib.hid hu
                clear hu
                subst q19
                have u0x := II.out.base.cell u0
                have u1x := II.out.base.cell u1
                rw [if_pos (by rfl)]
                go_simp
                refine hK.out _ _ ⟨s2, s32, s33, s34, s35, s36, s37, s38, s39, s40, s41, s42, s43, s44, s45, s46, s47, s48, s49, s50, (.bool true), s52, _, s54, s55, s56, s57, s58, rfl, ?_⟩
                exact { base := II.out.base, f0 := fun h => II.out.f0 (old (by decide) h), f1 := fun h => II.out.f1 (old (by decide) h), f2 := fun h => II.out.f2 (old (by decide) h), f3 := fun h => II.out.f3 (old (by decide) h), f4 := fun h => II.out.f4 (old (by decide) h), f5 := fun h => II.out.f5 (old (by decide) h), f6 := fun h => II.out.f6 (old (by decide) h), f7 := fun h => II.out.f7 (old (by decide) h), f8 := fun h => II.out.f8 (old (by decide) h), f9 := fun h => II.out.f9 (old (by decide) h), f10 := fun h => II.out.f10 (old (by decide) h), f11 := fun h => II.out.f11 (old (by decide) h), f12 := fun h => II.out.f12 (old (by decide) h), f13 := fun h => II.out.f13 (old (by decide) h), f14 := fun h => II.out.f14 (old (by decide) h), f15 := fun h => II.out.f15 (old (by decide) h), f16 := fun h => II.out.f16 (old (by decide) h), f17 := fun h => II.out.f17 (old (by decide) h), f18 := fun h => II.out.f18 (old (by decide) h), f19 := fun h => II.out.f19 (old (by decide) h), f20 := fun h => II.out.f20 (old (by decide) h), f21 := fun _ => (i7.ext II.out.base), f22 := fun h => II.out.f22 (old (by decide) h), f23 := fun h => II.out.f23 (old (by decide) h), f24 := fun h => II.out.f24 (old (by decide) h), f25 := fun h => II.out.f25 (old (by decide) h), f26 := fun h => II.out.f26 (old (by decide) h), f27 := fun h => II.out.f27 (old (by decide) h) }
              refine AllOps.cons ?_ ?_
              · intro hu hp K hK
                have p19 := hp 19 (of_decide_eq_true (by kernel_rfl))
                have q19 := II.out.f19 p19
                have p20 := hp 20 (of_decide_eq_true (by kernel_rfl))
                have q20 := II.out.f20 p20
                have p21 := hp 21 (of_decide_eq_true (by kernel_rfl))
                have q21 := II.out.f21 p21
                clear hp
                have HU := Lib.hid hu
                clear hu
                subst q19
                have HC := Lib.hid (rmul_calls w' s52 s53 (n) (n) q20 q21 (HLn.out.sm (by omega)) (HLn.out.sm (by omega)))
                rw [if_pos (by rfl)]
                go_simp
                go_at_call 32
                refine HC.out.mono ?_
                rintro e wx ⟨vv, rfl, hv, ex⟩
                go_wp2_with fail
                have kk := Keep.of ex II.out.base.size
                refine hK.out _ _ ⟨s2, s32, s33, s34, s35, s36, s37, s38, s39, s40, s41, s42, s43, s44, s45, s46, s47, s48, s49, s50, (.bool true), s52, s53, vv, s55, s56, s57, s58, rfl, ?_⟩
                exact { base := II.out.base.trans ex, f0 := fun h => II.out.f0 (old (by decide) h), f1 := fun h => II.out.f1 (old (by decide) h), f2 := fun h => II.out.f2 (old (by decide) h), f3 := fun h => (II.out.f3 (old (by decide) h)).keep kk, f4 := fun h => II.out.f4 (old (by decide) h), f5 := fun h => II.out.f5 (old (by decide) h), f6 := fun h => II.out.f6 (old (by decide) h), f7 := fun h => II.out.f7 (old (by decide) h), f8 := fun h => II.out.f8 (old (by decide) h), f9 := fun h => II.out.f9 (old (by decide) h), f10 := fun h => II.out.f10 (old (by decide) h), f11 := fun h => II.out.f11 (old (by decide) h), f12 := fun h => (II.out.f12 (old (by decide) h)).keep kk, f13 := fun h => (II.out.f13 (old (by decide) h)).keep kk, f14 := fun h => (II.out.f14 (old (by decide) h)).keep kk, f15 := fun h => (II.out.f15 (old (by decide) h)).keep kk, f16 := fun h => II.out.f16 (old (by decide) h), f17 := fun h => II.out.f17 (old (by decide) h), f18 := fun h => II.out.f18 (old (by decide) h), f19 := fun h => II.out.f19 (old (by decide) h), f20 := fun h => (II.out.f20 (old (by decide) h)).keep kk, f21 := fun h => (II.out.f21 (old (by decide) h)).keep kk, f22 := fun _ => hv, f23 := fun h => (II.out.f23 (old (by decide) h)).keep kk, f24 := fun h => II.out.f24 (old (by decide) h), f25 := fun h => II.out.f25 (old (by decide) h), f26 := fun h => II.out.f26 (old (by decide) h), f27 := fun h => II.out.f27 (old (by decide) h) }
              refine AllOps.cons ?_ ?_
              · intro hu hp K hK
                have p19 := hp 19 (of_decide_eq_true (by kernel_rfl))
                have q19 := II.out.f19 p19
                clear hp
                have HU := Lib.hid hu
                clear hu
                subst q19
                have c0x := II.out.base.cell c0
                have c1x := II.out.base.cell c1
                rw [if_pos (by rfl)]
                go_simp
                refine hK.out _ _ ⟨s2, s32, s33, s34, s35, s36, s37, s38, s39, s40, s41, s42, s43, s44, s45, s46, s47, s48, s49, s50, (.bool true), s52, s53, s54, _, s56, s57, s58, rfl, ?_⟩
                exact { base := II.out.base, f0 := fun h => II.out.f0 (old (by decide) h), f1 := fun h => II.out.f1 (old (by decide) h), f2 := fun h => II.out.f2 (old (by decide) h), f3 := fun h => II.out.f3 (old (by decide) h), f4 := fun h => II.out.f4 (old (by decide) h), f5 := fun h => II.out.f5 (old (by decide) h), f6 := fun h => II.out.f6 (old (by decide) h), f7 := fun h => II.out.f7 (old (by decide) h), f8 := fun h => II.out.f8 (old (by decide) h), f9 := fun h => II.out.f9 (old (by decide) h), f10 := fun h => II.out.f10 (old (by decide) h), f11 := fun h => II.out.f11 (old (by decide) h), f12 := fun h => II.out.f12 (old (by decide) h), f13 := fun h => II.out.f13 (old (by decide) h), f14 := fun h => II.out.f14 (old (by decide) h), f15 := fun h => II.out.f15 (old (by decide) h), f16 := fun h => II.out.f16 (old (by decide) h), f17 := fun h => II.out.f17 (old (by decide) h), f18 := fun h => II.out.f18 (old (by decide) h), f19 := fun h => II.out.f19 (old (by decide) h), f20 := fun h => II.out.f20 (old (by decide) h), f21 := fun h => II.out.f21 (old (by decide) h), f22 := fun h => II.out.f22 (old (by decide) h), f23 := fun _ => (j1.ext II.out.base), f24 := fun h => II.out.f24 (old (by decide) h), f25 := fun h => II.out.f25 (old (by decide) h), f26 := fun h => II.out.f26 (old (by decide) h), f27 := fun h => II.out.f27 (old (by decide) h) }
              refine AllOps.cons ?_ ?_
              · intro hu hp K hK
                have p19 := hp 19 (of_decide_eq_true (by kernel_rfl))
                have q19 := II.out.f19 p19
                have p22 := hp 22 (of_decide_eq_true (by kernel_rfl))
                have q22 := II.out.f22 p22
                have p23 := hp 23 (of_decide_eq_true (by kernel_rfl))
                have q23 := II.out.f23 p23
                clear hp
                have HU := Lib.hid hu
                clear hu
                subst q19
                have HC := Lib.hid (rcmp_lit w' s54 s55 ((n) * (n)) (z1) (1) q22 q23 G.out.2)
                rw [if_pos (by rfl)]
                go_simp
                go_at_call 30
                refine HC.out.mono ?_
                rintro e wx ⟨rfl, ex⟩
                go_wp2_with fail
                have kk := Keep.of ex II.out.base.size
                refine hK.out _ _ ⟨s2, s32, s33, s34, s35, s36, s37, s38, s39, s40, s41, s42, s43, s44, s45, s46, s47, s48, s49, s50, (.bool true), s52, s53, s54, s55, (.int .i64 1), s57, s58, rfl, ?_⟩
                exact { base := II.out.base.trans ex, f0 := fun h => II.out.f0 (old (by decide) h), f1 := fun h => II.out.f1 (old (by decide) h), f2 := fun h => II.out.f2 (old (by decide) h), f3 := fun h => (II.out.f3 (old (by decide) h)).keep kk, f4 := fun h => II.out.f4 (old (by decide) h), f5 := fun h => II.out.f5 (old (by decide) h), f6 := fun h => II.out.f6 (old (by decide) h), f7 := fun h => II.out.f7 (old (by decide) h), f8 := fun h => II.out.f8 (old (by decide) h), f9 := fun h => II.out.f9 (old (by decide) h), f10 := fun h => II.out.f10 (old (by decide) h), f11 := fun h => II.out.f11 (old (by decide) h), f12 := fun h => (II.out.f12 (old (by decide) h)).keep kk, f13 := fun h => (II.out.f13 (old (by decide) h)).keep kk, f14 := fun h => (II.out.f14 (old (by decide) h)).keep kk, f15 := fun h => (II.out.f15 (old (by decide) h)).keep kk, f16 := fun h => II.out.f16 (old (by decide) h), f17 := fun h => II.out.f17 (old (by decide) h), f18 := fun h => II.out.f18 (old (by decide) h), f19 := fun h => II.out.f19 (old (by decide) h), f20 := fun h => (II.out.f20 (old (by decide) h)).keep kk, f21 := fun h => (II.out.f21 (old (by decide) h)).keep kk, f22 := fun h => (II.out.f22 (old (by decide) h)).keep kk, f23 := fun h => (II.out.f23 (old (by decide) h)).keep kk, f24 := fun _ => rfl, f25 := fun h => II.out.f25 (old (by decide) h), f26 := fun h => II.out.f26 (old (by decide) h), f27 := fun h => II.out.f27 (old (by decide) h) }
              refine AllOps.cons ?_ ?_
              · intro hu hp K hK
                have p19 := hp 19 (of_decide_eq_true (by kernel_rfl))
                have q19 := II.out.f19 p19
                have p24 := hp 24 (of_decide_eq_true (by kernel_rfl))
                have q24 := II.out.f24 p24
                clear hp
                have HU := Lib.hid hu
                clear hu
                subst q19
                subst q24
                rw [if_pos (by rfl)]
                go_simp
                refine hK.out _ _ ⟨s2, s32, s33, s34, s35, s36, s37, s38, s39, s40, s41, s42, s43, s44, s45, s46, s47, s48, s49, s50, (.bool true), s52, s53, s54, s55, (.int .i64 1), (.bool true), s58, rfl, ?_⟩
                exact { base := II.out.base, f0 := fun h => II.out.f0 (old (by decide) h), f1 := fun h => II.out.f1 (old (by decide) h), f2 := fun h => II.out.f2 (old (by decide) h), f3 := fun h => II.out.f3 (old (by decide) h), f4 := fun h => II.out.f4 (old (by decide) h), f5 := fun h => II.out.f5 (old (by decide) h), f6 := fun h => II.out.f6 (old (by decide) h), f7 := fun h => II.out.f7 (old (by decide) h), f8 := fun h => II.out.f8 (old (by decide) h), f9 := fun h => II.out.f9 (old (by decide) h), f10 := fun h => II.out.f10 (old (by decide) h), f11 := fun h => II.out.f11 (old (by decide) h), f12 := fun h => II.out.f12 (old (by decide) h), f13 := fun h => II.out.f13 (old (by decide) h), f14 := fun h => II.out.f14 (old (by decide) h), f15 := fun h => II.out.f15 (old (by decide) h), f16 := fun h => II.out.f16 (old (by decide) h), f17 := fun h => II.out.f17 (old (by decide) h), f18 := fun h => II.out.f18 (old (by decide) h), f19 := fun h => II.out.f19 (old (by decide) h), f20 := fun h => II.out.f20 (old (by decide) h), f21 := fun h => II.out.f21 (old (by decide) h), f22 := fun h => II.out.f22 (old (by decide) h), f23 := fun h => II.out.f23 (old (by decide) h), f24 := fun h => II.out.f24 (old (by decide) h), f25 := fun _ => rfl, f26 := fun h => II.out.f26 (old (by decide) h), f27 := fun h => II.out.f27 (old (by decide) h) }
              refine AllOps.cons ?_ ?_
              · intro hu hp K hK
                have p19 := hp 19 (of_decide_eq_true (by kernel_rfl))
                have q19 := II.out.f19 p19
                have p25 := hp 25 (of_decide_eq_true (by kernel_rfl))
                have q25 := II.out.f25 p25
                clear hp
                have HU := Lib.hid hu
                clear hu
                subst q19
                subst q25
                rw [if_pos (by rfl)]
                go_simp
                refine hK.out _ _ ⟨s2, s32, s33, s34, s35, s36, s37, s38, s39, s40, s41, s42, s43, s44, s45, s46, s47, s48, s49, s50, (.bool true), s52, s53, s54, s55, s56, (.bool true), (.bool true), rfl, ?_⟩
                exact { base := II.out.base, f0 := fun h => II.out.f0 (old (by decide) h), f1 := fun h => II.out.f1 (old (by decide) h), f2 := fun h => II.out.f2 (old (by decide) h), f3 := fun h => II.out.f3 (old (by decide) h), f4 := fun h => II.out.f4 (old (by decide) h), f5 := fun h => II.out.f5 (old (by decide) h), f6 := fun h => II.out.f6 (old (by decide) h), f7 := fun h => II.out.f7 (old (by decide) h), f8 := fun h => II.out.f8 (old (by decide) h), f9 := fun h => II.out.f9 (old (by decide) h), f10 := fun h => II.out.f10 (old (by decide) h), f11 := fun h => II.out.f11 (old (by decide) h), f12 := fun h => II.out.f12 (old (by decide) h), f13 := fun h => II.out.f13 (old (by decide) h), f14 := fun h => II.out.f14 (old (by decide) h), f15 := fun h => II.out.f15 (old (by decide) h), f16 := fun h => II.out.f16 (old (by decide) h), f17 := fun h => II.out.f17 (old (by decide) h), f18 := fun h => II.out.f18 (old (by decide) h), f19 := fun h => II.out.f19 (old (by decide) h), f20 := fun h => II.out.f20 (old (by decide) h), f21 := fun h => II.out.f21 (old (by decide) h), f22 := fun h => II.out.f22 (old (by decide) h), f23 := fun h => II.out.f23 (old (by decide) h), f24 := fun h => II.out.f24 (old (by decide) h), f25 := fun h => II.out.f25 (old (by decide) h), f26 := fun _ => rfl, f27 := fun h => II.out.f27 (old (by decide) h) }
              refine AllOps.cons ?_ ?_
              · intro hu hp K hK
                have p26 := hp 26 (of_decide_eq_true (by kernel_rfl))
                have q26 := II.out.f26 p26
                clear hp
                have HU := Lib.hid hu
                clear hu
                subst q26
                rw [if_pos (by rfl)]
                go_simp
                refine hK.out _ _ ⟨(.bool true), s32, s33, s34, s35, s36, s37, s38, s39, s40, s41, s42, s43, s44, s45, s46, s47, s48, s49, s50, s51, s52, s53, s54, s55, s56, s57, (.bool true), rfl, ?_⟩
                exact { base := II.out.base, f0 := fun h => II.out.f0 (old (by decide) h), f1 := fun h => II.out.f1 (old (by decide) h), f2 := fun h => II.out.f2 (old (by decide) h), f3 := fun h => II.out.f3 (old (by decide) h), f4 := fun h => II.out.f4 (old (by decide) h), f5 := fun h => II.out.f5 (old (by decide) h), f6 := fun h => II.out.f6 (old (by decide) h), f7 := fun h => II.out.f7 (old (by decide) h), f8 := fun h => II.out.f8 (old (by decide) h), f9 := fun h => II.out.f9 (old (by decide) h), f10 := fun h => II.out.f10 (old (by decide) h), f11 := fun h => II.out.f11 (old (by decide) h), f12 := fun h => II.out.f12 (old (by decide) h), f13 := fun h => II.out.f13 (old (by decide) h), f14 := fun h => II.out.f14 (old (by decide) h), f15 := fun h => II.out.f15 (old (by decide) h), f16 := fun h => II.out.f16 (old (by decide) h), f17 := fun h => II.out.f17 (old (by decide) h), f18 := fun h => II.out.f18 (old (by decide) h), f19 := fun h => II.out.f19 (old (by decide) h), f20 := fun h => II.out.f20 (old (by decide) h), f21 := fun h => II.out.f21 (old (by decide) h), f22 := fun h => II.out.f22 (old (by decide) h), f23 := fun h => II.out.f23 (old (by decide) h), f24 := fun h => II.out.f24 (old (by decide) h), f25 := fun h => II.out.f25 (old (by decide) h), f26 := fun h => II.out.f26 (old (by decide) h), f27 := fun _ => rfl }
              exact AllOps.nil
            case he =>
              rintro l _ w' hall ⟨s2, s32, s33, s34, s35, s36, s37, s38, s39, s40, s41, s42, s43, s44, s45, s46, s47, s48, s49, s50, s51, s52, s53, s54, s55, s56, s57, s58, rfl, I⟩
              have q27 := I.f27 (hall 27 (by decide))
              have e1 := I.base
              clear I hall
              simp only [setAll, Act.put, List.setIfInBounds_toArray, List.set_cons_zero, List.set_cons_succ]
              obtain rfl := q27
              go_wp2_with fail
              go_ret
              exact ⟨rfl, eW.trans e1⟩

end Go.Proofs.Ytfjaboolfjgleaa
