/-
  Sign, Cmp and Same, of the program and of the reference.
-/
import Derived.Test.YtfjaboolfjgleaaCmp
namespace Go.Proofs.Ytfjaboolfjgleaa
open Go.RowKit

/-- An integer as it lies in memory, with its parts by name. -/
theorem IsInt.open_ {w : World} {v : Value} {z : Int} (h : IsInt w v z) : ∃ ao cap s n, v = .agg #[.bool s, .slice ao (limbs n).length cap] ∧ (limbs n).length ≤ cap ∧ cap ≤ 9223372036854775807 ∧ Cells w ao (limbs n) ∧
    Hid (n = z.natAbs) ∧ Hid (z = sgn s n) ∧ Hid (s = true → 0 < n) := by
  obtain ⟨ao, cap, rfl, h1, h2, h3⟩ := h
  refine ⟨ao, cap, decide (z < 0), z.natAbs, rfl, h1, h2, h3, rfl, ?_, ?_⟩
  · unfold Hid sgn; by_cases hz : z < 0 <;> simp [hz] <;> omega
  · intro hs; have := of_decide_eq_true hs; omega

theorem cmpZ_sgn_pos {n : Nat} (s : Bool) (h : 0 < n) : cmpZ (sgn s n) 0 = if s then -1 else 1 := by
  cases s
  · simp only [sgn]; exact cmpZ_gt (by simp; omega)
  · simp only [sgn]; exact cmpZ_lt (by simp; omega)

theorem limbs_pos {n : Nat} (h : 0 < n) : 0 < (limbs n).length := by
  rcases Nat.eq_zero_or_pos (limbs n).length with h0 | h0
  · have := limbs_eq_nil.1 (List.eq_nil_of_length_eq_zero h0); omega
  · exact h0

set_option maxHeartbeats 400000 in
theorem sign_calls (w : World) (v : Value) (z : Int) (h : IsInt w v z) :
    Calls Try.prog 27 #[v] w fun e w' => e = .returned (.int .i64 (cmpZ z 0)) ∧ Ext w w' := by
  obtain ⟨ao, cap, s, n, rfl, h1, h2, h3, H4, H5, H6⟩ := h.open_
  clear h h3
  rcases Nat.eq_zero_or_pos n with h0 | h0
  · have HZ : Hid (cmpZ z 0 = 0) := by
      unfold Hid; rw [H5.out, h0, sgn_zero]; rfl
    subst h0
    go_enter Try.func27, Try.ntmps27
    rw [limbs_zero]
    go_wp2
    go_ret
    exact ⟨ret_int HZ.out.symm, (Ext.refl w).alloc _⟩
  · have hp := limbs_pos h0
    have HZ := Lib.hid (cmpZ_sgn_pos s h0)
    have hbe : (((limbs n).length : Int) == 0) = false := by rw [beq_eq_false_iff_ne]; omega
    cases s
    · go_enter Try.func27, Try.ntmps27
      go_wp2
      go_ret
      exact ⟨ret_int (by rw [H5.out, HZ.out]; rfl), (Ext.refl w).alloc _⟩
    · go_enter Try.func27, Try.ntmps27
      go_wp2
      go_ret
      exact ⟨ret_int (by rw [H5.out, HZ.out]; rfl), (Ext.refl w).alloc _⟩

/-- Two structs, boxed one behind the other: their cells. -/
theorem boxes2 (w : World) (u0 u1 v0 v1 : Value) (t : TypeId) : ∃ W, ((w.alloc (.cells #[u0, u1] t)).alloc (.cells #[v0, v1] t)) = W ∧ Ext w W ∧ W.heap.size = w.heap.size + 2 ∧
    W.cell? ⟨w.heap.size, 0, none⟩ = some u0 ∧ W.cell? ⟨w.heap.size, 1, none⟩ = some u1 ∧ W.cell? ⟨w.heap.size + 1, 0, none⟩ = some v0 ∧ W.cell? ⟨w.heap.size + 1, 1, none⟩ = some v1 := by
  refine ⟨_, rfl, ((Ext.refl w).alloc _).alloc _, by simp, ?_, ?_, ?_, ?_⟩
  · rw [World.cell?_alloc_lt _ _ _ (by simp)]; simp
  · rw [World.cell?_alloc_lt _ _ _ (by simp)]; simp
  · have := World.cell?_alloc_new (w.alloc (.cells #[u0, u1] t)) #[v0, v1] t 0
    rw [World.size_alloc] at this; exact this
  · have := World.cell?_alloc_new (w.alloc (.cells #[u0, u1] t)) #[v0, v1] t 1
    rw [World.size_alloc] at this; exact this
theorem Ext.of_drew {a w : World} (h : Ext a.drew w) : Ext a w := ⟨h.os, h.tape, h.output, h.size, h.block⟩

theorem cmpZ_cases (a b : Int) : (a < b ∧ cmpZ a b = -1) ∨ (a = b ∧ cmpZ a b = 0) ∨ (b < a ∧ cmpZ a b = 1) := by
  rcases Int.lt_trichotomy a b with h | h | h
  · exact .inl ⟨h, cmpZ_lt h⟩
  · exact .inr (.inl ⟨h, cmpZ_eq h⟩)
  · exact .inr (.inr ⟨h, cmpZ_gt h⟩)
theorem cmpZ_neg (a b : Int) : cmpZ (-a) (-b) = cmpZ b a := by
  have := cmpZ_cases (-a) (-b)
  have := cmpZ_cases b a
  omega
theorem cmpZ_signs_ne (a b : Int) (h : cmpZ (cmpZ a 0) (cmpZ b 0) ≠ 0) : cmpZ a b = cmpZ (cmpZ a 0) (cmpZ b 0) := by
  have h1 := cmpZ_cases a 0
  have h2 := cmpZ_cases b 0
  have h3 := cmpZ_cases (cmpZ a 0) (cmpZ b 0)
  have h4 := cmpZ_cases a b
  generalize cmpZ a b = y at *
  generalize cmpZ (cmpZ a 0) (cmpZ b 0) = x at *
  generalize cmpZ a 0 = u at *
  generalize cmpZ b 0 = v at *
  omega
theorem cmpZ_signs_eq {s s' : Bool} {n n' : Nat} (h1 : s = true → 0 < n) (h2 : s' = true → 0 < n') (h : cmpZ (cmpZ (sgn s n) 0) (cmpZ (sgn s' n') 0) = 0) :
    s = s' := by
  have e1 : s = true → cmpZ (sgn s n) 0 = -1 := by
    rintro rfl; have := h1 rfl; exact cmpZ_lt (by unfold sgn; simp; omega)
  have e2 : s' = true → cmpZ (sgn s' n') 0 = -1 := by
    rintro rfl; have := h2 rfl; exact cmpZ_lt (by unfold sgn; simp; omega)
  have e3 : s = false → cmpZ (sgn s n) 0 ≠ -1 := by
    rintro rfl; have := cmpZ_cases (sgn false n) 0; have : sgn false n = n := rfl; omega
  have e4 : s' = false → cmpZ (sgn s' n') 0 ≠ -1 := by
    rintro rfl; have := cmpZ_cases (sgn false n') 0; have : sgn false n' = n' := rfl; omega
  have h3 := cmpZ_cases (cmpZ (sgn s n) 0) (cmpZ (sgn s' n') 0)
  have he : cmpZ (sgn s n) 0 = cmpZ (sgn s' n') 0 := by omega
  cases s <;> cases s' <;> first | rfl | (exfalso; have := e1 rfl; have := e4 rfl; omega) | (exfalso; have := e3 rfl; have := e2 rfl; omega)

set_option maxHeartbeats 400000 in
theorem cmp_calls (w : World) (v1 v2 : Value) (z1 z2 : Int) (h : IsInt w v1 z1) (k : IsInt w v2 z2) :
    Calls Try.prog 29 #[v1, v2] w fun e w' => e = .returned (.int .i64 (cmpZ z1 z2)) ∧ Ext w w' := by
  obtain ⟨ao, cap, s, n, rfl, h1, h2, h3, H4, H5, H6⟩ := h.open_
  obtain ⟨ao', cap', s', n', rfl, k1, k2, k3, K4, K5, K6⟩ := k.open_
  obtain ⟨W, hW, eW, hz, c0, c1, d0, d1⟩ := boxes2 w (.bool s) (.slice ao (limbs n).length cap) (.bool s') (.slice ao' (limbs n').length cap') 24
  have HZ := Lib.hid hz
  clear hz
  by_cases hc : cmpZ (cmpZ z1 0) (cmpZ z2 0) = 0
  · obtain rfl : s = s' := cmpZ_signs_eq H6.out K6.out (by rw [← H5.out, ← K5.out]; exact hc)
    have hb : (cmpZ (cmpZ z1 0) (cmpZ z2 0) != 0) = false := by rw [hc]; rfl
    have HC := Lib.hid hc
    clear hc
    go_enter Try.func29, Try.ntmps29
    go_wp2_with fail
    clear hW
    go_region_held3 (fun w' => w'.cell? ⟨w.heap.size, 0, none⟩ = some (.bool s) ∧ w'.cell? ⟨w.heap.size, 1, none⟩ = some (.slice ao (limbs n).length cap) ∧ w'.cell? ⟨w.heap.size + 1, 0, none⟩ = some (.bool s) ∧ w'.cell? ⟨w.heap.size + 1, 1, none⟩ = some (.slice ao' (limbs n').length cap'))
      (go_keep) ((first
        | (go_at_call 27; ((with_reducible refine (sign_calls _ _ z1 (h.ext eW.drew)).mono ?_)); rintro e w1 ⟨rfl, e1⟩; have c01 := e1.of_drew.cell c0; have c11 := e1.of_drew.cell c1; have d01 := e1.of_drew.cell d0; have d11 := e1.of_drew.cell d1)
        | (go_at_call 27; ((with_reducible refine (sign_calls _ _ z2 (k.ext (eW.trans e1.of_drew))).mono ?_)); rintro e w2 ⟨rfl, e2⟩; have c02 := e2.cell c01; have c12 := e2.cell c11; have d02 := e2.cell d01; have d12 := e2.cell d11)
        | (go_at_call 53; refine (cmpInt_calls _ _ _).mono ?_; rintro e w3 ⟨rfl, rfl⟩)))
    have eX := (eW.trans e1.of_drew).trans e2
    cases s
    · go_wp2_with fail
      refine (compareLimbs_calls _ _ _ n n' _ _ (by omega) (by omega) (h3.ext eX) (k3.ext eX)).mono ?_
      rintro e w3 ⟨rfl, j, rfl⟩
      go_wp2
      go_ret
      exact ⟨ret_int (by rw [H5.out, K5.out]; rfl), eX.drewN j⟩
    · go_wp2_with fail
      refine (compareLimbs_calls _ _ _ n' n _ _ (by omega) (by omega) (k3.ext eX) (h3.ext eX)).mono ?_
      rintro e w3 ⟨rfl, j, rfl⟩
      go_wp2
      go_ret
      exact ⟨ret_int (by rw [H5.out, K5.out]; exact (cmpZ_neg _ _).symm), eX.drewN j⟩
  · have hb : (cmpZ (cmpZ z1 0) (cmpZ z2 0) != 0) = true := by rw [bne_iff_ne]; exact hc
    have HF := Lib.hid (cmpZ_signs_ne z1 z2 hc)
    clear hc
    go_enter Try.func29, Try.ntmps29
    go_wp2_with fail
    clear hW
    go_region_held3 (fun w' => w'.cell? ⟨w.heap.size, 0, none⟩ = some (.bool s) ∧ w'.cell? ⟨w.heap.size, 1, none⟩ = some (.slice ao (limbs n).length cap) ∧ w'.cell? ⟨w.heap.size + 1, 0, none⟩ = some (.bool s') ∧ w'.cell? ⟨w.heap.size + 1, 1, none⟩ = some (.slice ao' (limbs n').length cap'))
      (go_keep) ((first
        | (go_at_call 27; ((with_reducible refine (sign_calls _ _ z1 (h.ext eW.drew)).mono ?_)); rintro e w1 ⟨rfl, e1⟩; have c01 := e1.of_drew.cell c0; have c11 := e1.of_drew.cell c1; have d01 := e1.of_drew.cell d0; have d11 := e1.of_drew.cell d1)
        | (go_at_call 27; ((with_reducible refine (sign_calls _ _ z2 (k.ext (eW.trans e1.of_drew))).mono ?_)); rintro e w2 ⟨rfl, e2⟩; have c02 := e2.cell c01; have c12 := e2.cell c11; have d02 := e2.cell d01; have d12 := e2.cell d11)
        | (go_at_call 53; refine (cmpInt_calls _ _ _).mono ?_; rintro e w3 ⟨rfl, rfl⟩)))
    have eX := (eW.trans e1.of_drew).trans e2
    go_wp2
    go_ret
    exact ⟨ret_int HF.out.symm, eX⟩

set_option maxHeartbeats 400000 in
theorem rsign_calls (w : World) (v : Value) (z : Int) (h : IsInt w v z) :
    Calls Try.prog 28 #[v] w fun e w' => e = .returned (.int .i64 (cmpZ z 0)) ∧ Ext w w' := by
  obtain ⟨ao, cap, s, n, rfl, h1, h2, h3, H4, H5, H6⟩ := h.open_
  clear h h3
  rcases Nat.eq_zero_or_pos n with h0 | h0
  · have HZ : Hid (cmpZ z 0 = 0) := by
      unfold Hid; rw [H5.out, h0, sgn_zero]; rfl
    subst h0
    go_enter Try.func28, Try.ntmps28
    rw [limbs_zero]
    go_wp2
    go_ret
    exact ⟨ret_int HZ.out.symm, (Ext.refl w).alloc _⟩
  · have hp := limbs_pos h0
    have HZ := Lib.hid (cmpZ_sgn_pos s h0)
    have hbe : (((limbs n).length : Int) == 0) = false := by rw [beq_eq_false_iff_ne]; omega
    cases s
    · go_enter Try.func28, Try.ntmps28
      go_wp2
      go_ret
      exact ⟨ret_int (by rw [H5.out, HZ.out]; rfl), (Ext.refl w).alloc _⟩
    · go_enter Try.func28, Try.ntmps28
      go_wp2
      go_ret
      exact ⟨ret_int (by rw [H5.out, HZ.out]; rfl), (Ext.refl w).alloc _⟩


set_option maxHeartbeats 400000 in
theorem rcmp_calls (w : World) (v1 v2 : Value) (z1 z2 : Int) (h : IsInt w v1 z1) (k : IsInt w v2 z2) :
    Calls Try.prog 30 #[v1, v2] w fun e w' => e = .returned (.int .i64 (cmpZ z1 z2)) ∧ Ext w w' := by
  obtain ⟨ao, cap, s, n, rfl, h1, h2, h3, H4, H5, H6⟩ := h.open_
  obtain ⟨ao', cap', s', n', rfl, k1, k2, k3, K4, K5, K6⟩ := k.open_
  obtain ⟨W, hW, eW, hz, c0, c1, d0, d1⟩ := boxes2 w (.bool s) (.slice ao (limbs n).length cap) (.bool s') (.slice ao' (limbs n').length cap') 24
  clear hz
  cases s <;> cases s'
  · go_enter Try.func30, Try.ntmps30
    go_wp2_with fail
    refine (rcompare_calls _ _ _ n n' _ _ (by omega) (by omega) (h3.ext eW) (k3.ext eW)).mono ?_
    rintro e w3 ⟨rfl, j, rfl⟩
    go_wp2
    go_ret
    exact ⟨ret_int (by rw [H5.out, K5.out]; rfl), eW.drewN j⟩
  · have HF := Lib.hid (cmpZ_gt (show z2 < z1 by have := K6.out rfl; rw [H5.out, K5.out]; simp [sgn]; omega))
    go_enter Try.func30, Try.ntmps30
    go_wp2
    go_ret
    exact ⟨ret_int HF.out.symm, eW⟩
  · have HF := Lib.hid (cmpZ_lt (show z1 < z2 by have := H6.out rfl; rw [H5.out, K5.out]; simp [sgn]; omega))
    go_enter Try.func30, Try.ntmps30
    go_wp2
    go_ret
    exact ⟨ret_int HF.out.symm, eW⟩
  · go_enter Try.func30, Try.ntmps30
    go_wp2_with fail
    refine (rcompare_calls _ _ _ n' n _ _ (by omega) (by omega) (k3.ext eW) (h3.ext eW)).mono ?_
    rintro e w3 ⟨rfl, j, rfl⟩
    go_wp2
    go_ret
    exact ⟨ret_int (by rw [H5.out, K5.out]; exact (cmpZ_neg _ _).symm), eW.drewN j⟩

theorem ret_bool {a b : Bool} (h : a = b) : Ending.returned (.bool a) = .returned (.bool b) := by rw [h]

set_option maxHeartbeats 400000 in
theorem rsame_calls (w : World) (v1 v2 : Value) (z1 z2 : Int) (h : IsInt w v1 z1) (k : IsInt w v2 z2) :
    Calls Try.prog 45 #[v1, v2] w fun e w' => e = .returned (.bool (decide (z1 = z2))) ∧ Ext w w' := by
  obtain ⟨ao, cap, s, n, rfl, h1, h2, h3, H4, H5, H6⟩ := h.open_
  obtain ⟨ao', cap', s', n', rfl, k1, k2, k3, K4, K5, K6⟩ := k.open_
  obtain ⟨W, hW, eW, hz, c0, c1, d0, d1⟩ := boxes2 w (.bool s) (.slice ao (limbs n).length cap) (.bool s') (.slice ao' (limbs n').length cap') 24
  clear hz
  by_cases hs : s = s'
  · subst hs
    have HF : Hid ((cmpZ n n' == 0) = decide (z1 = z2)) := by
      unfold Hid
      rw [H5.out, K5.out, Bool.eq_iff_iff, beq_iff_eq, decide_eq_true_iff]
      have := cmpZ_cases n n'
      unfold sgn
      split <;> omega
    cases s
    · go_enter Try.func45, Try.ntmps45
      go_wp2_with fail
      refine (rcompare_calls _ _ _ n n' _ _ (by omega) (by omega) (h3.ext eW) (k3.ext eW)).mono ?_
      rintro e w3 ⟨rfl, j, rfl⟩
      go_wp2
      go_ret
      exact ⟨ret_bool HF.out, eW.drewN j⟩
    · go_enter Try.func45, Try.ntmps45
      go_wp2_with fail
      refine (rcompare_calls _ _ _ n n' _ _ (by omega) (by omega) (h3.ext eW) (k3.ext eW)).mono ?_
      rintro e w3 ⟨rfl, j, rfl⟩
      go_wp2
      go_ret
      exact ⟨ret_bool HF.out, eW.drewN j⟩
  · have HF : Hid (decide (z1 = z2) = false) := by
      unfold Hid
      rw [H5.out, K5.out, decide_eq_false_iff_not]
      have a1 := H6.out
      have a2 := K6.out
      cases s <;> cases s' <;> simp_all [sgn] <;> omega
    cases s <;> cases s'
    · exact absurd rfl hs
    · go_enter Try.func45, Try.ntmps45
      go_wp2
      go_ret
      exact ⟨ret_bool HF.out.symm, eW⟩
    · go_enter Try.func45, Try.ntmps45
      go_wp2
      go_ret
      exact ⟨ret_bool HF.out.symm, eW⟩
    · exact absurd rfl hs

set_option maxHeartbeats 400000 in
theorem same_calls (w : World) (v1 v2 : Value) (z1 z2 : Int) (h : IsInt w v1 z1) (k : IsInt w v2 z2) :
    Calls Try.prog 19 #[v1, v2] w fun e w' => e = .returned (.bool (decide (z1 = z2))) ∧ Ext w w' := by
  obtain ⟨ao, cap, s, n, rfl, h1, h2, h3, H4, H5, H6⟩ := h.open_
  obtain ⟨ao', cap', s', n', rfl, k1, k2, k3, K4, K5, K6⟩ := k.open_
  obtain ⟨W, hW, eW, hz, c0, c1, d0, d1⟩ := boxes2 w (.bool s) (.slice ao (limbs n).length cap) (.bool s') (.slice ao' (limbs n').length cap') 24
  clear hz
  go_enter Try.func19, Try.ntmps19
  go_wp2_with fail
  refine (rsame_calls _ _ _ z1 z2 (h.ext eW) (k.ext eW)).mono ?_
  rintro e w3 ⟨rfl, e3⟩
  go_wp2
  go_ret
  exact ⟨rfl, eW.trans e3⟩

end Go.Proofs.Ytfjaboolfjgleaa
