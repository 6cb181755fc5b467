/-
  Add, Sub, Neg and Mul, of the program.
-/
import Derived.Test.YtfjaboolfjgleaaMul
namespace Go.Proofs.Ytfjaboolfjgleaa
open Go.RowKit

/-- A store of something else than a uint32 over something else than a uint32 turns no limb. -/
theorem Cells.store {w : World} {ao : Option Addr} {xs : List Nat} (h : Cells w ao xs) {p : Addr} {u : Value} (hp : w.cell? p = some u) (hu : ∀ x, u ≠ .int .u32 x) (v : Value) : Cells (w.setCell p v) ao xs := by
  rcases h with h | ⟨b, off, rfl, h⟩
  · exact .inl h
  · refine .inr ⟨b, off, rfl, fun i hi => ?_⟩
    rw [World.cell?_setCell_other _ _ _ _ (fun e => ?_)]
    · exact h i hi
    · have h1 := h i hi
      rw [← e, hp] at h1
      injection h1 with h1
      exact hu _ h1
/-- The cells of a result that is an integer, not yet set. -/
theorem res_new (w : World) (t : TypeId) : ∃ W, w.alloc (.cells #[.bool false, .slice none 0 0] t) = W ∧ Ext w W ∧ W.heap.size = w.heap.size + 1 ∧
    W.cell? ⟨w.heap.size, 0, none⟩ = some (.bool false) ∧ W.cell? ⟨w.heap.size, 1, none⟩ = some (.slice none 0 0) ∧ W.frozen? ⟨w.heap.size, 0, none⟩ = false ∧ W.frozen? ⟨w.heap.size, 1, none⟩ = false := by
  refine ⟨_, rfl, (Ext.refl w).alloc _, by simp, by simp, by simp, ?_, ?_⟩
  · show (match (w.heap.push _)[w.heap.size]? with | some (.cells _ _ (lo, hi)) => _ | _ => _) = _
    rw [Array.getElem?_push_size]; rfl
  · show (match (w.heap.push _)[w.heap.size]? with | some (.cells _ _ (lo, hi)) => _ | _ => _) = _
    rw [Array.getElem?_push_size]; rfl

/-- Which sum two absolute values with signs have. -/
theorem sgn_add_same (s : Bool) (m n : Nat) : sgn s m + sgn s n = sgn s (m + n) := by cases s <;> simp [sgn] <;> omega
theorem sgn_add_ge (s s' : Bool) (m n : Nat) (hs : s ≠ s') (h : n ≤ m) : sgn s m + sgn s' n = sgn s (m - n) := by
  cases s <;> cases s' <;> simp_all [sgn] <;> omega
theorem sgn_add_le (s s' : Bool) (m n : Nat) (hs : s ≠ s') (h : m ≤ n) : sgn s m + sgn s' n = sgn s' (n - m) := by
  cases s <;> cases s' <;> simp_all [sgn] <;> omega

theorem signedL_calls (w : World) (s : Bool) (ao : Option Addr) (n : Nat) (cap : Nat) (hc : (limbs n).length ≤ cap) (hm : cap ≤ 9223372036854775807) (h : Cells w ao (limbs n)) :
    Calls Try.prog 42 #[.bool s, .slice ao (limbs n).length cap] w (Ret (fun v w' => IsInt w' v (sgn s n)) w) := by
  have := signed_calls w s ao (limbs n) cap hc hm h (dig_limbs n)
  rw [val_limbs] at this
  exact this
/-- A result that is an integer has been stored and is read again. -/
theorem fin_int {w w2 : World} {s2 b0 : Bool} {ao a0 : Option Addr} {n2 cap l0 k0 : Nat} {z : Int} {r : Nat} (h : IsInt w2 (.agg #[.bool s2, .slice ao (limbs n2).length cap]) z)
    (c0 : w2.cell? ⟨r, 0, none⟩ = some (.bool b0)) (c1 : w2.cell? ⟨r, 1, none⟩ = some (.slice a0 l0 k0)) (hr : w.heap.size ≤ r) (e : Ext w w2) :
    Ret (fun v w' => IsInt w' v z) w (.returned (.agg #[.bool s2, .slice ao (limbs n2).length cap])) ((w2.setCell ⟨r, 0, none⟩ (.bool s2)).setCell ⟨r, 1, none⟩ (.slice ao (limbs n2).length cap)) := by
  obtain ⟨ao', cap', hv, h1, h2, h3⟩ := h
  refine ⟨_, rfl, ⟨ao', cap', hv, h1, h2, ?_⟩, (e.setCell (p := ⟨r, 0, none⟩) hr _).setCell (p := ⟨r, 1, none⟩) hr _⟩
  have k1 : (w2.setCell ⟨r, 0, none⟩ (.bool s2)).cell? ⟨r, 1, none⟩ = some (.slice a0 l0 k0) := by
    rw [World.cell?_setCell_other _ _ _ _ (by simp)]; exact c1
  exact (h3.store c0 (by simp) _).store k1 (by simp) _

set_option maxHeartbeats 800000 in
theorem sum_calls (w : World) (s s' : Bool) (ax ay : Option Addr) (m n cx cy : Nat) (lx : (limbs m).length ≤ 1099511627776) (ly : (limbs n).length ≤ 1099511627776) (kx : (limbs m).length ≤ cx) (ky : (limbs n).length ≤ cy) (hx : Cells w ax (limbs m)) (hy : Cells w ay (limbs n)) :
    Calls Try.prog 48 #[.bool s, .slice ax (limbs m).length cx, .bool s', .slice ay (limbs n).length cy] w (Ret (fun v w' => IsInt w' v (sgn s m + sgn s' n)) w) := by
  obtain ⟨W, hW, eW, hz, c0, c1, f0, f1⟩ := res_new w 24
  have HZ := Lib.hid hz
  clear hz
  by_cases hs : s = s'
  · subst hs
    have hb : (s == s) = true := by cases s <;> rfl
    rw [sgn_add_same]
    have hadd := addLimbs_calls W ax ay _ _ cx cy lx ly (hx.ext eW) (hy.ext eW) (dig_limbs m) (dig_limbs n)
    rw [val_limbs, val_limbs] at hadd
    have HA := Lib.hid hadd
    clear hadd
    go_enter Try.func48, Try.ntmps48
    go_wp2_with fail
    clear hW
    refine HA.out.mono ?_
    rintro e w1 ⟨v, rfl, ⟨ao, cap, rfl, h1, h2, h3⟩, e1⟩
    go_wp2_with fail
    refine (signedL_calls _ _ _ _ _ h1 h2 h3).mono ?_
    rintro e w2 ⟨v, rfl, hI, e2⟩
    obtain ⟨ao2, cap2, s2, n2, rfl, _⟩ := hI.open_
    have c02 := e2.cell (e1.cell c0)
    have c12 := e2.cell (e1.cell c1)
    have f02 := e2.frozen (lt_of_cell (e1.cell c0)) (e1.frozen (lt_of_cell c0) f0)
    have f12 := e2.frozen (lt_of_cell (e1.cell c1)) (e1.frozen (lt_of_cell c1) f1)
    clear c0 c1 f0 f1
    go_wp2
    exact bodyPost_ret (v := .agg #[.bool s2, .slice ao2 (limbs n2).length cap2]) (by simp [results, Try.results48, go_sem, c02, c12]) rfl (fin_int hI c02 c12 (Nat.le_refl _) ((eW.trans e1).trans e2))
  · have hb : (s == s') = false := by cases s <;> cases s' <;> simp_all
    rcases Nat.lt_trichotomy m n with hmn | hmn | hmn
    · rw [sgn_add_le s s' m n hs (by omega)]
      have HC := Lib.hid (cmpZ_lt (Int.ofNat_lt.2 hmn))
      clear hs
      go_enter Try.func48, Try.ntmps48
      go_wp2_with fail
      clear hW
      refine (compareLimbs_calls _ _ _ m n _ _ (by omega) (by omega) (hx.ext eW) (hy.ext eW)).mono ?_
      rintro e w0 ⟨rfl, j, hw0⟩
      have e0 : Ext W w0 := by rw [hw0]; exact (Ext.refl W).drewN j
      clear hw0
      rw [HC.out]
      go_wp2_with fail
      refine (subtractLimbs_calls _ _ _ n m _ _ ly (by omega) ky (hy.ext (eW.trans e0)) (hx.ext (eW.trans e0))).mono ?_
      rintro e w1 ⟨v, rfl, ⟨ao, cap, rfl, h1, h2, h3⟩, e1⟩
      go_wp2_with fail
      refine (signedL_calls _ _ _ _ _ h1 h2 h3).mono ?_
      rintro e w2 ⟨v, rfl, hI, e2⟩
      obtain ⟨ao2, cap2, s2, n2, rfl, _⟩ := hI.open_
      have eA := (e0.trans e1).trans e2
      have c02 := eA.cell c0
      have c12 := eA.cell c1
      have f02 := eA.frozen (lt_of_cell c0) f0
      have f12 := eA.frozen (lt_of_cell c1) f1
      clear c0 c1 f0 f1
      go_wp2
      exact bodyPost_ret (v := .agg #[.bool s2, .slice ao2 (limbs n2).length cap2]) (by simp [results, Try.results48, go_sem, c02, c12]) rfl (fin_int hI c02 c12 (Nat.le_refl _) (eW.trans eA))
    · have HI : Hid (sgn s m + sgn s' n = 0) := by
        unfold Hid; rw [sgn_add_le s s' m n hs (by omega), hmn, Nat.sub_self, sgn_zero]
      have HC := Lib.hid (cmpZ_eq (congrArg (fun x : Nat => (x : Int)) hmn))
      rw [HI.out]
      clear hs hmn
      go_enter Try.func48, Try.ntmps48
      go_wp2_with fail
      clear hW
      refine (compareLimbs_calls _ _ _ m n _ _ (by omega) (by omega) (hx.ext eW) (hy.ext eW)).mono ?_
      rintro e w0 ⟨rfl, j, hw0⟩
      have e0 : Ext W w0 := by rw [hw0]; exact (Ext.refl W).drewN j
      clear hw0
      rw [HC.out]
      have c02 := e0.cell c0
      have c12 := e0.cell c1
      have f02 := e0.frozen (lt_of_cell c0) f0
      have f12 := e0.frozen (lt_of_cell c1) f1
      clear c0 c1 f0 f1
      go_wp2
      exact bodyPost_ret (v := .agg #[.bool false, .slice none 0 0]) (by simp [results, Try.results48, go_sem, c02, c12]) rfl (fin_int (n2 := 0) (isInt_zero w0) c02 c12 (Nat.le_refl _) (eW.trans e0))
    · rw [sgn_add_ge s s' m n hs (by omega)]
      have HC := Lib.hid (cmpZ_gt (Int.ofNat_lt.2 hmn))
      clear hs
      go_enter Try.func48, Try.ntmps48
      go_wp2_with fail
      clear hW
      refine (compareLimbs_calls _ _ _ m n _ _ (by omega) (by omega) (hx.ext eW) (hy.ext eW)).mono ?_
      rintro e w0 ⟨rfl, j, hw0⟩
      have e0 : Ext W w0 := by rw [hw0]; exact (Ext.refl W).drewN j
      clear hw0
      rw [HC.out]
      go_wp2_with fail
      refine (subtractLimbs_calls _ _ _ m n _ _ lx (by omega) kx (hx.ext (eW.trans e0)) (hy.ext (eW.trans e0))).mono ?_
      rintro e w1 ⟨v, rfl, ⟨ao, cap, rfl, h1, h2, h3⟩, e1⟩
      go_wp2_with fail
      refine (signedL_calls _ _ _ _ _ h1 h2 h3).mono ?_
      rintro e w2 ⟨v, rfl, hI, e2⟩
      obtain ⟨ao2, cap2, s2, n2, rfl, _⟩ := hI.open_
      have eA := (e0.trans e1).trans e2
      have c02 := eA.cell c0
      have c12 := eA.cell c1
      have f02 := eA.frozen (lt_of_cell c0) f0
      have f12 := eA.frozen (lt_of_cell c1) f1
      clear c0 c1 f0 f1
      go_wp2
      exact bodyPost_ret (v := .agg #[.bool s2, .slice ao2 (limbs n2).length cap2]) (by simp [results, Try.results48, go_sem, c02, c12]) rfl (fin_int hI c02 c12 (Nat.le_refl _) (eW.trans eA))

/-- One struct boxed, and the cells of a result that is an integer. -/
theorem boxes1r (w : World) (u0 u1 : Value) (t : TypeId) : ∃ W, ((w.alloc (.cells #[u0, u1] t)).alloc (.cells #[.bool false, .slice none 0 0] t)) = W ∧ Ext w W ∧
    W.cell? ⟨w.heap.size, 0, none⟩ = some u0 ∧ W.cell? ⟨w.heap.size, 1, none⟩ = some u1 ∧
    W.cell? ⟨w.heap.size + 1, 0, none⟩ = some (.bool false) ∧ W.cell? ⟨w.heap.size + 1, 1, none⟩ = some (.slice none 0 0) ∧ W.frozen? ⟨w.heap.size + 1, 0, none⟩ = false ∧ W.frozen? ⟨w.heap.size + 1, 1, none⟩ = false := by
  obtain ⟨W, hW, eW, hz, a0, a1, a2, a3⟩ := res_new (w.alloc (.cells #[u0, u1] t)) t
  rw [World.size_alloc] at a0 a1 a2 a3
  exact ⟨W, hW, ((Ext.refl w).alloc _).trans eW, eW.cell (by simp), eW.cell (by simp), a0, a1, a2, a3⟩
/-- Two structs boxed, and the cells of a result that is an integer. -/
theorem boxes2r (w : World) (u0 u1 v0 v1 : Value) (t : TypeId) : ∃ W, (((w.alloc (.cells #[u0, u1] t)).alloc (.cells #[v0, v1] t)).alloc (.cells #[.bool false, .slice none 0 0] t)) = W ∧ Ext w W ∧
    W.cell? ⟨w.heap.size, 0, none⟩ = some u0 ∧ W.cell? ⟨w.heap.size, 1, none⟩ = some u1 ∧ W.cell? ⟨w.heap.size + 1, 0, none⟩ = some v0 ∧ W.cell? ⟨w.heap.size + 1, 1, none⟩ = some v1 ∧
    W.cell? ⟨w.heap.size + 2, 0, none⟩ = some (.bool false) ∧ W.cell? ⟨w.heap.size + 2, 1, none⟩ = some (.slice none 0 0) ∧ W.frozen? ⟨w.heap.size + 2, 0, none⟩ = false ∧ W.frozen? ⟨w.heap.size + 2, 1, none⟩ = false := by
  obtain ⟨V, hV, eV, hz, c0, c1, d0, d1⟩ := boxes2 w u0 u1 v0 v1 t
  obtain ⟨W, hW, eW, _, a0, a1, a2, a3⟩ := res_new V t
  rw [hz] at a0 a1 a2 a3
  exact ⟨W, by rw [hV, hW], eV.trans eW, eW.cell c0, eW.cell c1, eW.cell d0, eW.cell d1, a0, a1, a2, a3⟩

/-- Two stores into one block, and a cell of another. -/
theorem keep_store {w2 : World} {b r o i j : Nat} {u x y : Value} (h : w2.cell? ⟨b, o, none⟩ = some u) (hb : b ≠ r) : ((w2.setCell ⟨r, i, none⟩ x).setCell ⟨r, j, none⟩ y).cell? ⟨b, o, none⟩ = some u := by
  rw [World.cell?_setCell_other _ _ _ _ (by intro e; injection e with e; omega), World.cell?_setCell_other _ _ _ _ (by intro e; injection e with e; omega)]
  exact h
/-- Few enough limbs for every sum and product of this layer. -/
def Sm (z : Int) : Prop := (limbs z.natAbs).length ≤ 1048576

set_option maxHeartbeats 400000 in
theorem add_calls (w : World) (v1 v2 : Value) (z1 z2 : Int) (h : IsInt w v1 z1) (k : IsInt w v2 z2) (l1 : Sm z1) (l2 : Sm z2) :
    Calls Try.prog 21 #[v1, v2] w (Ret (fun v w' => IsInt w' v (z1 + z2)) w) := by
  obtain ⟨ao, cap, s, n, rfl, h1, h2, h3, H4, H5, H6⟩ := h.open_
  obtain ⟨ao', cap', s', n', rfl, k1, k2, k3, K4, K5, K6⟩ := k.open_
  unfold Sm at l1 l2
  rw [← H4.out] at l1
  rw [← K4.out] at l2
  obtain ⟨W, hW, eW, c0, c1, d0, d1, r0, r1, f0, f1⟩ := boxes2r w (.bool s) (.slice ao (limbs n).length cap) (.bool s') (.slice ao' (limbs n').length cap') 24
  have HS := Lib.hid (sum_calls W s s' ao ao' n n' cap cap' (by omega) (by omega) h1 k1 (h3.ext eW) (k3.ext eW))
  go_enter Try.func21, Try.ntmps21
  go_wp2_with fail
  clear hW
  refine HS.out.mono ?_
  rintro e w2 ⟨v, rfl, hI, e2⟩
  rw [← H5.out, ← K5.out] at hI
  obtain ⟨ao2, cap2, s2, n2, rfl, _⟩ := hI.open_
  have c02 := e2.cell r0
  have c12 := e2.cell r1
  have f02 := e2.frozen (lt_of_cell r0) f0
  have f12 := e2.frozen (lt_of_cell r1) f1
  clear c0 c1 d0 d1 r0 r1 f0 f1
  go_wp2
  exact bodyPost_ret (v := .agg #[.bool s2, .slice ao2 (limbs n2).length cap2]) (by simp [results, Try.results21, go_sem, c02, c12]) rfl (fin_int hI c02 c12 (by omega) (eW.trans e2))

theorem sgn_not (s : Bool) (n : Nat) : sgn (!s) n = -sgn s n := by cases s <;> simp [sgn]
set_option maxHeartbeats 400000 in
theorem sub_calls (w : World) (v1 v2 : Value) (z1 z2 : Int) (h : IsInt w v1 z1) (k : IsInt w v2 z2) (l1 : Sm z1) (l2 : Sm z2) :
    Calls Try.prog 23 #[v1, v2] w (Ret (fun v w' => IsInt w' v (z1 - z2)) w) := by
  obtain ⟨ao, cap, s, n, rfl, h1, h2, h3, H4, H5, H6⟩ := h.open_
  obtain ⟨ao', cap', s', n', rfl, k1, k2, k3, K4, K5, K6⟩ := k.open_
  unfold Sm at l1 l2
  rw [← H4.out] at l1
  rw [← K4.out] at l2
  obtain ⟨W, hW, eW, c0, c1, d0, d1, r0, r1, f0, f1⟩ := boxes2r w (.bool s) (.slice ao (limbs n).length cap) (.bool s') (.slice ao' (limbs n').length cap') 24
  have HS := Lib.hid (sum_calls W s (!s') ao ao' n n' cap cap' (by omega) (by omega) h1 k1 (h3.ext eW) (k3.ext eW))
  have HE : Hid (sgn s n + sgn (!s') n' = z1 - z2) := by unfold Hid; rw [sgn_not, ← H5.out, ← K5.out]; omega
  go_enter Try.func23, Try.ntmps23
  go_wp2_with fail
  clear hW
  refine HS.out.mono ?_
  rintro e w2 ⟨v, rfl, hI, e2⟩
  rw [HE.out] at hI
  obtain ⟨ao2, cap2, s2, n2, rfl, _⟩ := hI.open_
  have c02 := e2.cell r0
  have c12 := e2.cell r1
  have f02 := e2.frozen (lt_of_cell r0) f0
  have f12 := e2.frozen (lt_of_cell r1) f1
  clear c0 c1 d0 d1 r0 r1 f0 f1
  go_wp2
  exact bodyPost_ret (v := .agg #[.bool s2, .slice ao2 (limbs n2).length cap2]) (by simp [results, Try.results23, go_sem, c02, c12]) rfl (fin_int hI c02 c12 (by omega) (eW.trans e2))

theorem sgn_mul (s s' : Bool) (m n : Nat) : sgn s m * sgn s' n = sgn (!(s == s')) (m * n) := by
  cases s <;> cases s' <;> simp [sgn, Int.neg_mul, Int.mul_neg]

set_option maxHeartbeats 800000 in
theorem mul_calls (w : World) (v1 v2 : Value) (z1 z2 : Int) (h : IsInt w v1 z1) (k : IsInt w v2 z2) (l1 : Sm z1) (l2 : Sm z2) :
    Calls Try.prog 31 #[v1, v2] w (Ret (fun v w' => IsInt w' v (z1 * z2)) w) := by
  obtain ⟨ao, cap, s, n, rfl, h1, h2, h3, H4, H5, H6⟩ := h.open_
  obtain ⟨ao', cap', s', n', rfl, k1, k2, k3, K4, K5, K6⟩ := k.open_
  unfold Sm at l1 l2
  rw [← H4.out] at l1
  rw [← K4.out] at l2
  obtain ⟨W, hW, eW, c0, c1, d0, d1, r0, r1, f0, f1⟩ := boxes2r w (.bool s) (.slice ao (limbs n).length cap) (.bool s') (.slice ao' (limbs n').length cap') 24
  have hm := multiplyLimbs_calls W.drew ao ao' _ _ cap cap' l1 (by omega) ((h3.ext eW).drew) ((k3.ext eW).drew) (dig_limbs n) (dig_limbs n')
  rw [val_limbs, val_limbs] at hm
  have HM := Lib.hid hm
  have HE : Hid (sgn (!(s == s')) (n * n') = z1 * z2) := by unfold Hid; rw [← sgn_mul, ← H5.out, ← K5.out]
  clear hm
  go_enter Try.func31, Try.ntmps31
  go_wp2_with fail
  clear hW
  go_region_held3 (fun w' => w'.cell? ⟨w.heap.size, 0, none⟩ = some (.bool s) ∧ w'.cell? ⟨w.heap.size, 1, none⟩ = some (.slice ao (limbs n).length cap) ∧ w'.cell? ⟨w.heap.size + 1, 0, none⟩ = some (.bool s') ∧ w'.cell? ⟨w.heap.size + 1, 1, none⟩ = some (.slice ao' (limbs n').length cap'))
    (first | exact ⟨keep_store c02 (by omega), keep_store c12 (by omega), keep_store d02 (by omega), keep_store d12 (by omega)⟩ | go_keep) ((first
      | (go_at_call 55; refine HM.out.mono ?_; rintro e w1 ⟨v, rfl, ⟨ao1, cap1, rfl, m1, m2, m3⟩, e1⟩; have c01 := e1.of_drew.cell c0; have c11 := e1.of_drew.cell c1; have d01 := e1.of_drew.cell d0; have d11 := e1.of_drew.cell d1)
      | (go_at_call 42; refine (signedL_calls _ _ _ _ _ m1 m2 m3).mono ?_; rintro e w2 ⟨v, rfl, hI, e2⟩; obtain ⟨ao2, cap2, s2, n2, rfl, _⟩ := hI.open_; have c02 := e2.cell c01; have c12 := e2.cell c11; have d02 := e2.cell d01; have d12 := e2.cell d11; have eA := e1.of_drew.trans e2; have r02 := eA.cell r0; have r12 := eA.cell r1; have f02 := eA.frozen (lt_of_cell r0) f0; have f12 := eA.frozen (lt_of_cell r1) f1)))
  rw [HE.out] at hI
  go_wp2
  exact bodyPost_ret (v := .agg #[.bool s2, .slice ao2 (limbs n2).length cap2]) (by simp [results, Try.results31, go_sem, r02, r12]) rfl (fin_int hI r02 r12 (by omega) (eW.trans eA))

theorem sgn_neg' (s : Bool) (n : Nat) : sgn (!s) n = -sgn s n := sgn_not s n
set_option maxHeartbeats 800000 in
theorem neg_calls (w : World) (v1 : Value) (z1 : Int) (h : IsInt w v1 z1) (l1 : Sm z1) :
    Calls Try.prog 25 #[v1] w (Ret (fun v w' => IsInt w' v (-z1)) w) := by
  obtain ⟨ao, cap, s, n, rfl, h1, h2, h3, H4, H5, H6⟩ := h.open_
  unfold Sm at l1
  rw [← H4.out] at l1
  obtain ⟨W, hW, eW, c0, c1, r0, r1, f0, f1⟩ := boxes1r w (.bool s) (.slice ao (limbs n).length cap) 24
  have HM := Lib.hid (clone_calls W.drew ao (limbs n) cap (by omega) ((h3.ext eW).drew) h1)
  have HE : Hid (sgn (!s) n = -z1) := by unfold Hid; rw [sgn_not, ← H5.out]
  go_enter Try.func25, Try.ntmps25
  go_wp2_with fail
  clear hW
  go_region_held3 (fun w' => w'.cell? ⟨w.heap.size, 0, none⟩ = some (.bool s) ∧ w'.cell? ⟨w.heap.size, 1, none⟩ = some (.slice ao (limbs n).length cap))
    (first | exact ⟨keep_store c02 (by omega), keep_store c12 (by omega)⟩ | go_keep) ((first
      | (go_at_call 52; refine HM.out.mono ?_; rintro e w1 ⟨ao1, cap1, rfl, m1, m2, e1, m3⟩; have m4 := Cloned.cells m3; have c01 := e1.of_drew.cell c0; have c11 := e1.of_drew.cell c1)
      | (go_at_call 42; refine (signedL_calls _ _ _ _ _ m1 m2 m4).mono ?_; rintro e w2 ⟨v, rfl, hI, e2⟩; obtain ⟨ao2, cap2, s2, n2, rfl, _⟩ := hI.open_; have c02 := e2.cell c01; have c12 := e2.cell c11; have eA := e1.of_drew.trans e2; have r02 := eA.cell r0; have r12 := eA.cell r1; have f02 := eA.frozen (lt_of_cell r0) f0; have f12 := eA.frozen (lt_of_cell r1) f1)))
  rw [HE.out] at hI
  go_wp2
  exact bodyPost_ret (v := .agg #[.bool s2, .slice ao2 (limbs n2).length cap2]) (by simp [results, Try.results25, go_sem, r02, r12]) rfl (fin_int hI r02 r12 (by omega) (eW.trans eA))

end Go.Proofs.Ytfjaboolfjgleaa
