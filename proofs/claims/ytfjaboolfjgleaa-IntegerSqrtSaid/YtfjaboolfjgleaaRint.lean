/-
  Add, Sub, Neg and Mul, of the reference.
-/
import Derived.Test.YtfjaboolfjgleaaInt
namespace Go.Proofs.Ytfjaboolfjgleaa
open Go.RowKit

theorem isInt_zero' {w : World} {ao : Option Addr} {cap : Nat} (h : cap ≤ 9223372036854775807) : IsInt w (.agg #[.bool false, .slice ao 0 cap]) 0 := ⟨ao, cap, by simp [limbs_zero], by simp [limbs_zero], h, Cells.nil _ _⟩

set_option maxHeartbeats 400000 in
theorem rsigned_calls (w : World) (s : Bool) (ao : Option Addr) (xs : List Nat) (cap : Nat) (hc : xs.length ≤ cap) (hm : cap ≤ 9223372036854775807) (h : Cells w ao xs) (hd : Dig xs) :
    Calls Try.prog 46 #[.bool s, .slice ao xs.length cap] w (Ret (fun v w' => IsInt w' v (sgn s (val xs))) w) := by
  have hfin := h.trim hd
  have hlen : (limbs (val xs)).length ≤ xs.length := limbs_len_le (val_lt hd)
  obtain ⟨W, hW, eW, _, r0, r1, f0, f1⟩ := res_new w 24
  rcases Nat.eq_zero_or_pos (val xs) with h0 | h0
  · have HZ := Lib.hid h0
    clear h0
    cases s
    all_goals
      go_enter Try.func46, Try.ntmps46
      go_wp2_with fail
      clear hW
      refine (rtrim_calls _ _ _ _ hc hm (h.ext eW) hd).mono ?_
      rintro e w' ⟨rfl, rfl⟩
      rw [HZ.out, limbs_zero]
      go_wp2
      exact bodyPost_ret (v := .agg #[.bool false, .slice ao 0 cap]) (by simp [results, Try.results46, go_sem, r0, r1]) rfl (by rw [HZ.out, sgn_zero]; exact fin_int (n2 := 0) (isInt_zero' hm) r0 r1 (Nat.le_refl _) eW)
  · have hp := limbs_pos h0
    have hI := isInt_of (w := w) (s := s) (ao := ao) (cap := cap) (by omega) (Nat.le_trans hlen hc) hm hfin
    have hpI : (0 : Int) < ((limbs (val xs)).length : Int) := by omega
    have HI := Lib.hid hI
    clear hp hI hlen
    have hdec : decide (0 < (limbs (val xs)).length) = true := by simp; omega
    clear hpI
    cases s
    · go_enter Try.func46, Try.ntmps46
      go_wp2_with fail
      clear hW
      refine (rtrim_calls _ _ _ _ hc hm (h.ext eW) hd).mono ?_
      rintro e w' ⟨rfl, rfl⟩
      go_wp2
      exact bodyPost_ret (v := .agg #[.bool false, .slice ao (limbs (val xs)).length cap]) (by simp [results, Try.results46, go_sem, r0, r1]) rfl (fin_int (HI.out.ext eW) r0 r1 (Nat.le_refl _) eW)
    · go_enter Try.func46, Try.ntmps46
      go_wp2_with fail
      clear hW
      refine (rtrim_calls _ _ _ _ hc hm (h.ext eW) hd).mono ?_
      rintro e w' ⟨rfl, rfl⟩
      go_wp2
      exact bodyPost_ret (v := .agg #[.bool true, .slice ao (limbs (val xs)).length cap]) (by simp [results, Try.results46, go_sem, r0, r1]) rfl (fin_int (HI.out.ext eW) r0 r1 (Nat.le_refl _) eW)
theorem rsignedL_calls (w : World) (s : Bool) (ao : Option Addr) (n : Nat) (cap : Nat) (hc : (limbs n).length ≤ cap) (hm : cap ≤ 9223372036854775807) (h : Cells w ao (limbs n)) :
    Calls Try.prog 46 #[.bool s, .slice ao (limbs n).length cap] w (Ret (fun v w' => IsInt w' v (sgn s n)) w) := by
  have := rsigned_calls w s ao (limbs n) cap hc hm h (dig_limbs n)
  rw [val_limbs] at this
  exact this

set_option maxHeartbeats 1600000 in
theorem radd_calls (w : World) (v1 v2 : Value) (z1 z2 : Int) (h : IsInt w v1 z1) (k : IsInt w v2 z2) (l1 : Sm z1) (l2 : Sm z2) :
    Calls Try.prog 22 #[v1, v2] w (Ret (fun v w' => IsInt w' v (z1 + z2)) w) := by
  obtain ⟨ao, cap, s, n, rfl, h1, h2, h3, H4, H5, H6⟩ := h.open_
  obtain ⟨ao', cap', s', n', rfl, k1, k2, k3, K4, K5, K6⟩ := k.open_
  unfold Sm at l1 l2
  rw [← H4.out] at l1
  rw [← K4.out] at l2
  obtain ⟨W, hW, eW, c0, c1, d0, d1, r0, r1, f0, f1⟩ := boxes2r w (.bool s) (.slice ao (limbs n).length cap) (.bool s') (.slice ao' (limbs n').length cap') 24
  by_cases hs : s = s'
  · subst hs
    have hb : (s == s) = true := by cases s <;> rfl
    have hm := plus_calls W.drew ao ao' _ _ cap cap' (by omega) (by omega) ((h3.ext eW).drew) ((k3.ext eW).drew) (dig_limbs n) (dig_limbs n')
    rw [val_limbs, val_limbs] at hm
    have HM := Lib.hid hm
    have HE : Hid (sgn s (n + n') = z1 + z2) := by unfold Hid; rw [← sgn_add_same, ← H5.out, ← K5.out]
    clear hm
    go_enter Try.func22, Try.ntmps22
    go_wp2_with fail
    clear hW
    go_region_held3 (fun w' => w'.cell? ⟨w.heap.size, 0, none⟩ = some (.bool s) ∧ w'.cell? ⟨w.heap.size, 1, none⟩ = some (.slice ao (limbs n).length cap) ∧ w'.cell? ⟨w.heap.size + 1, 0, none⟩ = some (.bool s) ∧ w'.cell? ⟨w.heap.size + 1, 1, none⟩ = some (.slice ao' (limbs n').length cap'))
      (first | exact ⟨keep_store c02 (by omega), keep_store c12 (by omega), keep_store d02 (by omega), keep_store d12 (by omega)⟩ | go_keep) ((first
        | (go_at_call 49; refine HM.out.mono ?_; rintro e w1 ⟨v, rfl, ⟨ao1, cap1, rfl, m1, m2, m3⟩, e1⟩; have c01 := e1.of_drew.cell c0; have c11 := e1.of_drew.cell c1; have d01 := e1.of_drew.cell d0; have d11 := e1.of_drew.cell d1)
        | (go_at_call 46; refine (rsignedL_calls _ _ _ _ _ m1 m2 m3).mono ?_; rintro e w2 ⟨v, rfl, hI, e2⟩; obtain ⟨ao2, cap2, s2, n2, rfl, _⟩ := hI.open_; have c02 := e2.cell c01; have c12 := e2.cell c11; have d02 := e2.cell d01; have d12 := e2.cell d11; have eA := e1.of_drew.trans e2; have r02 := eA.cell r0; have r12 := eA.cell r1; have f02 := eA.frozen (lt_of_cell r0) f0; have f12 := eA.frozen (lt_of_cell r1) f1)))
    rw [HE.out] at hI
    go_wp2
    exact bodyPost_ret (v := .agg #[.bool s2, .slice ao2 (limbs n2).length cap2]) (by simp [results, Try.results22, go_sem, r02, r12]) rfl (fin_int hI r02 r12 (by omega) (eW.trans eA))

  · have hb : (s == s') = false := by cases s <;> cases s' <;> simp_all
    by_cases hmn : n' ≤ n
    · have hcb : (0 : Int) ≤ cmpZ n n' := by have := cmpZ_cases n n'; omega
      have HE : Hid (sgn s (n - n') = z1 + z2) := by unfold Hid; rw [← sgn_add_ge s s' n n' hs hmn, ← H5.out, ← K5.out]
      clear hs
      go_enter Try.func22, Try.ntmps22
      go_wp2_with fail
      clear hW
      refine (rcompare_calls _ _ _ n n' _ _ (by omega) (by omega) (h3.ext eW) (k3.ext eW)).mono ?_
      rintro e w0 ⟨rfl, j, hw0⟩
      have e0 : Ext W w0 := by rw [hw0]; exact (Ext.refl W).drewN j
      clear hw0
      replace eW := eW.trans e0
      replace c0 := e0.cell c0
      replace c1 := e0.cell c1
      replace d0 := e0.cell d0
      replace d1 := e0.cell d1
      replace f0 := e0.frozen (lt_of_cell r0) f0
      replace f1 := e0.frozen (lt_of_cell r1) f1
      replace r0 := e0.cell r0
      replace r1 := e0.cell r1
      have HM := Lib.hid (minus_calls w0.drew ao ao' n n' cap cap' (by omega) hmn ((h3.ext eW).drew) ((k3.ext eW).drew))
      go_wp2_with fail
      go_region_held3 (fun w' => w'.cell? ⟨w.heap.size, 0, none⟩ = some (.bool s) ∧ w'.cell? ⟨w.heap.size, 1, none⟩ = some (.slice ao (limbs n).length cap) ∧ w'.cell? ⟨w.heap.size + 1, 0, none⟩ = some (.bool s') ∧ w'.cell? ⟨w.heap.size + 1, 1, none⟩ = some (.slice ao' (limbs n').length cap'))
        (first | exact ⟨keep_store c02 (by omega), keep_store c12 (by omega), keep_store d02 (by omega), keep_store d12 (by omega)⟩ | go_keep) ((first
          | (go_at_call 51; refine HM.out.mono ?_; rintro e w1 ⟨v, rfl, ⟨ao1, cap1, rfl, m1, m2, m3⟩, e1⟩; have c01 := e1.of_drew.cell c0; have c11 := e1.of_drew.cell c1; have d01 := e1.of_drew.cell d0; have d11 := e1.of_drew.cell d1)
          | (go_at_call 46; refine (rsignedL_calls _ _ _ _ _ m1 m2 m3).mono ?_; rintro e w2 ⟨v, rfl, hI, e2⟩; obtain ⟨ao2, cap2, s2, n2, rfl, _⟩ := hI.open_; have c02 := e2.cell c01; have c12 := e2.cell c11; have d02 := e2.cell d01; have d12 := e2.cell d11; have eA := e1.of_drew.trans e2; have r02 := eA.cell r0; have r12 := eA.cell r1; have f02 := eA.frozen (lt_of_cell r0) f0; have f12 := eA.frozen (lt_of_cell r1) f1)))
      rw [HE.out] at hI
      go_wp2
      exact bodyPost_ret (v := .agg #[.bool s2, .slice ao2 (limbs n2).length cap2]) (by simp [results, Try.results22, go_sem, r02, r12]) rfl (fin_int hI r02 r12 (by omega) (eW.trans eA))

    · have hcb : cmpZ n n' < (0 : Int) := by have := cmpZ_cases n n'; omega
      have HE : Hid (sgn s' (n' - n) = z1 + z2) := by unfold Hid; rw [← sgn_add_le s s' n n' hs (by omega), ← H5.out, ← K5.out]
      clear hs
      go_enter Try.func22, Try.ntmps22
      go_wp2_with fail
      clear hW
      refine (rcompare_calls _ _ _ n n' _ _ (by omega) (by omega) (h3.ext eW) (k3.ext eW)).mono ?_
      rintro e w0 ⟨rfl, j, hw0⟩
      have e0 : Ext W w0 := by rw [hw0]; exact (Ext.refl W).drewN j
      clear hw0
      replace eW := eW.trans e0
      replace c0 := e0.cell c0
      replace c1 := e0.cell c1
      replace d0 := e0.cell d0
      replace d1 := e0.cell d1
      replace f0 := e0.frozen (lt_of_cell r0) f0
      replace f1 := e0.frozen (lt_of_cell r1) f1
      replace r0 := e0.cell r0
      replace r1 := e0.cell r1
      have HM := Lib.hid (minus_calls w0.drew ao' ao n' n cap' cap (by omega) (by omega) ((k3.ext eW).drew) ((h3.ext eW).drew))
      go_wp2_with fail
      go_region_held3 (fun w' => w'.cell? ⟨w.heap.size, 0, none⟩ = some (.bool s) ∧ w'.cell? ⟨w.heap.size, 1, none⟩ = some (.slice ao (limbs n).length cap) ∧ w'.cell? ⟨w.heap.size + 1, 0, none⟩ = some (.bool s') ∧ w'.cell? ⟨w.heap.size + 1, 1, none⟩ = some (.slice ao' (limbs n').length cap'))
        (first | exact ⟨keep_store c02 (by omega), keep_store c12 (by omega), keep_store d02 (by omega), keep_store d12 (by omega)⟩ | go_keep) ((first
          | (go_at_call 51; refine HM.out.mono ?_; rintro e w1 ⟨v, rfl, ⟨ao1, cap1, rfl, m1, m2, m3⟩, e1⟩; have c01 := e1.of_drew.cell c0; have c11 := e1.of_drew.cell c1; have d01 := e1.of_drew.cell d0; have d11 := e1.of_drew.cell d1)
          | (go_at_call 46; refine (rsignedL_calls _ _ _ _ _ m1 m2 m3).mono ?_; rintro e w2 ⟨v, rfl, hI, e2⟩; obtain ⟨ao2, cap2, s2, n2, rfl, _⟩ := hI.open_; have c02 := e2.cell c01; have c12 := e2.cell c11; have d02 := e2.cell d01; have d12 := e2.cell d11; have eA := e1.of_drew.trans e2; have r02 := eA.cell r0; have r12 := eA.cell r1; have f02 := eA.frozen (lt_of_cell r0) f0; have f12 := eA.frozen (lt_of_cell r1) f1)))
      rw [HE.out] at hI
      go_wp2
      exact bodyPost_ret (v := .agg #[.bool s2, .slice ao2 (limbs n2).length cap2]) (by simp [results, Try.results22, go_sem, r02, r12]) rfl (fin_int hI r02 r12 (by omega) (eW.trans eA))

set_option maxHeartbeats 400000 in
theorem rneg_calls (w : World) (v1 : Value) (z1 : Int) (h : IsInt w v1 z1) :
    Calls Try.prog 26 #[v1] w (Ret (fun v w' => IsInt w' v (-z1)) w) := by
  obtain ⟨ao, cap, s, n, rfl, h1, h2, h3, H4, H5, H6⟩ := h.open_
  obtain ⟨W, hW, eW, c0, c1, r0, r1, f0, f1⟩ := boxes1r w (.bool s) (.slice ao (limbs n).length cap) 24
  have HE : Hid (sgn (!s) n = -z1) := by unfold Hid; rw [sgn_not, ← H5.out]
  have HM := Lib.hid (rsignedL_calls W (!s) ao n cap h1 h2 (h3.ext eW))
  go_enter Try.func26, Try.ntmps26
  go_wp2_with fail
  clear hW
  refine HM.out.mono ?_
  rintro e w2 ⟨v, rfl, hI, e2⟩
  rw [HE.out] at hI
  obtain ⟨ao2, cap2, s2, n2, rfl, _⟩ := hI.open_
  have r02 := e2.cell r0
  have r12 := e2.cell r1
  have f02 := e2.frozen (lt_of_cell r0) f0
  have f12 := e2.frozen (lt_of_cell r1) f1
  go_wp2
  exact bodyPost_ret (v := .agg #[.bool s2, .slice ao2 (limbs n2).length cap2]) (by simp [results, Try.results26, go_sem, r02, r12]) rfl (fin_int hI r02 r12 (by omega) (eW.trans e2))

theorem Sm.neg {z : Int} (h : Sm z) : Sm (-z) := by unfold Sm at *; rw [Int.natAbs_neg]; exact h
set_option maxHeartbeats 800000 in
theorem rsub_calls (w : World) (v1 v2 : Value) (z1 z2 : Int) (h : IsInt w v1 z1) (k : IsInt w v2 z2) (l1 : Sm z1) (l2 : Sm z2) :
    Calls Try.prog 24 #[v1, v2] w (Ret (fun v w' => IsInt w' v (z1 - z2)) w) := by
  obtain ⟨ao, cap, s, n, rfl, h1, h2, h3, H4, H5, H6⟩ := h.open_
  obtain ⟨ao', cap', s', n', rfl, k1, k2, k3, K4, K5, K6⟩ := k.open_
  obtain ⟨W, hW, eW, c0, c1, d0, d1, r0, r1, f0, f1⟩ := boxes2r w (.bool s) (.slice ao (limbs n).length cap) (.bool s') (.slice ao' (limbs n').length cap') 24
  have HM := Lib.hid (rneg_calls W.drew _ _ (k.ext eW.drew))
  have HE : Hid (z1 + -z2 = z1 - z2) := by unfold Hid; omega
  go_enter Try.func24, Try.ntmps24
  go_wp2_with fail
  clear hW
  go_region_held3 (fun w' => w'.cell? ⟨w.heap.size, 0, none⟩ = some (.bool s) ∧ w'.cell? ⟨w.heap.size, 1, none⟩ = some (.slice ao (limbs n).length cap) ∧ w'.cell? ⟨w.heap.size + 1, 0, none⟩ = some (.bool s') ∧ w'.cell? ⟨w.heap.size + 1, 1, none⟩ = some (.slice ao' (limbs n').length cap'))
    (first | exact ⟨keep_store c02 (by omega), keep_store c12 (by omega), keep_store d02 (by omega), keep_store d12 (by omega)⟩ | go_keep) ((first
      | (go_at_call 26; refine HM.out.mono ?_; rintro e w1 ⟨v, rfl, hJ, e1⟩; have c01 := e1.of_drew.cell c0; have c11 := e1.of_drew.cell c1; have d01 := e1.of_drew.cell d0; have d11 := e1.of_drew.cell d1)
      | (go_at_call 22; refine (radd_calls _ _ _ z1 (-z2) (h.ext (eW.trans e1.of_drew)) hJ l1 l2.neg).mono ?_; rintro e w2 ⟨v, rfl, hI, e2⟩; obtain ⟨ao2, cap2, s2, n2, rfl, _⟩ := hI.open_; have c02 := e2.cell c01; have c12 := e2.cell c11; have d02 := e2.cell d01; have d12 := e2.cell d11; have eA := e1.of_drew.trans e2; have r02 := eA.cell r0; have r12 := eA.cell r1; have f02 := eA.frozen (lt_of_cell r0) f0; have f12 := eA.frozen (lt_of_cell r1) f1)))
  rw [HE.out] at hI
  go_wp2
  exact bodyPost_ret (v := .agg #[.bool s2, .slice ao2 (limbs n2).length cap2]) (by simp [results, Try.results24, go_sem, r02, r12]) rfl (fin_int hI r02 r12 (by omega) (eW.trans eA))

set_option maxHeartbeats 800000 in
theorem rmul_calls (w : World) (v1 v2 : Value) (z1 z2 : Int) (h : IsInt w v1 z1) (k : IsInt w v2 z2) (l1 : Sm z1) (l2 : Sm z2) :
    Calls Try.prog 32 #[v1, v2] w (Ret (fun v w' => IsInt w' v (z1 * z2)) w) := by
  obtain ⟨ao, cap, s, n, rfl, h1, h2, h3, H4, H5, H6⟩ := h.open_
  obtain ⟨ao', cap', s', n', rfl, k1, k2, k3, K4, K5, K6⟩ := k.open_
  unfold Sm at l1 l2
  rw [← H4.out] at l1
  rw [← K4.out] at l2
  obtain ⟨W, hW, eW, c0, c1, d0, d1, r0, r1, f0, f1⟩ := boxes2r w (.bool s) (.slice ao (limbs n).length cap) (.bool s') (.slice ao' (limbs n').length cap') 24
  have hm := times_calls W.drew ao ao' _ _ cap cap' (by omega) (by omega) ((h3.ext eW).drew) ((k3.ext eW).drew) (dig_limbs n) (dig_limbs n')
  rw [val_limbs, val_limbs] at hm
  have HM := Lib.hid hm
  have HE : Hid (sgn (!(s == s')) (n * n') = z1 * z2) := by unfold Hid; rw [← sgn_mul, ← H5.out, ← K5.out]
  clear hm
  go_enter Try.func32, Try.ntmps32
  go_wp2_with fail
  clear hW
  go_region_held3 (fun w' => w'.cell? ⟨w.heap.size, 0, none⟩ = some (.bool s) ∧ w'.cell? ⟨w.heap.size, 1, none⟩ = some (.slice ao (limbs n).length cap) ∧ w'.cell? ⟨w.heap.size + 1, 0, none⟩ = some (.bool s') ∧ w'.cell? ⟨w.heap.size + 1, 1, none⟩ = some (.slice ao' (limbs n').length cap'))
    (first | exact ⟨keep_store c02 (by omega), keep_store c12 (by omega), keep_store d02 (by omega), keep_store d12 (by omega)⟩ | go_keep) ((first
      | (go_at_call 56; refine HM.out.mono ?_; rintro e w1 ⟨v, rfl, ⟨ao1, cap1, rfl, m1, m2, m3⟩, e1⟩; have c01 := e1.of_drew.cell c0; have c11 := e1.of_drew.cell c1; have d01 := e1.of_drew.cell d0; have d11 := e1.of_drew.cell d1)
      | (go_at_call 46; refine (rsignedL_calls _ _ _ _ _ m1 m2 m3).mono ?_; rintro e w2 ⟨v, rfl, hI, e2⟩; obtain ⟨ao2, cap2, s2, n2, rfl, _⟩ := hI.open_; have c02 := e2.cell c01; have c12 := e2.cell c11; have d02 := e2.cell d01; have d12 := e2.cell d11; have eA := e1.of_drew.trans e2; have r02 := eA.cell r0; have r12 := eA.cell r1; have f02 := eA.frozen (lt_of_cell r0) f0; have f12 := eA.frozen (lt_of_cell r1) f1)))
  rw [HE.out] at hI
  go_wp2
  exact bodyPost_ret (v := .agg #[.bool s2, .slice ao2 (limbs n2).length cap2]) (by simp [results, Try.results32, go_sem, r02, r12]) rfl (fin_int hI r02 r12 (by omega) (eW.trans eA))

end Go.Proofs.Ytfjaboolfjgleaa
