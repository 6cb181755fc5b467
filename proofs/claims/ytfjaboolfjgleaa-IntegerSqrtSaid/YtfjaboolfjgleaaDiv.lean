/-
  DivMod, over a hypothesis on how the limbs are divided.
-/
import Derived.Test.YtfjaboolfjgleaaFrom
namespace Go.Proofs.Ytfjaboolfjgleaa
open Go.RowKit

theorem u64_num {x : Int} (h0 : 0 ≤ x) (h1 : x ≤ 18446744073709551615) : IntKind.u64.wrap x = x := by rw [IntKind.wrap_u64]; omega
theorem wrap_quo (m n q : Nat) (hm : m ≤ 18446744073709551615) (hq : q = m / n) : IntKind.u64.wrap ((m : Int) / (n : Int)) = (q : Int) := by
  rw [← Int.natCast_ediv, ← hq]
  exact u64_num (Int.natCast_nonneg _) (by have := Nat.div_le_self m n; omega)
theorem rem_nat (m n r : Nat) (hr : r = m % n) : (m : Int) % (n : Int) = (r : Int) ∧ (m : Int).tmod (n : Int) = (r : Int) := by
  rw [Int.tmod_eq_emod_of_nonneg (Int.natCast_nonneg _), ← Int.natCast_emod, hr]; simp

/-- Two results with these properties. -/
def Ret2 (Q1 Q2 : Value → World → Prop) (w : World) (e : Ending) (w' : World) : Prop := ∃ v1 v2, e = .returned (.tuple #[v1, v2]) ∧ Q1 v1 w' ∧ Q2 v2 w' ∧ Ext w w'
/-- The limbs of these two numbers are divided rightly. -/
def DivOK (m n : Nat) : Prop := ∀ (w : World) (ax ay : Option Addr) (cx cy : Nat), (limbs m).length ≤ cx → (limbs n).length ≤ cy → cx ≤ 9223372036854775807 → cy ≤ 9223372036854775807 → Cells w ax (limbs m) → Cells w ay (limbs n) →
  Calls Try.prog 57 #[.slice ax (limbs m).length cx, .slice ay (limbs n).length cy] w (Ret2 (IsLimbs (m / n)) (IsLimbs (m % n)) w)

set_option maxRecDepth 100000 in
set_option maxHeartbeats 800000 in
theorem divOK_less (m n : Nat) (lx : (limbs m).length ≤ 1048576) (h : (limbs m).length < (limbs n).length) : DivOK m n := by
  intro w ax ay cx cy kx ky bx by_ hx hy
  have hlt := lt_of_len h
  have HQ := Lib.hid (Nat.div_eq_of_lt hlt)
  have HR := Lib.hid (Nat.mod_eq_of_lt hlt)
  clear hlt
  go_enter Try.func57, Try.ntmps57
  go_wp2_with fail
  refine (clone_calls w ax (limbs m) cx (by omega) hx kx).mono ?_
  rintro e w1 ⟨az, cz, rfl, h1, h2, hE, hz⟩
  have hc := Cloned.cells hz
  clear hz
  go_wp2
  go_ret2
  exact ⟨_, _, rfl, by rw [HQ.out]; exact ⟨none, 0, rfl, by simp [limbs_zero], by omega, Cells.nil _ _⟩, by rw [HR.out]; exact ⟨az, cz, rfl, h1, h2, hc⟩, hE⟩

set_option maxRecDepth 100000 in
set_option maxHeartbeats 800000 in
theorem divOK_small (m n : Nat) (h : ¬ (limbs m).length < (limbs n).length) (h2 : (limbs m).length ≤ 2) (hn : n ≠ 0) : DivOK m n := by
  intro w ax ay cx cy kx ky bx by_ hx hy
  have bm : m < 1000000000000000000 := by have := lt_of_limbs_len h2; omega
  have bn : n < 1000000000000000000 := by have := lt_of_limbs_len (n := n) (k := 2) (by omega); omega
  have hvx := valueOf_calls w ax (limbs m) cx kx bx hx (by rw [val_limbs]; omega)
  have hvy := valueOf_calls w ay (limbs n) cy ky by_ hy (by rw [val_limbs]; omega)
  rw [val_limbs] at hvx hvy
  have HX := Lib.hid hvx
  have HY := Lib.hid hvy
  have hq1 : m / n ≤ m := Nat.div_le_self _ _
  have hr1 : m % n < n := Nat.mod_lt _ (by omega)
  obtain ⟨q, hq⟩ : ∃ q, q = m / n := ⟨_, rfl⟩
  obtain ⟨r, hr⟩ : ∃ r, r = m % n := ⟨_, rfl⟩
  have HF := Lib.hid (And.intro (wrap_quo m n q (by omega) hq) (rem_nat m n r hr))
  rw [← hq, ← hr]
  rw [← hq] at hq1
  rw [← hr] at hr1
  have HA := Lib.hid (fun W => limbsOf_calls W q (by omega))
  have HC := Lib.hid (fun W => limbsOf_calls W r (by omega))
  have l1 : ((limbs n).length : Int) ≤ ((limbs m).length : Int) := by omega
  have l2 : decide (((limbs m).length : Int) ≤ 2) = true := decide_eq_true (by omega)
  clear hvx hvy hq hr hq1 hr1 bm bn h h2 kx ky bx by_
  go_enter Try.func57, Try.ntmps57
  go_wp2_with fail
  refine HX.out.mono ?_
  rintro e w' ⟨rfl, rfl⟩
  go_wp2_with fail
  refine HY.out.mono ?_
  rintro e w' ⟨rfl, rfl⟩
  obtain ⟨b1, b2, b3⟩ := HF.out
  clear l1 l2
  go_wp2_with fail
  go_region_held3 (fun _ => True) (exact True.intro) ((first
    | (go_at_call 43; ((with_reducible refine (HA.out _).mono ?_)); rintro e w1 ⟨v1, rfl, hv1, e1⟩)
    | (go_at_call 43; ((with_reducible refine (HC.out _).mono ?_)); rintro e w2 ⟨v2, rfl, hv2, e2⟩)))
  go_wp2
  go_ret2
  exact ⟨v1, v2, rfl, hv1.ext e2, hv2, e1.of_drew.trans e2⟩

/-- Quotient and remainder, rounded down, and how great they are. -/
def DM (z1 z2 q r : Int) : Prop := z1 = q * z2 + r ∧ (0 ≤ r ∧ r < z2 ∨ z2 < r ∧ r ≤ 0) ∧ q.natAbs ≤ z1.natAbs ∧ r.natAbs < z2.natAbs
theorem xor_xor (s s' : Bool) : (!((!(s == s')) == s')) = s := by cases s <;> cases s' <;> rfl
theorem sgn_range (s : Bool) (r n : Nat) (h : r < n) : 0 ≤ sgn s r ∧ sgn s r < sgn s n ∨ sgn s n < sgn s r ∧ sgn s r ≤ 0 := by
  cases s
  · left; simp [sgn]; omega
  · right; simp [sgn]; omega
theorem dm_same (s s' : Bool) (m n : Nat) (hn : 0 < n) (h : s = s' ∨ m % n = 0) : DM (sgn s m) (sgn s' n) (sgn (!(s == s')) (m / n)) (sgn s' (m % n)) := by
  have e := Nat.div_add_mod m n
  have hr := Nat.mod_lt m hn
  have hq := Nat.div_le_self m n
  rw [Nat.mul_comm] at e
  refine ⟨?_, sgn_range s' _ _ hr, by rw [natAbs_sgn, natAbs_sgn]; exact hq, by rw [natAbs_sgn, natAbs_sgn]; exact hr⟩
  rw [sgn_mul, xor_xor]
  rcases h with rfl | h0
  · rw [sgn_add_same, e]
  · rw [h0] at e ⊢
    rw [sgn_zero, Int.add_zero]; rw [Nat.add_zero] at e; rw [e]
theorem dm_other (s s' : Bool) (m n : Nat) (hn : 0 < n) (h : s ≠ s') (hr0 : m % n ≠ 0) : DM (sgn s m) (sgn s' n) (sgn (!(s == s')) (m / n + 1)) (sgn s' (n - m % n)) := by
  have e := Nat.div_add_mod m n
  have hr := Nat.mod_lt m hn
  have hq : m / n + 1 ≤ m := by
    have h2 : 2 ≤ n := by
      rcases Nat.lt_or_ge n 2 with h1 | h1
      · obtain rfl : n = 1 := by omega
        rw [Nat.mod_one] at hr0; omega
      · exact h1
    have hm : 0 < m := by
      rcases Nat.eq_zero_or_pos m with h1 | h1
      · subst h1; simp at hr0
      · exact h1
    exact Nat.div_lt_self hm h2
  rw [Nat.mul_comm] at e
  refine ⟨?_, sgn_range s' _ _ (by omega), by rw [natAbs_sgn, natAbs_sgn]; exact hq, by rw [natAbs_sgn, natAbs_sgn]; omega⟩
  rw [sgn_mul, xor_xor]
  have hle : n - m % n ≤ (m / n + 1) * n := by rw [Nat.add_mul]; omega
  rw [sgn_add_ge _ _ _ _ h hle]
  congr 1
  rw [Nat.add_mul]; omega

/-- Two structs boxed, and two results that are integers. -/
theorem boxes2rr (w : World) (u0 u1 v0 v1 : Value) (t : TypeId) : ∃ W, ((((w.alloc (.cells #[u0, u1] t)).alloc (.cells #[v0, v1] t)).alloc (.cells #[.bool false, .slice none 0 0] t)).alloc (.cells #[.bool false, .slice none 0 0] t)) = W ∧ Ext w W ∧
    W.cell? ⟨w.heap.size, 0, none⟩ = some u0 ∧ W.cell? ⟨w.heap.size, 1, none⟩ = some u1 ∧ W.cell? ⟨w.heap.size + 1, 0, none⟩ = some v0 ∧ W.cell? ⟨w.heap.size + 1, 1, none⟩ = some v1 ∧
    (W.cell? ⟨w.heap.size + 2, 0, none⟩ = some (.bool false) ∧ W.cell? ⟨w.heap.size + 2, 1, none⟩ = some (.slice none 0 0) ∧ W.frozen? ⟨w.heap.size + 2, 0, none⟩ = false ∧ W.frozen? ⟨w.heap.size + 2, 1, none⟩ = false) ∧
    (W.cell? ⟨w.heap.size + 3, 0, none⟩ = some (.bool false) ∧ W.cell? ⟨w.heap.size + 3, 1, none⟩ = some (.slice none 0 0) ∧ W.frozen? ⟨w.heap.size + 3, 0, none⟩ = false ∧ W.frozen? ⟨w.heap.size + 3, 1, none⟩ = false) := by
  obtain ⟨V, hV, eV, c0, c1, d0, d1, r0, r1, f0, f1⟩ := boxes2r w u0 u1 v0 v1 t
  obtain ⟨W, hW, eW, _, a0, a1, a2, a3⟩ := res_new V t
  have hz : V.heap.size = w.heap.size + 3 := by rw [← hV]; simp
  rw [hz] at a0 a1 a2 a3
  exact ⟨W, by rw [hV, hW], eV.trans eW, eW.cell c0, eW.cell c1, eW.cell d0, eW.cell d1, ⟨eW.cell r0, eW.cell r1, eW.frozen (lt_of_cell r0) f0, eW.frozen (lt_of_cell r1) f1⟩, a0, a1, a2, a3⟩

theorem isInt_raw {w : World} {ao : Option Addr} {cap n : Nat} {s : Bool} (h1 : (limbs n).length ≤ cap) (h2 : cap ≤ 9223372036854775807) (h3 : Cells w ao (limbs n)) (h4 : s = true → 0 < n) :
    Raw w (.agg #[.bool s, .slice ao (limbs n).length cap]) s (limbs n) ∧ okB s (limbs n) = true := by
  refine ⟨⟨ao, cap, rfl, h1, h2, h3⟩, ?_⟩
  rcases Nat.eq_zero_or_pos n with h0 | h0
  · subst h0
    rw [limbs_zero, okB_nil]
    cases s
    · rfl
    · exact absurd (h4 rfl) (by omega)
  · rw [okB_dig (dig_limbs n) (limbs_pos h0)]
    have := limbs_last n (by intro e; have := limbs_eq_nil.1 e; omega)
    simpa using this

theorem IsInt.store2 {w2 : World} {v : Value} {z : Int} {r : Nat} {b0 : Bool} {a0 : Option Addr} {l0 k0 : Nat} (h : IsInt w2 v z)
    (c0 : w2.cell? ⟨r, 0, none⟩ = some (.bool b0)) (c1 : w2.cell? ⟨r, 1, none⟩ = some (.slice a0 l0 k0)) (u0 u1 : Value) : IsInt ((w2.setCell ⟨r, 0, none⟩ u0).setCell ⟨r, 1, none⟩ u1) v z := by
  obtain ⟨ao', cap', hv, h1, h2, h3⟩ := h
  have k1 : (w2.setCell ⟨r, 0, none⟩ u0).cell? ⟨r, 1, none⟩ = some (.slice a0 l0 k0) := by
    rw [World.cell?_setCell_other _ _ _ _ (by simp)]; exact c1
  exact ⟨ao', cap', hv, h1, h2, (h3.store c0 (by simp) _).store k1 (by simp) _⟩
/-- What DivMod returns for a divisor that is not 0. -/
def RetDM (z1 z2 : Int) (w : World) (e : Ending) (w' : World) : Prop :=
  ∃ v1 v2 q r, e = .returned (.tuple #[v1, v2, .int .i64 0]) ∧ IsInt w' v1 q ∧ IsInt w' v2 r ∧ DM z1 z2 q r ∧ Ext w w'

/-- Both results have been stored and are read again. -/
theorem fin_dm {w w2 : World} {v4 v5 u0 u1 u2 u3 : Value} {b0 b1 : Bool} {a0 a1 : Option Addr} {l0 k0 l1 k1 : Nat} {z1 z2 q r : Int} {g : Nat} (h4 : IsInt w2 v4 q) (h5 : IsInt w2 v5 r) (hdm : DM z1 z2 q r)
    (c0 : w2.cell? ⟨g, 0, none⟩ = some (.bool b0)) (c1 : w2.cell? ⟨g, 1, none⟩ = some (.slice a0 l0 k0)) (d0 : w2.cell? ⟨g + 1, 0, none⟩ = some (.bool b1)) (d1 : w2.cell? ⟨g + 1, 1, none⟩ = some (.slice a1 l1 k1))
    (hr : w.heap.size ≤ g) (e : Ext w w2) :
    RetDM z1 z2 w (.returned (.tuple #[v4, v5, .int .i64 0])) ((((w2.setCell ⟨g, 0, none⟩ u0).setCell ⟨g, 1, none⟩ u1).setCell ⟨g + 1, 0, none⟩ u2).setCell ⟨g + 1, 1, none⟩ u3) := by
  have k0 := keep_store (x := u0) (y := u1) (i := 0) (j := 1) (r := g) d0 (by omega)
  have k1 := keep_store (x := u0) (y := u1) (i := 0) (j := 1) (r := g) d1 (by omega)
  exact ⟨v4, v5, q, r, rfl, (h4.store2 c0 c1 _ _).store2 k0 k1 _ _, (h5.store2 c0 c1 _ _).store2 k0 k1 _ _, hdm,
    (((e.setCell (p := ⟨g, 0, none⟩) hr _).setCell (p := ⟨g, 1, none⟩) hr _).setCell (p := ⟨g + 1, 0, none⟩) (Nat.le_succ_of_le hr) _).setCell (p := ⟨g + 1, 1, none⟩) (Nat.le_succ_of_le hr) _⟩

set_option maxRecDepth 100000 in
set_option maxHeartbeats 6400000 in
theorem divMod_calls (w : World) (v1 v2 : Value) (z1 z2 : Int) (h : IsInt w v1 z1) (k : IsInt w v2 z2) (l1 : Sm z1) (l2 : Sm z2) (hz2 : z2 ≠ 0) (hD : DivOK z1.natAbs z2.natAbs) :
    Calls Try.prog 33 #[v1, v2] w (RetDM z1 z2 w) := by
  obtain ⟨ao, cap, s, n, rfl, h1, h2, h3, H4, H5, H6⟩ := h.open_
  obtain ⟨ao', cap', s', n', rfl, k1, k2, k3, K4, K5, K6⟩ := k.open_
  unfold Sm at l1 l2
  rw [← H4.out] at l1
  rw [← K4.out] at l2
  rw [← H4.out, ← K4.out] at hD
  have hn0 : 0 < n' := by have := K4.out; omega
  obtain ⟨W, hW, eW, c0, c1, d0, d1, ⟨q0, q1, fq0, fq1⟩, ⟨r0, r1, fr0, fr1⟩⟩ := boxes2rr w (.bool s) (.slice ao (limbs n).length cap) (.bool s') (.slice ao' (limbs n').length cap') 24
  have HVA := Lib.hid (isInt_raw h1 h2 h3 H6.out)
  have HVB := Lib.hid (isInt_raw k1 k2 k3 K6.out)
  have hbe : (((limbs n').length : Int) == 0) = false := by have := limbs_pos hn0; rw [beq_eq_false_iff_ne]; omega
  have HN := Lib.hid hn0
  clear hn0
  go_enter Try.func33, Try.ntmps33
  go_wp2_with fail
  clear hW
  refine (valid_calls W _ s (limbs n) (HVA.out.1.ext eW)).mono ?_
  rintro e w1 ⟨rfl, e1⟩
  rw [HVA.out.2]
  replace c0 := e1.cell c0
  replace c1 := e1.cell c1
  replace d0 := e1.cell d0
  replace d1 := e1.cell d1
  go_wp2_with fail
  refine (valid_calls w1 _ s' (limbs n') (HVB.out.1.ext (eW.trans e1))).mono ?_
  rintro e w2 ⟨rfl, e2⟩
  rw [HVB.out.2]
  replace c0 := e2.cell c0
  replace c1 := e2.cell c1
  replace d0 := e2.cell d0
  replace d1 := e2.cell d1
  go_wp2_with fail
  refine (hD w2 ao ao' cap cap' h1 k1 h2 k2 (h3.ext ((eW.trans e1).trans e2)) (k3.ext ((eW.trans e1).trans e2))).mono ?_
  rintro e w3 ⟨u1, u2, rfl, ⟨aq, cq, rfl, m1, m2, m3⟩, ⟨ar, cr, rfl, p1, p2, p3⟩, e3⟩
  replace c0 := e3.cell c0
  replace c1 := e3.cell c1
  replace d0 := e3.cell d0
  replace d1 := e3.cell d1
  have eA := (e1.trans e2).trans e3
  have hlq := lt_of_cell q0
  have hlr := lt_of_cell r0
  replace q0 := eA.cell q0
  replace q1 := eA.cell q1
  replace r0 := eA.cell r0
  replace r1 := eA.cell r1
  replace fq0 := eA.frozen (p := ⟨w.heap.size + 2, 0, none⟩) hlq fq0
  replace fq1 := eA.frozen (p := ⟨w.heap.size + 2, 1, none⟩) hlq fq1
  replace fr0 := eA.frozen (p := ⟨w.heap.size + 3, 0, none⟩) hlr fr0
  replace fr1 := eA.frozen (p := ⟨w.heap.size + 3, 1, none⟩) hlr fr1
  replace eW := eW.trans eA
  clear hlq hlr e1 e2 e3 eA hD
  by_cases hs : s = s'
  · subst hs
    have hb : (s == s) = true := by cases s <;> rfl
    have HE : Hid (DM z1 z2 (sgn false (n / n')) (sgn s (n % n'))) := by
      unfold Hid; rw [H5.out, K5.out]; have := dm_same s s n n' HN.out (.inl rfl); rw [hb] at this; exact this
    go_wp2_with fail
    clear c1 d1 HVA HVB hbe H4 H5 H6 K4 K5 K6 h k hz2 l1 l2 hb
    have c0d : w3.drew.cell? ⟨w.heap.size, 0, none⟩ = some (.bool s) := c0
    have d0d : w3.drew.cell? ⟨w.heap.size + 1, 0, none⟩ = some (.bool s) := d0
    go_region_held3 (fun w' => w'.cell? ⟨w.heap.size, 0, none⟩ = some (.bool s) ∧ w'.cell? ⟨w.heap.size + 1, 0, none⟩ = some (.bool s))
      (first | with_reducible exact ⟨c0d, d0d⟩ | with_reducible exact ⟨c04, d04⟩ | with_reducible exact ⟨c05, d05⟩ | with_reducible exact ⟨keep_store c05 (by omega), keep_store d05 (by omega)⟩ | exact ⟨keep_store (keep_store c05 (by omega)) (by omega), keep_store (keep_store d05 (by omega)) (by omega)⟩) ((first
        | (go_at_call 42; ((with_reducible refine (signedL_calls _ _ _ _ _ m1 m2 m3.drew).mono ?_)); rintro e w4 ⟨v4, rfl, hI4, e4⟩; obtain ⟨ao4, cap4, s4, n4, rfl, _⟩ := hI4.open_; have c04 := e4.of_drew.cell c0; have d04 := e4.of_drew.cell d0)
        | (go_at_call 42; ((with_reducible refine (signedL_calls _ _ _ _ _ p1 p2 (p3.ext e4.of_drew)).mono ?_)); rintro e w5 ⟨v5, rfl, hI5, e5⟩; obtain ⟨ao5, cap5, s5, n5, rfl, _⟩ := hI5.open_; have c05 := e5.cell c04; have d05 := e5.cell d04; have eB := e4.of_drew.trans e5; have q05 := eB.cell q0; have q15 := eB.cell q1; have r05 := eB.cell r0; have r15 := eB.cell r1; have fq05 := eB.frozen (lt_of_cell q0) fq0; have fq15 := eB.frozen (lt_of_cell q1) fq1; have fr05 := eB.frozen (lt_of_cell r0) fr0; have fr15 := eB.frozen (lt_of_cell r1) fr1)))
    go_wp2
    exact bodyPost_ret (v := .tuple #[.agg #[.bool s4, .slice ao4 (limbs n4).length cap4], .agg #[.bool s5, .slice ao5 (limbs n5).length cap5], .int .i64 0]) (by simp [results, Try.results33, go_sem, q05, q15, r05, r15]) rfl (fin_dm (hI4.ext e5) hI5 HE.out q05 q15 r05 r15 (by omega) (eW.trans eB))
  · have hb : (s == s') = false := by cases s <;> cases s' <;> simp_all
    by_cases hr0 : n % n' = 0
    · have HE : Hid (DM z1 z2 (sgn (!(s == s')) (n / n')) (sgn s' (n % n'))) := by
        unfold Hid; rw [H5.out, K5.out]; exact dm_same s s' n n' HN.out (.inr hr0)
      have hl0 : (((limbs (n % n')).length : Int) != 0) = false := by rw [hr0]; rfl
      clear hr0 hs
      go_wp2_with fail
      clear c1 d1 HVA HVB hbe H4 H5 H6 K4 K5 K6 h k hz2 l1 l2 hb
      have c0d : w3.drew.cell? ⟨w.heap.size, 0, none⟩ = some (.bool s) := c0
      have d0d : w3.drew.cell? ⟨w.heap.size + 1, 0, none⟩ = some (.bool s') := d0
      go_region_held3 (fun w' => w'.cell? ⟨w.heap.size, 0, none⟩ = some (.bool s) ∧ w'.cell? ⟨w.heap.size + 1, 0, none⟩ = some (.bool s'))
        (first | with_reducible exact ⟨c0d, d0d⟩ | with_reducible exact ⟨c04, d04⟩ | with_reducible exact ⟨c05, d05⟩ | with_reducible exact ⟨keep_store c05 (by omega), keep_store d05 (by omega)⟩ | exact ⟨keep_store (keep_store c05 (by omega)) (by omega), keep_store (keep_store d05 (by omega)) (by omega)⟩) ((first
          | (go_at_call 42; ((with_reducible refine (signedL_calls _ _ _ _ _ m1 m2 m3.drew).mono ?_)); rintro e w4 ⟨v4, rfl, hI4, e4⟩; obtain ⟨ao4, cap4, s4, n4, rfl, _⟩ := hI4.open_; have c04 := e4.of_drew.cell c0; have d04 := e4.of_drew.cell d0)
          | (go_at_call 42; ((with_reducible refine (signedL_calls _ _ _ _ _ p1 p2 (p3.ext e4.of_drew)).mono ?_)); rintro e w5 ⟨v5, rfl, hI5, e5⟩; obtain ⟨ao5, cap5, s5, n5, rfl, _⟩ := hI5.open_; have c05 := e5.cell c04; have d05 := e5.cell d04; have eB := e4.of_drew.trans e5; have q05 := eB.cell q0; have q15 := eB.cell q1; have r05 := eB.cell r0; have r15 := eB.cell r1; have fq05 := eB.frozen (lt_of_cell q0) fq0; have fq15 := eB.frozen (lt_of_cell q1) fq1; have fr05 := eB.frozen (lt_of_cell r0) fr0; have fr15 := eB.frozen (lt_of_cell r1) fr1)))
      go_wp2
      exact bodyPost_ret (v := .tuple #[.agg #[.bool s4, .slice ao4 (limbs n4).length cap4], .agg #[.bool s5, .slice ao5 (limbs n5).length cap5], .int .i64 0]) (by simp [results, Try.results33, go_sem, q05, q15, r05, r15]) rfl (fin_dm (hI4.ext e5) hI5 HE.out q05 q15 r05 r15 (by omega) (eW.trans eB))
    · have HE : Hid (DM z1 z2 (sgn (!(s == s')) (n / n' + 1)) (sgn s' (n' - n % n'))) := by
        unfold Hid; rw [H5.out, K5.out]; exact dm_other s s' n n' HN.out hs hr0
      have hl0 : (((limbs (n % n')).length : Int) != 0) = true := by have := limbs_pos (n := n % n') (by omega); rw [bne_iff_ne]; omega
      have hrl : n % n' ≤ n' := Nat.le_of_lt (Nat.mod_lt _ HN.out)
      have hql : (limbs (n / n')).length ≤ 1048576 := Nat.le_trans (limbs_len_mono (Nat.div_le_self _ _)) l1
      have HRL := Lib.hid (And.intro hrl hql)
      have hadd := addLimbs_calls (w3.alloc (.cells #[.int .u32 1] 46)) aq (some ⟨w3.heap.size, 0, none⟩) (limbs (n / n')) [1] cq 1 (by omega) (by simp) (m3.ext ((Ext.refl w3).alloc _)) (Blk.new w3 [1]).cells (dig_limbs _) (Dig.cons (by omega) Dig.nil)
      rw [val_limbs, show val [1] = 1 from rfl] at hadd
      have HA := Lib.hid hadd
      clear hr0 hs hrl hql hadd
      go_wp2_with fail
      refine HA.out.mono ?_
      rintro e w6 ⟨u6, rfl, ⟨a6, c6, rfl, x1, x2, x3⟩, e6⟩
      replace e6 := ((Ext.refl w3).alloc _).trans e6
      replace c0 := e6.cell c0
      replace c1 := e6.cell c1
      replace d0 := e6.cell d0
      replace d1 := e6.cell d1
      replace fq0 := e6.frozen (lt_of_cell q0) fq0
      replace fq1 := e6.frozen (lt_of_cell q1) fq1
      replace fr0 := e6.frozen (lt_of_cell r0) fr0
      replace fr1 := e6.frozen (lt_of_cell r1) fr1
      replace q0 := e6.cell q0
      replace q1 := e6.cell q1
      replace r0 := e6.cell r0
      replace r1 := e6.cell r1
      replace eW := eW.trans e6
      replace p3 := p3.ext e6
      have hsub := Lib.hid (subtractLimbs_calls w6 ao' ar n' (n % n') cap' cr (by omega) HRL.out.1 k1 (k3.ext eW) p3)
      clear HA HRL e6
      go_wp2_with fail
      refine hsub.out.mono ?_
      rintro e w7 ⟨u7, rfl, ⟨a7, c7, rfl, y1, y2, y3⟩, e7⟩
      replace c0 := e7.cell c0
      replace c1 := e7.cell c1
      replace d0 := e7.cell d0
      replace d1 := e7.cell d1
      replace fq0 := e7.frozen (lt_of_cell q0) fq0
      replace fq1 := e7.frozen (lt_of_cell q1) fq1
      replace fr0 := e7.frozen (lt_of_cell r0) fr0
      replace fr1 := e7.frozen (lt_of_cell r1) fr1
      replace q0 := e7.cell q0
      replace q1 := e7.cell q1
      replace r0 := e7.cell r0
      replace r1 := e7.cell r1
      replace eW := eW.trans e7
      replace x3 := x3.ext e7
      clear e7 hsub
      go_wp2_with fail
      clear c1 d1 HVA HVB hbe H4 H5 H6 K4 K5 K6 h k hz2 l1 l2 hb
      have c0d : w7.drew.cell? ⟨w.heap.size, 0, none⟩ = some (.bool s) := c0
      have d0d : w7.drew.cell? ⟨w.heap.size + 1, 0, none⟩ = some (.bool s') := d0
      go_region_held3 (fun w' => w'.cell? ⟨w.heap.size, 0, none⟩ = some (.bool s) ∧ w'.cell? ⟨w.heap.size + 1, 0, none⟩ = some (.bool s'))
        (first | with_reducible exact ⟨c0d, d0d⟩ | with_reducible exact ⟨c04, d04⟩ | with_reducible exact ⟨c05, d05⟩ | with_reducible exact ⟨keep_store c05 (by omega), keep_store d05 (by omega)⟩ | exact ⟨keep_store (keep_store c05 (by omega)) (by omega), keep_store (keep_store d05 (by omega)) (by omega)⟩) ((first
          | (go_at_call 42; ((with_reducible refine (signedL_calls _ _ _ _ _ x1 x2 x3.drew).mono ?_)); rintro e w4 ⟨v4, rfl, hI4, e4⟩; obtain ⟨ao4, cap4, s4, n4, rfl, _⟩ := hI4.open_; have c04 := e4.of_drew.cell c0; have d04 := e4.of_drew.cell d0)
          | (go_at_call 42; ((with_reducible refine (signedL_calls _ _ _ _ _ y1 y2 (y3.ext e4.of_drew)).mono ?_)); rintro e w5 ⟨v5, rfl, hI5, e5⟩; obtain ⟨ao5, cap5, s5, n5, rfl, _⟩ := hI5.open_; have c05 := e5.cell c04; have d05 := e5.cell d04; have eB := e4.of_drew.trans e5; have q05 := eB.cell q0; have q15 := eB.cell q1; have r05 := eB.cell r0; have r15 := eB.cell r1; have fq05 := eB.frozen (lt_of_cell q0) fq0; have fq15 := eB.frozen (lt_of_cell q1) fq1; have fr05 := eB.frozen (lt_of_cell r0) fr0; have fr15 := eB.frozen (lt_of_cell r1) fr1)))
      go_wp2
      exact bodyPost_ret (v := .tuple #[.agg #[.bool s4, .slice ao4 (limbs n4).length cap4], .agg #[.bool s5, .slice ao5 (limbs n5).length cap5], .int .i64 0]) (by simp [results, Try.results33, go_sem, q05, q15, r05, r15]) rfl (fin_dm (hI4.ext e5) hI5 HE.out q05 q15 r05 r15 (by omega) (eW.trans eB))

end Go.Proofs.Ytfjaboolfjgleaa
