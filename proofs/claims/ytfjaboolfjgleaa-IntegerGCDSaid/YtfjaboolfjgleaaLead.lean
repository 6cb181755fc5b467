/-
  leadingSteps, of Lehmer's algorithm.
-/
import Derived.Test.YtfjaboolfjgleaaComb
import Derived.Deep.DeepCutAuto
namespace Go.Proofs.Ytfjaboolfjgleaa
open Go.RowKit

/-- A block of four numbers. -/
def Four (w : World) (g : Nat) (a b c d : Int) : Prop :=
  (w.cell? ⟨g, 0, none⟩ = some (.int .i64 a) ∧ w.cell? ⟨g, 1, none⟩ = some (.int .i64 b) ∧ w.cell? ⟨g, 2, none⟩ = some (.int .i64 c) ∧ w.cell? ⟨g, 3, none⟩ = some (.int .i64 d)) ∧
  (w.frozen? ⟨g, 0, none⟩ = false ∧ w.frozen? ⟨g, 1, none⟩ = false ∧ w.frozen? ⟨g, 2, none⟩ = false ∧ w.frozen? ⟨g, 3, none⟩ = false)
section
variable {w w' : World} {g : Nat} {a b c d : Int}
theorem four_new (w : World) (a b c d : Int) (t : TypeId) : Four (w.alloc (.cells #[.int .i64 a, .int .i64 b, .int .i64 c, .int .i64 d] t)) w.heap.size a b c d := by
  refine ⟨⟨by simp, by simp, by simp, by simp⟩, ?_⟩
  refine ⟨?_, ?_, ?_, ?_⟩
  all_goals
    show (match (w.heap.push _)[w.heap.size]? with | some (.cells _ _ (lo, hi)) => _ | _ => _) = _
    rw [Array.getElem?_push_size]; rfl
theorem Four.ext (h : Four w g a b c d) (e : Ext w w') : Four w' g a b c d := by
  obtain ⟨⟨h0, h1, h2, h3⟩, f0, f1, f2, f3⟩ := h
  exact ⟨⟨e.cell h0, e.cell h1, e.cell h2, e.cell h3⟩, e.frozen (lt_of_cell h0) f0, e.frozen (lt_of_cell h1) f1, e.frozen (lt_of_cell h2) f2, e.frozen (lt_of_cell h3) f3⟩
theorem Four.far (h : Four w g a b c d) {g' : Nat} (hg : g' ≠ g) (i : Nat) (v : Value) : Four (w.setCell ⟨g', i, none⟩ v) g a b c d := by
  obtain ⟨⟨h0, h1, h2, h3⟩, f0, f1, f2, f3⟩ := h
  refine ⟨⟨?_, ?_, ?_, ?_⟩, by simpa using f0, by simpa using f1, by simpa using f2, by simpa using f3⟩
  all_goals rw [World.cell?_setCell_far _ _ _ _ hg]
  · exact h0
  · exact h1
  · exact h2
  · exact h3
theorem Four.put (h : Four w g a b c d) (a' b' c' d' : Int) :
    Four ((((w.setCell ⟨g, 0, none⟩ (.int .i64 a')).setCell ⟨g, 1, none⟩ (.int .i64 b')).setCell ⟨g, 2, none⟩ (.int .i64 c')).setCell ⟨g, 3, none⟩ (.int .i64 d')) g a' b' c' d' := by
  obtain ⟨⟨h0, h1, h2, h3⟩, f0, f1, f2, f3⟩ := h
  have o : ∀ (w : World) (i j : Nat) (v : Value), i ≠ j → (w.setCell ⟨g, i, none⟩ v).cell? ⟨g, j, none⟩ = w.cell? ⟨g, j, none⟩ := fun w i j v hij => World.cell?_setCell_other _ _ _ _ (by intro e; injection e with _ e; exact hij e)
  refine ⟨⟨?_, ?_, ?_, ?_⟩, by simpa using f0, by simpa using f1, by simpa using f2, by simpa using f3⟩
  · rw [o _ _ _ _ (by decide), o _ _ _ _ (by decide), o _ _ _ _ (by decide)]
    exact World.cell?_setCell_same _ _ _ h0
  · rw [o _ _ _ _ (by decide), o _ _ _ _ (by decide)]
    exact World.cell?_setCell_same _ _ _ (u := .int .i64 b) (by rw [o _ _ _ _ (by decide)]; exact h1)
  · rw [o _ _ _ _ (by decide)]
    exact World.cell?_setCell_same _ _ _ (u := .int .i64 c) (by rw [o _ _ _ _ (by decide), o _ _ _ _ (by decide)]; exact h2)
  · exact World.cell?_setCell_same _ _ _ (u := .int .i64 d) (by rw [o _ _ _ _ (by decide), o _ _ _ _ (by decide), o _ _ _ _ (by decide)]; exact h3)
theorem Ext.put4 {w0 : World} (h : Ext w0 w) (hg : w0.heap.size ≤ g) (v0 v1 v2 v3 : Value) : Ext w0 ((((w.setCell ⟨g, 0, none⟩ v0).setCell ⟨g, 1, none⟩ v1).setCell ⟨g, 2, none⟩ v2).setCell ⟨g, 3, none⟩ v3) :=
  (((h.setCell (p := ⟨g, 0, none⟩) hg _).setCell (p := ⟨g, 1, none⟩) hg _).setCell (p := ⟨g, 2, none⟩) hg _).setCell (p := ⟨g, 3, none⟩) hg _
end

/-- What leadingSteps returns. -/
def RetLead (X Y N H L : Int) (w : World) (e : Ending) (w' : World) : Prop :=
  ∃ a b c d h l, e = .returned (.agg #[.int .i64 a, .int .i64 b, .int .i64 c, .int .i64 d]) ∧ Leh X Y N H L h l a b c d ∧ Ext w w'

/-- The numbers that leadingSteps begins with. -/
theorem lead_parts (xs : List Nat) (k : Nat) (dx : Dig xs) : ∃ x', x' < 1000000000 ^ k ∧ val xs = val (xs.drop k) * 1000000000 ^ k + x' := by
  rcases Nat.lt_or_ge k xs.length with h | h
  · refine ⟨val (xs.take k), ?_, ?_⟩
    · have := val_lt (dx.take k)
      rwa [List.length_take, Nat.min_eq_left (by omega)] at this
    · rw [val_split xs k (by omega), Nat.mul_comm, Nat.add_comm]
  · refine ⟨val xs, Nat.lt_of_lt_of_le (val_lt dx) (Nat.pow_le_pow_right (by omega) h), ?_⟩
    rw [List.drop_of_length_le h]; simp [val]

set_option maxRecDepth 100000 in
set_option maxHeartbeats 3200000 in
theorem leadingSteps_calls (w : World) (b off : Nat) (ay : Option Addr) (xs ys : List Nat) (cx cy k : Nat) (hk : xs.length = k + 2) (lx : xs.length ≤ 1048576) (hyx : ys.length ≤ xs.length) (kx : xs.length ≤ cx) (bx : cx ≤ 9223372036854775807) (ky : ys.length ≤ cy) (by_ : cy ≤ 9223372036854775807)
    (hx : Cells w (some ⟨b, off, none⟩) xs) (dx : Dig xs) (hy : Cells w ay ys) (dy : Dig ys) (hle : val ys ≤ val xs) :
    Calls Try.prog 72 #[.slice (some ⟨b, off, none⟩) (k + 2) cx, .slice ay ys.length cy] w
      (RetLead (val xs : Nat) (val ys : Nat) ((1000000000 ^ k : Nat) : Int) (val (xs.drop k) : Nat) (val (ys.drop k) : Nat) w) := by
  obtain ⟨x', hx1, hx2⟩ := lead_parts xs k dx
  obtain ⟨y', hy1, hy2⟩ := lead_parts ys k dy
  have hH : val (xs.drop k) < 1000000000000000000 := by
    have := val_lt (dx.drop k)
    rw [List.length_drop, show xs.length - k = 2 by omega] at this
    exact this
  have hLH : val (ys.drop k) ≤ val (xs.drop k) := by
    rcases Nat.lt_or_ge (val (xs.drop k)) (val (ys.drop k)) with h | h
    · exfalso
      have := Nat.mul_le_mul_right (1000000000 ^ k) (show val (xs.drop k) + 1 ≤ val (ys.drop k) from h)
      rw [Nat.add_mul] at this
      omega
    · exact h
  have hv1 := fun W (e : Ext w W) => valueOf_calls W (some ⟨b, off + k, none⟩) (xs.drop k) (cx - k) (by rw [List.length_drop]; omega) (by omega) ((hx.drop k).ext e) (by omega)
  rw [List.length_drop, show xs.length - k = 2 by omega] at hv1
  obtain ⟨X, hX⟩ : ∃ X, X = val xs := ⟨_, rfl⟩
  obtain ⟨Y, hY⟩ : ∃ Y, Y = val ys := ⟨_, rfl⟩
  obtain ⟨H, hHe⟩ : ∃ H, H = val (xs.drop k) := ⟨_, rfl⟩
  obtain ⟨L, hLe⟩ : ∃ L, L = val (ys.drop k) := ⟨_, rfl⟩
  obtain ⟨N, hN⟩ : ∃ N, N = 1000000000 ^ k := ⟨_, rfl⟩
  have hN0 : 0 < N := by rw [hN]; exact Nat.pow_pos (by omega)
  rw [← hX, ← hHe, ← hN] at hx2
  rw [← hY, ← hLe, ← hN] at hy2
  rw [← hN] at hx1 hy1
  rw [← hHe] at hv1 hH
  rw [← hHe, ← hLe] at hLH
  rw [← hX, ← hY] at hle
  rw [← hX, ← hY, ← hHe, ← hLe, ← hN]
  have I0 : Leh (X : Int) Y N H L H L 1 0 0 1 := Leh.start (by omega) (by omega) (by omega) (by omega)
  have HF := Lib.hid (fun (h l a b c d q : Int) (I : Leh (X : Int) Y N H L h l a b c d) (k1 : 0 < l + c) (k2 : 0 < l + d) (e1 : q = (h + a) / (l + c)) (e2 : q = (h + b) / (l + d)) =>
    I.facts (x' := x') (y' := y') (by rw [hx2]; simp) (by rw [hy2]; simp) (by omega) (by omega) (by omega) (by omega) (by omega) (by omega) (by omega) k1 k2 e1 e2)
  have HV1 := Lib.hid hv1
  have hkI : (k : Int) ≤ 1048576 := by omega
  have HI0 := Lib.hid I0
  have hHI : (H : Int) ≤ 999999999999999999 := by omega
  have hLI : (L : Int) ≤ 1000000000000000001 := by omega
  have k1 : ¬ cx = k := by omega
  have k3 : (k : Int) + 2 ≤ (cx : Int) := by omega
  have hyl : (ys.length : Int) ≤ (k : Int) + 2 := by omega
  have HY := Lib.hid (And.intro hLe (And.intro hy (And.intro dy (And.intro ky by_))))
  have HHw := Lib.hid (show H < 1000000000000000000 from hH)
  clear hX hY hHe hLe hN hx2 hy2 hx1 hy1 hv1 hH hLH hle I0 hk hyx kx bx dx hx hN0 hy dy
  go_enter Try.func72, Try.ntmps72
  go_upto_region 2 with fail
  obtain ⟨W, hW⟩ : ∃ W, W = w.alloc (.cells #[.int .i64 0, .int .i64 0, .int .i64 0, .int .i64 0] 69) := ⟨_, rfl⟩
  have eW : Ext w W := by rw [hW]; exact (Ext.refl w).alloc _
  have F4 : Four W w.heap.size 0 0 0 0 := by rw [hW]; exact four_new w 0 0 0 0 _
  have hz : W.heap.size = w.heap.size + 1 := by rw [hW]; simp
  rw [← hW]
  have HZ := Lib.hid hz
  clear hW hz
  go_wp2_with fail
  refine (HV1.out W eW).mono ?_
  rintro e w' ⟨rfl, rfl⟩
  go_upto_if 21 with fail
  go_cut [7] (fun t wx => t = .int .i64 (L : Int) ∧ W = wx)
  case first =>
    by_cases hky : k < ys.length
    · obtain ⟨b', off', rfl, _⟩ := HY.out.2.1.at_ (by omega)
      have hl := val_lt (HY.out.2.2.1.drop k)
      rw [List.length_drop] at hl
      have hl2 : val (ys.drop k) < 1000000000000000000 := Nat.lt_of_lt_of_le hl (Nat.pow_le_pow_right (by omega) (show ys.length - k ≤ 2 by omega))
      have hv2 := valueOf_calls W (some ⟨b', off' + k, none⟩) (ys.drop k) (cy - k) (by rw [List.length_drop]; have := HY.out.2.2.2.1; omega) (by have := HY.out.2.2.2.2; omega) ((HY.out.2.1.drop k).ext eW) (by omega)
      rw [List.length_drop, ← HY.out.1] at hv2
      have HV2 := Lib.hid hv2
      have m1 : ¬ cy = k := by have := HY.out.2.2.2.1; omega
      have m2 : (ys.length : Int) ≤ (cy : Int) := by have := HY.out.2.2.2.1; omega
      have m3 : (k : Int) < (ys.length : Int) := by omega
      clear hv2 hl hl2
      go_wp2_with fail
      refine HV2.out.mono ?_
      rintro e w' ⟨rfl, rfl⟩
      go_wp2_with fail
      go_meet
      exact ⟨rfl, rfl⟩
    · have hL0 : L = 0 := by rw [HY.out.1, List.drop_of_length_le (by omega)]; rfl
      have m3 : (ys.length : Int) ≤ (k : Int) := by omega
      have HL0 := Lib.hid hL0
      clear hL0
      go_wp2_with fail
      go_meet
      exact ⟨by rw [HL0.out]; rfl, rfl⟩
  case rest =>
    obtain ⟨rfl, rfl⟩ := hcut
    go_upto_region 6 with fail
    go_wp2_with fail
    have hW0 : Four (W.alloc (.cells #[.int .i64 1, .int .i64 0, .int .i64 0, .int .i64 1] 69)) W.heap.size 1 0 0 1 := four_new W 1 0 0 1 _
    have F40 : Four (W.alloc (.cells #[.int .i64 1, .int .i64 0, .int .i64 0, .int .i64 1] 69)) w.heap.size 0 0 0 0 := F4.ext ((Ext.refl W).alloc _)
    have eW1 : Ext w (W.alloc (.cells #[.int .i64 1, .int .i64 0, .int .i64 0, .int .i64 1] 69)) := eW.alloc _
    go_loopw [6, 7, 9] (fun hs ls _ wr => ∃ a b c d h l : Int, hs = .int .i64 h ∧ ls = .int .i64 l ∧ Leh (X : Int) Y N H L h l a b c d ∧ Four wr W.heap.size a b c d ∧ Four wr w.heap.size 0 0 0 0 ∧ Ext w wr) (fun _ ls _ _ => (intOf ls).toNat)
    case atStart => exact ⟨1, 0, 0, 1, H, L, rfl, rfl, HI0.out, hW0, F40, eW1⟩
    case round =>
      obtain ⟨a, b, c, d, h, l, rfl, rfl, I, S8, S4, hE⟩ := hrel
      clear hW0 F40 eW1 F4 eW
      have HI := Lib.hid I
      have H8 := Lib.hid S8
      have H4 := Lib.hid S4
      obtain ⟨⟨s0, s1, s2, s3⟩, g0, g1, g2, g3⟩ := S8
      obtain ⟨⟨r0, r1, r2, r3⟩, f0, f1, f2, f3⟩ := S4
      have hne : ¬ w.heap.size = W.heap.size := by have := HZ.out; omega
      have hne2 : ¬ W.heap.size = w.heap.size := by have := HZ.out; omega
      have b0 := I.l0
      have b1 := I.lh
      have b2 := I.hH
      have ba := I.ba
      have bb := I.bb
      have bc := I.bc
      have bd := I.bd
      have k3 := I.k3
      have k4 := I.k4
      obtain ⟨U1, hU1⟩ : ∃ U1 : Int, l + c = U1 := ⟨_, rfl⟩
      obtain ⟨U2, hU2⟩ : ∃ U2 : Int, l + d = U2 := ⟨_, rfl⟩
      obtain ⟨V1, hV1⟩ : ∃ V1 : Int, h + a = V1 := ⟨_, rfl⟩
      obtain ⟨V2, hV2⟩ : ∃ V2 : Int, h + b = V2 := ⟨_, rfl⟩
      have w1 : (-1000000002 : Int) ≤ U1 := by omega
      have w2 : U1 ≤ (1100000000000000003 : Int) := by omega
      have w3 : (-1000000004 : Int) ≤ U2 := by omega
      have w4 : U2 ≤ (1100000000000000005 : Int) := by omega
      have w5 : (0 : Int) ≤ V1 := by omega
      have w6 : V1 ≤ (1100000000000000006 : Int) := by omega
      have w7 : (0 : Int) ≤ V2 := by omega
      have w8 : V2 ≤ (1100000000000000007 : Int) := by omega
      have hh1 : (0 : Int) ≤ h := by omega
      have hh2 : h ≤ (1000000000000000008 : Int) := by omega
      have HB := Lib.hid (And.intro b0 (And.intro b1 (And.intro b2 (And.intro ba (And.intro bb (And.intro bc bd))))))
      have ba1 : (-1000000009 : Int) ≤ a := by omega
      have ba2 : a ≤ (1000000010 : Int) := by omega
      have bb1 : (-1000000011 : Int) ≤ b := by omega
      have bb2 : b ≤ (1000000012 : Int) := by omega
      have bc1 : (-1000000013 : Int) ≤ c := by omega
      have bc2 : c ≤ (1000000014 : Int) := by omega
      have bd1 : (-1000000015 : Int) ≤ d := by omega
      have bd2 : d ≤ (1000000016 : Int) := by omega
      have hl2 : l ≤ (1000000000000000017 : Int) := by omega
      clear I b1 b2 ba bb bc bd k3 k4 hHI hLI
      by_cases t1 : 0 < U1
      · by_cases t2 : 0 < U2
        · obtain ⟨q1, hq1⟩ : ∃ q1 : Int, V1 / U1 = q1 := ⟨_, rfl⟩
          obtain ⟨q2, hq2⟩ : ∃ q2 : Int, V2 / U2 = q2 := ⟨_, rfl⟩
          have hq1t : V1.tdiv U1 = q1 := by rw [Int.tdiv_eq_ediv_of_nonneg w5]; exact hq1
          have hq2t : V2.tdiv U2 = q2 := by rw [Int.tdiv_eq_ediv_of_nonneg w7]; exact hq2
          have q10 : (0 : Int) ≤ q1 := by rw [← hq1]; exact Int.ediv_nonneg w5 (by omega)
          have q20 : (0 : Int) ≤ q2 := by rw [← hq2]; exact Int.ediv_nonneg w7 (by omega)
          have q11 : q1 ≤ (1100000000000000018 : Int) := by
            have := Int.ediv_le_self (a := V1) U1 w5; rw [hq1] at this; omega
          have q21 : q2 ≤ (1100000000000000019 : Int) := by
            have := Int.ediv_le_self (a := V2) U2 w7; rw [hq2] at this; omega
          have n1 : ¬ U1 = 0 := by omega
          have n2 : ¬ U2 = 0 := by omega
          by_cases hq : q1 = q2
          · subst hq
            have F := HF.out h l a b c d q1 HI.out (by omega) (by omega) (by rw [hV1, hU1]; exact hq1.symm) (by rw [hV2, hU2]; exact hq2.symm)
            obtain ⟨F1, F2, F3, ⟨F4a, F4b⟩, ⟨F5a, F5b⟩, F6, F7⟩ := F
            obtain ⟨M1, hM1⟩ : ∃ M1 : Int, q1 * c = M1 := ⟨_, rfl⟩
            obtain ⟨M2, hM2⟩ : ∃ M2 : Int, q1 * d = M2 := ⟨_, rfl⟩
            obtain ⟨M3, hM3⟩ : ∃ M3 : Int, q1 * l = M3 := ⟨_, rfl⟩
            rw [hM1, hM2, hM3] at F1
            rw [hM3] at F3 F6 F7
            rw [hM1] at F4a F4b
            rw [hM2] at F5a F5b
            have e1 : (-1000000020 : Int) ≤ M1 := by omega
            have e2 : M1 ≤ (1000000021 : Int) := by omega
            have e3 : (-1000000022 : Int) ≤ M2 := by omega
            have e4 : M2 ≤ (1000000023 : Int) := by omega
            have e6 : M3 ≤ (1100000000000000024 : Int) := by omega
            have HN := Lib.hid F1
            have HM := Lib.hid F3
            have P8 := H8.out.put c d (a - M1) (b - M2)
            have P4 := (((H4.out.far hne2 0 (.int .i64 c)).far hne2 1 (.int .i64 d)).far hne2 2 (.int .i64 (a - M1))).far hne2 3 (.int .i64 (b - M2))
            have HP := Lib.hid (And.intro P8 P4)
            have hEP := hE.put4 (g := W.heap.size) (by have := HZ.out; omega) (.int .i64 c) (.int .i64 d) (.int .i64 (a - M1)) (.int .i64 (b - M2))
            have HE := Lib.hid hEP
            clear F1 F3 F4a F4b F5a F5b F7 P8 P4 hEP F2 hq1 hq2
            go_wp2
            go_roundw
            case rel => exact ⟨c, d, a - M1, b - M2, l, h - M3, rfl, rfl, HN.out, HP.out.1, HP.out.2, HE.out⟩
            case measure => have := HM.out; have := HN.out.l0; simp [intOf]; omega
          · have hqb : (q1 != q2) = true := by simpa using hq
            clear hq
            go_wp2
            exact bodyPost_ret (v := .agg #[.int .i64 a, .int .i64 b, .int .i64 c, .int .i64 d]) (by simp [results, Try.results72, go_sem, r0, r1, r2, r3]) rfl
              ⟨a, b, c, d, h, l, rfl, HI.out, hE.put4 (Nat.le_refl _) _ _ _ _⟩
        · have t2' : U2 ≤ 0 := by omega
          clear t2
          go_wp2
          exact bodyPost_ret (v := .agg #[.int .i64 a, .int .i64 b, .int .i64 c, .int .i64 d]) (by simp [results, Try.results72, go_sem, r0, r1, r2, r3]) rfl
            ⟨a, b, c, d, h, l, rfl, HI.out, hE.put4 (Nat.le_refl _) _ _ _ _⟩
      · have t1' : U1 ≤ 0 := by omega
        clear t1
        go_wp2
        exact bodyPost_ret (v := .agg #[.int .i64 a, .int .i64 b, .int .i64 c, .int .i64 d]) (by simp [results, Try.results72, go_sem, r0, r1, r2, r3]) rfl
          ⟨a, b, c, d, h, l, rfl, HI.out, hE.put4 (Nat.le_refl _) _ _ _ _⟩

end Go.Proofs.Ytfjaboolfjgleaa
