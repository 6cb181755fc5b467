/-
  The long division.
-/
import Derived.Test.YtfjaboolfjgleaaLong
namespace Go.Proofs.Ytfjaboolfjgleaa
open Go.RowKit

/-- A list is copied to the beginning of a block that has just been made. -/
theorem copy_fresh (hsz : (Try.prog.info? 46).map (·.size) = some 1) (b off cx : Nat) (xs : List Nat) (n : Nat) (h0 : 0 < xs.length) (w : World) (hx : Cells w (some ⟨b, off, none⟩) xs) :
    ∃ W2, (Builtin.copy_ #[22, 22] 3 #[.slice (some ⟨w.heap.size, 0, none⟩) (xs.length + n) (xs.length + n), .slice (some ⟨b, off, none⟩) xs.length cx]).run Try.prog (w.alloc (.cells (u32s (List.replicate (xs.length + n) 0)) 46)) = .ok (goInt xs.length) W2 ∧
      Ext w W2 ∧ Hid (W2.heap.size = w.heap.size + 1 ∧ Blk W2 w.heap.size (xs ++ List.replicate n 0)) := by
  obtain ⟨b', off', he, hc⟩ := hx.at_ h0
  injection he with he
  injection he with h1 h2
  subst h1 h2
  have hg0 : (w.alloc (.cells (u32s (List.replicate (xs.length + n) 0)) 46)).heap[w.heap.size]? = some (.cells (u32s (List.replicate (xs.length + n) 0)) 46 (0, 0)) := by
    show (w.heap.push _)[w.heap.size]? = _
    rw [Array.getElem?_push_size]
  have eA : Ext w (w.alloc (.cells (u32s (List.replicate (xs.length + n) 0)) 46)) := (Ext.refl w).alloc _
  have hrun := run_copy_row (P := Try.prog) (w.alloc (.cells (u32s (List.replicate (xs.length + n) 0)) 46)) 22 22 3 46 w.heap.size 0 (xs.length + n) (xs.length + n) ⟨b, off, none⟩ xs.length cx
    (u32s (List.replicate (xs.length + n) 0)) 46 (u32s xs).toList Try.underlying22 hsz hg0 (by simp [u32s]) ?_ (by simp [u32s]) (by simp [u32s, Value.oneCell'])
  · have hl : (u32s xs).toList.length = xs.length := by simp [u32s]
    rw [hl] at hrun
    refine ⟨_, hrun, below_setRow eA (Nat.le_refl _) _, ?_⟩
    refine ⟨by simp [World.setRow], #[], ?_⟩
    rw [setRow_heap _ _ _ _ _ _ hg0, Array.append_empty]
    congr 2
    apply Array.toList_inj.1
    simp [u32s]
  · intro j v hj
    have hjl : j < xs.length := by
      rcases Nat.lt_or_ge j xs.length with h | h
      · exact h
      · rw [List.getElem?_eq_none (by simp [u32s]; omega)] at hj; cases hj
    have h3 := eA.cell (hc j hjl)
    have h4 := u32s_at xs j hjl
    rw [← Array.getElem?_toList, hj] at h4
    injection h4 with h4
    rw [h4]
    have e : ((⟨b, off, none⟩ : Addr).add j) = ⟨b, off + j, none⟩ := by unfold Addr.add; split <;> simp_all
    rw [e]
    exact h3

theorem Cells.dropAt {w : World} {g : Nat} {zs : List Nat} (h : Cells w (some ⟨g, 0, none⟩) zs) (k : Nat) : Cells w (some ⟨g, k, none⟩) (zs.drop k) := by
  have := h.drop k
  rwa [Nat.zero_add] at this
theorem long_round {w : World} {g : Nat} {xs ys : List Nat} {k m : Nat} {zs qs : List Nat} {wr : World} (h : LongRel w g xs ys (k + 1) zs qs wr) (hm : ys.length = m + 2) (htop : ys.getD (m + 1) 0 ≠ 0) (dy : Dig ys) (hk : k + 1 + ys.length ≤ xs.length + 1) :
    ((zs.drop k).take (ys.length + 1)).length = m + 3 ∧
    (val (((zs.drop k).take (ys.length + 1)).drop m) < 1000000001 * val (ys.drop m) ∧ val ((zs.drop k).take (ys.length + 1)) / val ys ≤ val (((zs.drop k).take (ys.length + 1)).drop m) / val (ys.drop m) ∧
      val (((zs.drop k).take (ys.length + 1)).drop m) / val (ys.drop m) ≤ val ((zs.drop k).take (ys.length + 1)) / val ys + 1 ∧ val (((zs.drop k).take (ys.length + 1)).drop m) / val (ys.drop m) ≤ 1000000000) := by
  have hl : ((zs.drop k).take (ys.length + 1)).length = m + 3 := by
    have := h.1
    rw [List.length_take, List.length_drop]; omega
  exact ⟨hl, long_est hl hm ((h.2.1.drop k).take _) dy (h.part hk).1 htop⟩

section
variable {w : World} {g : Nat} {xs ys : List Nat} {k q c : Nat} {zs qs ws : List Nat} {wr w1 w2 : World}
theorem low_lt {ws : List Nat} {n : Nat} (d : Dig ws) (h : k + n ≤ ws.length) : val ((ws.drop k).take n) < 1000000000 ^ n := by
  have := val_lt ((d.drop k).take n)
  rwa [List.length_take, List.length_drop, Nat.min_eq_left (by omega)] at this
theorem long_exact (h : LongRel w g xs ys (k + 1) zs qs wr) (hk : k + 1 + ys.length ≤ xs.length + 1) (dy : Dig ys) (hM : MS w w1 g zs k ys q ys.length c ws w2) (hq : q = val ((zs.drop k).take (ys.length + 1)) / val ys) :
    decide (zs.getD (k + ys.length) 0 < c) = false ∧ val ((ws.drop k).take ys.length) = val ((zs.drop k).take (ys.length + 1)) % val ys := by
  obtain ⟨hp1, hp2⟩ := h.part hk
  have hl := h.1
  obtain ⟨m1, m2, m3, m4, m5, m6, m7, m8⟩ := hM
  rw [List.take_of_length_le (Nat.le_refl ys.length)] at m7
  have e := Nat.div_add_mod (val ((zs.drop k).take (ys.length + 1))) (val ys)
  have hr := Nat.mod_lt (val ((zs.drop k).take (ys.length + 1))) (show 0 < val ys by omega)
  rw [← hq, hp2, Nat.mul_comm] at e
  rw [hp2] at hr
  have := round_eq (Nat.le_of_lt (val_lt dy)) hr e.symm (low_lt m2 (by omega)) m7
  rw [hp2]
  exact ⟨decide_eq_false (by omega), this.2⟩
theorem long_over (h : LongRel w g xs ys (k + 1) zs qs wr) (hk : k + 1 + ys.length ≤ xs.length + 1) (dy : Dig ys) (hM : MS w w1 g zs k ys q ys.length c ws w2) (hq : q = val ((zs.drop k).take (ys.length + 1)) / val ys + 1) :
    decide (zs.getD (k + ys.length) 0 < c) = true ∧ ∀ c2 us w3, AB w w2 g ws k ys ys.length c2 us w3 → val ((us.drop k).take ys.length) = val ((zs.drop k).take (ys.length + 1)) % val ys := by
  obtain ⟨hp1, hp2⟩ := h.part hk
  have hl := h.1
  obtain ⟨m1, m2, m3, m4, m5, m6, m7, m8⟩ := hM
  rw [List.take_of_length_le (Nat.le_refl ys.length)] at m7
  have e := Nat.div_add_mod (val ((zs.drop k).take (ys.length + 1))) (val ys)
  have hr := Nat.mod_lt (val ((zs.drop k).take (ys.length + 1))) (show 0 < val ys by omega)
  rw [hp2, Nat.mul_comm] at e
  rw [hp2] at hr hq ⊢
  generalize (val ((zs.drop k).take ys.length) + 1000000000 ^ ys.length * zs.getD (k + ys.length) 0) / val ys = Q at *
  subst hq
  refine ⟨decide_eq_true (over_lacks (Nat.pow_pos (by omega)) (Nat.le_of_lt (val_lt dy)) hr e.symm (low_lt m2 (by omega)) m7), ?_⟩
  intro c2 us w3 hA
  obtain ⟨a1, a2, a3, a4, a5, a6, a7, a8⟩ := hA
  rw [List.take_of_length_le (Nat.le_refl ys.length)] at a7
  exact (round_over (Nat.le_of_lt (val_lt dy)) hr e.symm (low_lt m2 (by omega)) m7 (low_lt a2 (by omega)) a7).2
end

set_option maxRecDepth 100000 in
set_option maxHeartbeats 1600000 in
theorem divideLong_calls (w : World) (b off b' off' : Nat) (xs ys : List Nat) (cx cy m : Nat) (hm : ys.length = m + 2) (hxy : ys.length ≤ xs.length) (lx : xs.length ≤ 1048576) (kx : xs.length ≤ cx) (bx : cx ≤ 9223372036854775807) (ky : ys.length ≤ cy) (by_ : cy ≤ 9223372036854775807)
    (hx : Cells w (some ⟨b, off, none⟩) xs) (dx : Dig xs) (hy : Cells w (some ⟨b', off', none⟩) ys) (dy : Dig ys) (htop : ys.getD (m + 1) 0 ≠ 0) :
    Calls Try.prog 71 #[.slice (some ⟨b, off, none⟩) xs.length cx, .slice (some ⟨b', off', none⟩) ys.length cy] w (Ret2 (IsLimbs (val xs / val ys)) (IsLimbs (val xs % val ys)) w) := by
  have hmk := run_mk (xs.length + 1) (by omega) (↑xs.length + 1) (by omega)
  obtain ⟨L, hL⟩ : ∃ L, L + ys.length = xs.length + 1 := ⟨xs.length + 1 - ys.length, by omega⟩
  have hmk2 := run_mk L (by omega) (↑xs.length - ↑ys.length + 1) (by omega)
  have HL := Lib.hid hL
  have hLw : (L : Int) ≤ 1048577 := by omega
  have hL1 : (1 : Int) ≤ (L : Int) := by omega
  have hxyI : (ys.length : Int) ≤ (xs.length : Int) := by omega
  have HM := Lib.hid hm
  have HX := Lib.hid hx
  have hx0 : 0 < xs.length := by omega
  obtain ⟨i0, hi, hz0, hz1, hz2⟩ := info_parts info_u32
  have HSZ := Lib.hid (show (Try.prog.info? 46).map (·.size) = some 1 by rw [hi]; exact congrArg some hz1)
  clear hm hL i0 hi hz0 hz1 hz2
  obtain ⟨W2, hcp, e2, HB⟩ := copy_fresh HSZ.out b off cx xs 1 hx0 w hx
  go_enter Try.func71, Try.ntmps71
  go_upto_region 3 with fail
  clear hmk
  go_upto_region 4 with fail
  clear hcp
  have hB := HB.out
  have hgs : W2.heap.size = w.heap.size + 1 := hB.1
  have HBX := Lib.hid hB.2
  have HGS := Lib.hid hgs
  clear hB HB
  go_upto_region 5 with fail
  clear hmk2 hgs
  have h0 : LongRel w w.heap.size xs ys L (xs ++ [0]) (List.replicate L 0) (W2.alloc (.cells (u32s (List.replicate L 0)) 46)) := by
    have hbq := Blk.new W2 (List.replicate L 0)
    rw [HGS.out] at hbq
    refine ⟨by simp, dx.append (Dig.cons (by omega) Dig.nil), HBX.out.alloc _, by rw [List.length_replicate]; exact HL.out, Dig.replicate _, hbq, e2.alloc _, ?_, ?_⟩
    · have hl := HL.out
      rw [List.take_of_length_le (by simp; omega), List.drop_of_length_le (by simp), val_append]
      simp [val]
    · have hl := HL.out
      have hd : (xs ++ [0]).drop L = xs.drop L ++ [0] := by rw [List.drop_append_of_le_length (by have := HM.out; omega)]
      rw [hd, List.take_of_length_le (by have := HM.out; simp; omega), val_append]
      have h1 := val_lt (dx.drop L)
      rw [List.length_drop, show xs.length - L = m + 1 by have := HM.out; omega] at h1
      have h2 := val_split ys (m + 1) (by have := HM.out; omega)
      rw [val_drop ys (m + 1) (by have := HM.out; omega)] at h2
      have h3 : 1000000000 ^ (m + 1) * 1 ≤ 1000000000 ^ (m + 1) * (ys.getD (m + 1) 0 + 1000000000 * val (ys.drop (m + 1 + 1))) := Nat.mul_le_mul_left _ (by omega)
      simp only [val]
      omega
  have H0 := Lib.hid h0
  clear h0
  go_wp2
  go_loopw [9, 10, 11] (fun j _ _ wr => ∃ (k : Nat) (zs qs : List Nat), k ≤ L ∧ j = .int .i64 ((k : Int) - 1) ∧ LongRel w w.heap.size xs ys k zs qs wr) (fun j _ _ _ => (intOf j + 1).toNat)
  case atStart => exact ⟨L, _, _, Nat.le_refl _, by go_num, H0.out⟩
  case round =>
    obtain ⟨k, zs, qs, hk, rfl, hR⟩ := hrel
    clear H0 HBX HGS e2
    rcases k with _ | k
    · have HD := Lib.hid hR.done
      have H1 := Lib.hid hR.1
      have H4 := Lib.hid hR.2.2.2.1
      have hE := hR.2.2.2.2.2.2.1
      have hq : qs.length = L := by have := HL.out; have := H4.out; omega
      have hz : (zs.take ys.length).length = ys.length := by rw [List.length_take]; have := H1.out; omega
      have t1 := fun n => quiet_eq (P := Try.prog) (n := n) (trim_calls (wr.drewN n) (some ⟨w.heap.size + 1, 0, none⟩) qs L (by omega) (by omega) (hR.2.2.2.2.2.1.ext ((Ext.refl wr).drewN n)).cells hR.2.2.2.2.1)
      have t2 := fun n => quiet_eq (P := Try.prog) (n := n) (trim_calls (wr.drewN n) (some ⟨w.heap.size, 0, none⟩) (zs.take ys.length) (xs.length + 1) (by omega) (by omega) ((hR.2.2.1.ext ((Ext.refl wr).drewN n)).cells.take ys.length) (hR.2.1.take _))
      have hf1 := hR.2.2.2.2.2.1.cells.trim hR.2.2.2.2.1
      have hf2 := (hR.2.2.1.cells.take ys.length).trim (hR.2.1.take _)
      have hf3 : (limbs (val qs)).length ≤ L := by rw [← trimN_length hR.2.2.2.2.1]; have := trimN_le qs qs.length; omega
      have hf4 : (limbs (val (zs.take ys.length))).length ≤ xs.length + 1 := by rw [← trimN_length (hR.2.1.take _)]; have := trimN_le (zs.take ys.length) (zs.take ys.length).length; omega
      rw [hq] at t1
      rw [hz] at t2
      rw [← HD.out.1] at t1 hf1 hf3
      rw [← HD.out.2] at t2 hf2 hf4
      have T1 := Lib.hid t1
      have T2 := Lib.hid t2
      have F := Lib.hid (And.intro hf1 (And.intro hf2 (And.intro hf3 hf4)))
      clear hR hq hz t1 t2 hf1 hf2 hf3 hf4
      go_wp2_with fail
      go_quiet ((first | (go_at_call 67; with_reducible exact T1.out _) | (go_at_call 67; with_reducible exact T2.out _)))
      go_wp2
      go_ret2
      exact ⟨_, _, rfl, ⟨_, _, rfl, F.out.2.2.1, by omega, F.out.1.ext ((Ext.refl wr).drewN _)⟩, ⟨_, _, rfl, F.out.2.2.2, by omega, F.out.2.1.ext ((Ext.refl wr).drewN _)⟩, hE.drewN _⟩
    · have HR := Lib.hid hR
      have ek : ((k + 1 : Nat) : Int) - 1 = (k : Int) := by omega
      rw [ek]
      have hk1 : (k : Int) + (ys.length : Int) ≤ (xs.length : Int) := by have := HL.out; omega
      have hk2 : k + ys.length + 1 - k = ys.length + 1 := by omega
      have hkL : k < L := by omega
      have HS := Lib.hid (long_round hR HM.out htop dy (by have := HL.out; omega))
      clear hR ek
      go_upto_region 9 with fail
      have HK := Lib.hid hk2
      clear hk2
      obtain ⟨hps, hest⟩ := HS.out
      have hE := estimate_calls wr w.heap.size k b' off' _ ys (xs.length + 1 - k) cy m HM.out hps (by rw [hps]; have := HL.out; have := HM.out; omega) (by omega) ky by_ ((HR.out.2.2.1.cells.dropAt k).take (ys.length + 1)) ((HR.out.2.1.drop k).take _) (hy.ext HR.out.2.2.2.2.2.2.1) dy hest.1
      rw [← HM.out, show m + 3 = ys.length + 1 by have := HM.out; omega] at hE
      obtain ⟨q, hq⟩ : ∃ q, q = val (((zs.drop k).take (ys.length + 1)).drop m) / val (ys.drop m) := ⟨_, rfl⟩
      rw [← hq] at hE hest
      rw [← HK.out] at hE
      have HE := Lib.hid hE
      have HEst := Lib.hid hest.2
      have hqI : (q : Int) ≤ 1000000000 := by have := hest.2.2.2; omega
      clear hE hest hps HS hq
      go_wp2_with fail
      refine HE.out.mono ?_
      rintro e w1 ⟨rfl, e1⟩
      clear HE
      have hSub := subtractMultiple_calls w w1 w.heap.size zs k (some ⟨b', off', none⟩) ys (xs.length + 1 - k) cy q (Nat.le_refl _) (HR.out.2.2.1.ext e1) HR.out.2.1 (HR.out.2.2.2.2.2.2.1.trans e1) hy dy (by rw [HR.out.1]; have := HL.out; omega) (by rw [HR.out.1]; omega) HEst.out.2.2
      rw [← HK.out] at hSub
      have HSub := Lib.hid hSub
      clear hSub
      go_wp2_with fail
      refine HSub.out.mono ?_
      rintro e w2 ⟨c, ws, rfl, hMS⟩
      clear HSub
      have HMS := Lib.hid hMS
      clear hMS
      rcases (show q = val ((zs.drop k).take (ys.length + 1)) / val ys ∨ q = val ((zs.drop k).take (ys.length + 1)) / val ys + 1 by have := HEst.out; omega) with hex | hex
      · obtain ⟨d1, d2⟩ := long_exact HR.out (by have := HL.out; omega) dy HMS.out hex
        have hst := HR.out.step (Nat.le_refl _) (by have := HL.out; omega) HMS.out.1 HMS.out.2.1 HMS.out.2.2.1 HMS.out.2.2.2.1 ((Only.ext e1).trans HMS.out.2.2.2.2.1) (fun i hi => HMS.out.2.2.2.2.2.1 i (.inl hi)) d2 q hex (V := (q : Int)) rfl
        have HST := Lib.hid hst
        have hbq := HMS.out.2.2.2.2.1 (w.heap.size + 1) qs (by omega) (HR.out.2.2.2.2.2.1.ext e1)
        have hzc := hbq.cell k (by have := HR.out.2.2.2.1; have := HL.out; omega)
        have hzf := hbq.frozen k
        rw [d1]
        clear d1 d2 hex hst hbq
        go_wp2
        go_roundw
        case rel => exact ⟨k, _, _, by omega, by go_num, HST.out⟩
        case measure => simp [intOf]
      · obtain ⟨d1, d2⟩ := long_over HR.out (by have := HL.out; omega) dy HMS.out hex
        have D2 := Lib.hid d2
        have HEX := Lib.hid hex
        rw [d1]
        clear d1 d2 hex
        have hAdd := addBack_calls w w2 w.heap.size ws k (some ⟨b', off', none⟩) ys (xs.length + 1 - k) cy (Nat.le_refl _) HMS.out.2.2.1 HMS.out.2.1 HMS.out.2.2.2.1 hy dy (by have := HMS.out.1; have := HR.out.1; have := HL.out; omega) (by have := HMS.out.1; have := HR.out.1; omega)
        rw [← HK.out] at hAdd
        have HAdd := Lib.hid hAdd
        obtain ⟨q1, hq1⟩ : ∃ q1, q1 = q - 1 := ⟨_, rfl⟩
        have hqn : 1 ≤ q := by rw [HEX.out]; exact Nat.le_add_left 1 _
        have hqq : (1 : Int) ≤ (q : Int) := by omega
        have hq1I : (q : Int) - 1 = (q1 : Int) := by omega
        have HQ1 := Lib.hid (show q1 = val ((zs.drop k).take (ys.length + 1)) / val ys by have := HEX.out; omega)
        have hq1w : (q1 : Int) ≤ 1000000000 := by omega
        clear hAdd hq1
        go_wp2_with fail
        refine HAdd.out.mono ?_
        rintro e w3 ⟨c2, us, rfl, hAB⟩
        have HAB := Lib.hid hAB
        have hst := HR.out.step (Nat.le_refl _) (by have := HL.out; omega) (hAB.1.trans HMS.out.1) hAB.2.1 hAB.2.2.1 hAB.2.2.2.1 (((Only.ext e1).trans HMS.out.2.2.2.2.1).trans hAB.2.2.2.2.1) (fun i hi => (hAB.2.2.2.2.2.1 i (.inl hi)).trans (HMS.out.2.2.2.2.2.1 i (.inl hi))) (D2.out _ _ _ hAB) q1 HQ1.out (V := (q1 : Int)) rfl
        have HST := Lib.hid hst
        have hbq := hAB.2.2.2.2.1 (w.heap.size + 1) qs (by omega) (HMS.out.2.2.2.2.1 (w.heap.size + 1) qs (by omega) (HR.out.2.2.2.2.2.1.ext e1))
        have hzc := hbq.cell k (by have := HR.out.2.2.2.1; have := HL.out; omega)
        have hzf := hbq.frozen k
        clear hAB hst hbq HAdd
        go_wp2
        go_roundw
        case rel => exact ⟨k, _, _, by omega, by go_num, HST.out⟩
        case measure => simp [intOf]

end Go.Proofs.Ytfjaboolfjgleaa
