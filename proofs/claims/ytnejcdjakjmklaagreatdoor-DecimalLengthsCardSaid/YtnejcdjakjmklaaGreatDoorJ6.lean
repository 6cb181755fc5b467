/-
  Texts of this seat, joined.
-/
import Derived.Test.YtnejcdjakjmklaaGreatDoorJ5
import Derived.StillTailTactics
import Derived.IntWalk
section
set_option maxRecDepth 100000
namespace Go.Proofs.YtnejcdjakjmklaaGreatDoor
open Go.RowKit Go.Shelf
theorem limb_at {zs : List Nat} (h : Dig zs) (k : Nat) (hk : k < zs.length) : zs.getD k 0 = val zs / 1000000000 ^ k % 1000000000 := by
  have e1 := val_split zs k (by omega)
  have e2 := val_drop zs k hk
  have e3 : val (zs.take k) < 1000000000 ^ k := by
    have := val_lt (h.take k)
    rwa [List.length_take, Nat.min_eq_left (by omega)] at this
  have e4 := h k
  have hp : 0 < 1000000000 ^ k := Nat.pow_pos (by omega)
  rw [e1, Nat.add_mul_div_left _ _ hp, Nat.div_eq_of_lt e3, Nat.zero_add, e2]
  omega
def ParR (w : World) (g m : Nat) (D : List UInt8) (i : Nat) (wr : World) : Prop :=
  ∃ zs : List Nat, zs.length = m ∧ Dig zs ∧ Blk wr g zs ∧ Ext w wr ∧ val zs = dv (D.take i) * 10 ^ (D.length - i)
theorem ParR.at_ {w : World} {g m : Nat} {D : List UInt8} {i : Nat} {wr : World} (h : ParR w g m D i wr) (hg : w.heap.size ≤ g) (hm : m = D.length / 9 + 1) (hi : i < D.length) (c : UInt8) (ht : D.take (i + 1) = D.take i ++ [c]) (hc : c.toNat - 48 ≤ 9) (k p : Nat) (hk : k = (D.length - 1 - i) / 9) (hp : p = (D.length - 1 - i) % 9) :
    ∃ z : Nat, z + (c.toNat - 48) * 10 ^ p < 1000000000 ∧ wr.cell? ⟨g, k, none⟩ = some (.int .u32 (z : Int)) ∧ wr.frozen? ⟨g, k, none⟩ = false ∧ k < m ∧
      Hid (∀ (nq : Nat) (V : Int), V = ((z + (c.toNat - 48) * 10 ^ p : Nat) : Int) → ParR w g m D (i + 1) ((wr.drewN nq).setCell ⟨g, k, none⟩ (.int .u32 V))) := by
  obtain ⟨zs, h1, h2, h3, h4, h5⟩ := h
  have hkm : k < zs.length := by rw [h1]; omega
  have hz := limb_at h2 k hkm
  generalize hd : c.toNat - 48 = d at *
  have hat : D.length - i = 9 * k + (p + 1) := by omega
  have hB : (1000000000 : Nat) ^ k = 10 ^ (9 * k) := by rw [Nat.pow_mul]
  have hpk : 0 < 10 ^ (9 * k) := Nat.pow_pos (by omega)
  have hX : (10 : Nat) ^ (p + 1) = 10 * 10 ^ p := by rw [Nat.pow_succ, Nat.mul_comm]
  have hXY : (1000000000 : Nat) = 10 ^ (p + 1) * 10 ^ (8 - p) := by rw [← Nat.pow_add, show p + 1 + (8 - p) = 9 by omega]
  have hzz : zs.getD k 0 = 10 ^ (p + 1) * (dv (D.take i) % 10 ^ (8 - p)) := by
    rw [hz, h5, hat, Nat.pow_add, hB, Nat.mul_left_comm, Nat.mul_div_cancel_left _ hpk, Nat.mul_comm (dv _)]
    conv => lhs; rw [hXY]
    rw [Nat.mul_mod_mul_left]
  have hbd : zs.getD k 0 + d * 10 ^ p < 1000000000 := by
    have hY : 0 < 10 ^ (8 - p) := Nat.pow_pos (by omega)
    have hq := Nat.mod_lt (dv (D.take i)) hY
    have e1 : 10 ^ (p + 1) * (dv (D.take i) % 10 ^ (8 - p) + 1) ≤ 10 ^ (p + 1) * 10 ^ (8 - p) := Nat.mul_le_mul_left _ hq
    rw [← hXY, Nat.mul_add, Nat.mul_one, ← hzz] at e1
    have e2 : d * 10 ^ p ≤ 9 * 10 ^ p := Nat.mul_le_mul_right _ hc
    have e3 : 0 < 10 ^ p := Nat.pow_pos (by omega)
    omega
  refine ⟨zs.getD k 0, hbd, h3.cell k hkm, h3.frozen k, by omega, fun nq V hV => ?_⟩
  have h3' : Blk (wr.drewN nq) g zs := h3
  refine ⟨zs.set k (zs.getD k 0 + d * 10 ^ p), by simpa using h1, h2.set k hbd, h3'.set' _ _ hkm hV, (h4.drewN nq).setCell (p := ⟨g, k, none⟩) hg _, ?_⟩
  have e := val_set zs k (zs.getD k 0 + d * 10 ^ p) hkm
  rw [ht, dv_snoc, hd]
  have e1 : 10 ^ (D.length - (i + 1)) = 10 ^ (9 * k) * 10 ^ p := by rw [← Nat.pow_add]; congr 1; omega
  have e2 : val zs = dv (D.take i) * 10 * (10 ^ (9 * k) * 10 ^ p) := by
    rw [h5, hat, Nat.pow_add, hX, Nat.mul_assoc, Nat.mul_left_comm (10 ^ (9 * k))]
  rw [e1, Nat.add_mul, ← e2]
  rw [Nat.mul_add, hB] at e
  have e3 : 10 ^ (9 * k) * (d * 10 ^ p) = d * (10 ^ (9 * k) * 10 ^ p) := by rw [Nat.mul_left_comm]
  omega
theorem negL_cons (c : UInt8) (r : List UInt8) : negL (c :: r) = (c == 45) ∧ digL (c :: r) = if c == 45 then r else c :: r := by
  unfold negL digL Lib.trimPrefix Lib.hasPrefix
  by_cases h : c = 45
  · subst h; simp
  · have : (c == 45) = false := by rw [beq_eq_false_iff_ne]; exact h
    simp [this, List.isPrefixOf]
    exact fun e => h e.symm
theorem parse_early (l : List UInt8) (h : 65536 < l.length ∨ digL l = [] ∨ (digL l).headD 0 = 48 ∧ l ≠ [48]) : parseOK l = false := by
  unfold parseOK
  rcases h with h | h | ⟨h1, h2⟩
  · rw [decide_eq_false (by omega), Bool.false_and]
  · have : numB (digL l) = false := by rw [h]; rfl
    rw [this, Bool.false_and, Bool.and_false]
  · cases hd : digL l with
    | nil => rw [hd] at h1; cases h1
    | cons c r =>
      rw [hd] at h1
      have hc : c = 48 := h1
      subst hc
      cases r with
      | cons a t =>
        have : numB (48 :: a :: t) = false := by simp [numB]
        rw [this, Bool.false_and, Bool.and_false]
      | nil =>
        have hn : negL l = true := by
          cases l with
          | nil => cases hd
          | cons x t =>
            obtain ⟨e1, e2⟩ := negL_cons x t
            rw [e1]
            cases hx : (x == 45) with
            | true => rfl
            | false =>
              rw [hx] at e2
              exact absurd (e2.symm.trans hd) h2
        rw [hn]
        simp
theorem parse_late (l : List UInt8) (h1 : l.length ≤ 65536) (h2 : digL l ≠ []) (h3 : (digL l).headD 0 = 48 → l = [48]) : parseOK l = (digL l).all digB := by
  unfold parseOK
  rw [decide_eq_true h1, Bool.true_and]
  by_cases h : (digL l).headD 0 = 48
  · rw [h3 h]
    rfl
  · cases hd : digL l with
    | nil => exact absurd hd h2
    | cons c r =>
      rw [hd] at h
      have hc : (c == 48) = false := by rw [beq_eq_false_iff_ne]; exact h
      have e1 : ((c :: r) == [48]) = false := by
        rw [beq_eq_false_iff_ne]
        intro e
        injection e with e _
        exact h e
      rw [e1, Bool.and_false]
      unfold numB
      simp only [List.headD_cons, hc, Bool.false_and, Bool.not_false, Bool.true_and, Bool.and_true, List.isEmpty_cons]
set_option maxRecDepth 100000 in
set_option maxHeartbeats 6400000 in
theorem rparse_calls (w : World) (s : ByteArray) (hs : s.size ≤ 9223372036854775807) : Calls Tryz.prog 111 #[.string s] w (RetParse s.data.toList w) := by
  obtain ⟨W, hW, eW, hz, r0, r1, f0, f1⟩ := res_new w 24
  rcases Nat.eq_zero_or_pos s.size with h0 | h0
  · have hl : s.data.toList = [] := List.eq_nil_of_length_eq_zero (by rw [bytes_len]; exact h0)
    have HB : Hid (parseOK s.data.toList = false) := by unfold Hid; rw [hl]; rfl
    have e1 : s.toList = [] := by rw [ByteArray.toList_eq, hl]
    have e2 : s.toList.isEmpty = true := by rw [e1]; rfl
    have hfin : Ext w ((W.setCell ⟨w.heap.size, 0, none⟩ (.bool false)).setCell ⟨w.heap.size, 1, none⟩ (.slice none 0 0)) := (eW.setCell (p := ⟨w.heap.size, 0, none⟩) (Nat.le_refl _) _).setCell (p := ⟨w.heap.size, 1, none⟩) (Nat.le_refl _) _
    have HF := Lib.hid hfin
    clear hl hfin hs
    go_enter Tryz.func111, Tryz.ntmps111
    go_wp2
    exact bodyPost_ret (v := .tuple #[.agg #[.bool false, .slice none 0 0], .int .i64 2]) (by simp [results, Tryz.results111, go_sem, r0, r1]) rfl ⟨_, by rw [HB.out]; rfl, by rw [HB.out]; exact isInt_zero _, HF.out⟩
  · obtain ⟨c, r, hl⟩ : ∃ c r, s.data.toList = c :: r := by
      cases hh : s.data.toList with
      | nil => have := bytes_len s; rw [hh] at this; simp at this; omega
      | cons c r => exact ⟨c, r, rfl⟩
    have hc0 : s[0] = c := by
      have : s.data.toList[0]'(by rw [hl]; simp) = c := by simp [hl]
      exact this
    have g1 : (0 : Int) < (s.size : Int) := by omega
    have hfin : Ext w ((W.setCell ⟨w.heap.size, 0, none⟩ (.bool false)).setCell ⟨w.heap.size, 1, none⟩ (.slice none 0 0)) := (eW.setCell (p := ⟨w.heap.size, 0, none⟩) (Nat.le_refl _) _).setCell (p := ⟨w.heap.size, 1, none⟩) (Nat.le_refl _) _
    have HF := Lib.hid hfin
    clear hfin hs
    by_cases hc : c = 45
    · have g0 : ((s[0].toNat : Int) == 45) = true := by rw [hc0, hc]; rfl
      obtain ⟨D, hex⟩ : ∃ D, s.extract 1 s.size = D := ⟨_, rfl⟩
      have HDL : D.data.toList = digL s.data.toList := by
        rw [← hex, (ba_tail hl).1, hl, (negL_cons c r).2, hc]
        rfl
      have HNN : negL s.data.toList = true := by rw [hl, (negL_cons c r).1, hc]; rfl
      have hDs : D.size ≤ s.size := by have := (ba_tail hl).2; rw [hex] at this; omega
      clear hc hc0 hl
      have HDl : Hid (D.data.toList = digL s.data.toList) := HDL
      have HN : Hid (negL s.data.toList = true) := HNN
      clear HDL HNN
      rcases Nat.eq_zero_or_pos D.size with d0 | d0
      · have hl : D.data.toList = [] := List.eq_nil_of_length_eq_zero (by rw [bytes_len]; exact d0)
        have HB : Hid (parseOK s.data.toList = false) := parse_early _ (.inr (.inl (by rw [← HDl.out, hl])))
        have e1 : D.toList = [] := by rw [ByteArray.toList_eq, hl]
        have e2 : D.toList.isEmpty = true := by rw [e1]; rfl
        clear hl
        go_enter Tryz.func111, Tryz.ntmps111
        go_wp2
        exact bodyPost_ret (v := .tuple #[.agg #[.bool false, .slice none 0 0], .int .i64 2]) (by simp [results, Tryz.results111, go_sem, r0, r1]) rfl ⟨_, by rw [HB.out]; rfl, by rw [HB.out]; exact isInt_zero _, HF.out⟩
      have hne : D.toList.isEmpty = false := by
        rw [ByteArray.toList_eq]
        cases hh : D.data.toList with
        | nil => have := bytes_len D; rw [hh] at this; simp at this; omega
        | cons c r => rfl
      have hne2 : (!D.toList.isEmpty) = true := by rw [hne]; rfl
      have hne3 : ¬ D.toList = [] := by intro e; rw [e] at hne; cases hne
      obtain ⟨x, r', hx⟩ : ∃ x r, D.data.toList = x :: r := by
        cases hh : D.data.toList with
        | nil => have := bytes_len D; rw [hh] at this; simp at this; omega
        | cons c r => exact ⟨c, r, rfl⟩
      have hx0 : D[0] = x := by
        have : D.data.toList[0]'(by rw [hx]; simp) = x := by simp [hx]
        exact this
      have HX := Lib.hid hx
      clear hx
      by_cases hbig : 65536 < s.size
      · have g2 : (65536 : Int) < (s.size : Int) := by omega
        have HB : Hid (parseOK s.data.toList = false) := parse_early _ (.inl (by rw [bytes_len]; exact hbig))
        clear hbig hx0
        go_enter Tryz.func111, Tryz.ntmps111
        go_wp2
        exact bodyPost_ret (v := .tuple #[.agg #[.bool false, .slice none 0 0], .int .i64 2]) (by simp [results, Tryz.results111, go_sem, r0, r1]) rfl ⟨_, by rw [HB.out]; rfl, by rw [HB.out]; exact isInt_zero _, HF.out⟩
      have g2 : ¬ (65536 : Int) < (s.size : Int) := by omega
      by_cases hear : x = 48 ∧ s.data.toList ≠ [48]
      · have f48 : ((D[0].toNat : Int) == 48) = true := by rw [hx0, hear.1]; rfl
        have HB : Hid (parseOK s.data.toList = false) := parse_early _ (.inr (.inr ⟨by rw [← HDl.out, HX.out]; exact hear.1, hear.2⟩))
        have hq : (s.toList == [48]) = false := by rw [ByteArray.toList_eq, beq_eq_false_iff_ne]; exact hear.2
        have hq2 : ¬ s.toList = [48] := by rw [ByteArray.toList_eq]; exact hear.2
        clear hear hbig hx0
        go_enter Tryz.func111, Tryz.ntmps111
        go_wp2
        exact bodyPost_ret (v := .tuple #[.agg #[.bool false, .slice none 0 0], .int .i64 2]) (by simp [results, Tryz.results111, go_sem, r0, r1]) rfl ⟨_, by rw [HB.out]; rfl, by rw [HB.out]; exact isInt_zero _, HF.out⟩
      have HP : Hid (parseOK s.data.toList = D.data.toList.all digB) := by
        refine (parse_late s.data.toList (by rw [bytes_len]; omega) (by rw [← HDl.out, HX.out]; simp) ?_).trans (congrArg (fun l => List.all l digB) HDl.out.symm)
        intro e
        rw [← HDl.out, HX.out] at e
        exact Decidable.byContradiction fun h => hear ⟨e, h⟩
      have hcase : ((D[0].toNat : Int) == 48) = false ∨ (((D[0].toNat : Int) == 48) = true ∧ (s.toList == [48]) = true ∧ s.toList = [48]) := by
        by_cases h48 : x = 48
        · refine .inr ⟨by rw [hx0, h48]; rfl, ?_⟩
          have : s.data.toList = [48] := Decidable.byContradiction fun h => hear ⟨h48, h⟩
          rw [ByteArray.toList_eq, this]
          exact ⟨rfl, rfl⟩
        · refine .inl ?_
          rw [hx0, beq_eq_false_iff_ne]
          intro e
          exact h48 (UInt8.toNat_inj.1 (by have : (48 : UInt8).toNat = 48 := rfl; omega))
      clear hear hx0
      obtain ⟨q, hqd⟩ : ∃ q, q = D.size / 9 := ⟨_, rfl⟩
      have hsb : D.size ≤ 65536 := by have := hDs; omega
      have hq1 : (D.size : Int) / 9 = (q : Int) := by omega
      have hq2 : (D.size : Int).tdiv 9 = (q : Int) := by rw [Int.tdiv_eq_ediv_of_nonneg (by omega)]; omega
      have hqb : (q : Int) ≤ 8000 := by omega
      have hmk := run_mk (q + 1) (by omega) ((q : Int) + 1) (by omega)
      have HQ := Lib.hid hqd
      have hDL := Lib.hid (bytes_len D)
      have HZ := Lib.hid hz
      have HE := Lib.hid eW
      clear hqd hbig hz eW
      rcases hcase with h48 | ⟨h48, h48', h48''⟩
      all_goals
        go_enter Tryz.func111, Tryz.ntmps111
        go_wp2_with fail
        clear hmk hq1 hq2
        have h0 : ParR W (w.heap.size + 1) (q + 1) D.data.toList 0 (W.alloc (.cells (u32s (List.replicate (q + 1) 0)) 97)) := by
          refine ⟨_, List.length_replicate .., Dig.replicate _, ?_, (Ext.refl W).alloc _, ?_⟩
          · have := Blk.new W (List.replicate (q + 1) 0)
            rwa [HZ.out] at this
          · have : ∀ n, val (List.replicate n 0) = 0 := by
              intro n; induction n with
              | zero => rfl
              | succ n ih => rw [List.replicate_succ, val, ih]
            rw [this]; simp [dv]
        have H0 := Lib.hid h0
        clear h0
        go_loopw [6, 7, 8, 9] (fun i _ _ _ wr => ∃ k : Nat, k ≤ D.size ∧ i = .int .i64 k ∧ ParR W (w.heap.size + 1) (q + 1) D.data.toList k wr ∧ Hid (((D.data.toList.take k).all digB) = true)) (fun i _ _ _ _ => D.size - (intOf i).toNat)
        case atStart => exact ⟨0, Nat.zero_le _, rfl, H0.out, rfl⟩
        case round =>
          obtain ⟨k, hk, rfl, hR, HA⟩ := hrel
          by_cases hlt : k < D.size
          · obtain ⟨t, hct⟩ : ∃ t, t = D[k] := ⟨_, rfl⟩
            have hlk : D.data.toList[k]? = some t := by rw [hct]; exact List.getElem?_eq_getElem (by rw [hDL.out]; exact hlt)
            by_cases hdg : digB t = true
            · have hdg' := hdg
              unfold digB at hdg
              rw [Bool.and_eq_true, decide_eq_true_iff, decide_eq_true_iff] at hdg
              have b1 : ¬ ((D[k].toNat : Int) < 48) := by rw [← hct]; omega
              have b2 : ¬ ((57 : Int) < (D[k].toNat : Int)) := by rw [← hct]; omega
              obtain ⟨d, hd⟩ : ∃ d, d = t.toNat - 48 := ⟨_, rfl⟩
              have hdI : (D[k].toNat : Int) - 48 = (d : Int) := by rw [← hct]; omega
              obtain ⟨a, ha⟩ : ∃ a, a = D.size - 1 - k := ⟨_, rfl⟩
              obtain ⟨kk, hkk⟩ : ∃ kk, kk = a / 9 := ⟨_, rfl⟩
              obtain ⟨p, hp⟩ : ∃ p, p = a % 9 := ⟨_, rfl⟩
              have ht := bytes_take D k hlt
              rw [← hct] at ht
              obtain ⟨z, hzb, hzc, hzf, hkm, HST⟩ := hR.at_ (by have := HZ.out; omega) (by rw [hDL.out, HQ.out]) (by rw [hDL.out]; exact hlt) t ht (by omega) kk p (by rw [hDL.out]; omega) (by rw [hDL.out]; omega)
              have eR : Ext W wr := by obtain ⟨zs, _, _, _, h, _⟩ := hR; exact h
              have hA' : Hid ((D.data.toList.take (k + 1)).all digB = true) := by
                unfold Hid
                rw [ht, List.all_append, HA.out]
                simpa using hdg'
              obtain ⟨P, hP⟩ : ∃ P, P = 10 ^ p := ⟨_, rfl⟩
              have hPb : P ≤ 100000000 := by rw [hP]; have := Nat.pow_le_pow_right (n := 10) (by omega) (show p ≤ 8 by omega); omega
              obtain ⟨e, he⟩ : ∃ e, e = d * P := ⟨_, rfl⟩
              have heb : e ≤ 9 * 100000000 := by rw [he]; exact Nat.mul_le_mul (by omega) hPb
              have heI : (d : Int) * (P : Int) = (e : Int) := by rw [he, Int.natCast_mul]
              rw [← hd, ← hP, ← he] at hzb HST
              have hz1 : (z : Int) ≤ 999999999 := by omega
              have hze : (z : Int) + (e : Int) ≤ 999999999 := by omega
              have he1 : (e : Int) ≤ 900000000 := by omega
              have hd9 : (d : Int) ≤ 9 := by omega
              have hPI : (P : Int) ≤ 100000000 := by omega
              have haI : (D.size : Int) - 1 - (k : Int) = (a : Int) := by omega
              have hk1 : (a : Int) / 9 = (kk : Int) := by omega
              have hk2 : (a : Int).tdiv 9 = (kk : Int) := by rw [Int.tdiv_eq_ediv_of_nonneg (by omega)]; omega
              have hp1 : (a : Int) % 9 = (p : Int) := by omega
              have hp2 : (a : Int).tmod 9 = (p : Int) := by rw [Int.tmod_eq_emod_of_nonneg (by omega)]; omega
              have hp8 : p ≤ 8 := by omega
              have hab : (a : Int) ≤ 65536 := by omega
              have hkI : (kk : Int) < (q : Int) + 1 := by omega
              have hltI : (k : Int) < (D.size : Int) := by omega
              have HPE := Lib.hid hP
              have hWs := HZ.out
              have HWs := Lib.hid hWs
              rw [← hWs] at hzc hzf HST
              clear hdg hdg' hd ha hkk hp ht hR HA hct hlk hP he hzb hPb heb hWs hW eR
              go_wp2
              go_loop [8, 9] (fun pw j => ∃ i Q : Nat, i ≤ p ∧ j = .int .i64 i ∧ pw = .int .u32 Q ∧ (Q : Int) ≤ 100000000 ∧ Hid (Q = 10 ^ i)) (fun _ j => p - (intOf j).toNat)
              case atStart => exact ⟨0, 1, Nat.zero_le _, rfl, rfl, by omega, rfl⟩
              case round =>
                obtain ⟨i, Q, hi, rfl, rfl, hQb, HQi⟩ := hrel
                by_cases hip : i < p
                · have hipI : (i : Int) < (p : Int) := by omega
                  have hQ10 : Hid (((Q * 10 : Nat) : Int) ≤ 100000000) := by
                    unfold Hid
                    have e1 : Q * 10 = 10 ^ (i + 1) := by rw [HQi.out, Nat.pow_succ]
                    rw [e1]
                    have := Nat.pow_le_pow_right (n := 10) (by omega) (show i + 1 ≤ 8 by omega)
                    omega
                  go_wp2
                  go_round
                  case rel =>
                    refine ⟨i + 1, Q * 10, by omega, by go_num, by go_num, hQ10.out, ?_⟩
                    unfold Hid
                    rw [HQi.out, Nat.pow_succ]
                  case measure => simp [intOf]; omega
                · have e1 : i = p := by omega
                  subst e1
                  have e2 : Q = P := by rw [HQi.out, HPE.out]
                  subst e2
                  have hst := HST.out 1
                  have hzc' : (wr.drew).cell? ⟨W.heap.size, kk, none⟩ = some (.int .u32 (z : Int)) := hzc
                  have hzf' : (wr.drew).frozen? ⟨W.heap.size, kk, none⟩ = false := hzf
                  have hst' : ∀ V : Int, V = ((z + e : Nat) : Int) → ParR W W.heap.size (q + 1) D.data.toList (k + 1) ((wr.drew).setCell ⟨W.heap.size, kk, none⟩ (.int .u32 V)) := hst
                  have HST2 := Lib.hid hst'
                  clear hst hst' HST hzc hzf
                  have w1 : IntKind.i64.wrap (kk : Int) = (kk : Int) := IntWalk.i64_in _ (by omega)
                  have w2 : IntKind.i64.wrap ((a : Int).tdiv 9) = (kk : Int) := by rw [hk2]; exact w1
                  have w2' : IntKind.i64.wrap ((a : Int) / 9) = (kk : Int) := by rw [hk1]; exact w1
                  have w3 : IntKind.u8.wrap (d : Int) = (d : Int) := IntWalk.u8_in _ (by omega)
                  have w4 : IntKind.u8.wrap ((D[k].toNat : Int) - 48) = (d : Int) := by rw [hdI]; exact w3
                  have w5 : IntKind.u32.wrap (d : Int) = (d : Int) := IntWalk.u32_in _ (by omega)
                  have w6 : IntKind.u32.wrap (e : Int) = (e : Int) := IntWalk.u32_in _ (by omega)
                  have w7 : IntKind.u32.wrap ((d : Int) * (Q : Int)) = (e : Int) := by rw [heI]; exact w6
                  have w8 : IntKind.u32.wrap ((z : Int) + (e : Int)) = (z : Int) + (e : Int) := IntWalk.u32_in _ (by omega)
                  have w9 : 0 ≤ (kk : Int) := by omega
                  go_wp2
                  go_still_tail 17, (by kernel_rfl)
                  change wpList _ _ _ _ _ wr.drew
                  generalize wr.drew = w2 at *
                  go_wp2
                  go_roundw
                  case rel => exact ⟨k + 1, by omega, by go_num, by rw [← HWs.out]; exact HST2.out _ (by omega), hA'⟩
                  case measure => simp [intOf]; omega
            · have HB : Hid (parseOK s.data.toList = false) := by
                unfold Hid
                rw [HP.out, Bool.eq_false_iff]
                intro e
                exact hdg (List.all_eq_true.1 e t (List.mem_of_getElem? hlk))
              have hcs : ((D[k].toNat : Int) < 48) ∨ (¬ ((D[k].toNat : Int) < 48) ∧ (57 : Int) < (D[k].toNat : Int)) := by
                rw [← hct]
                unfold digB at hdg
                simp only [Bool.and_eq_true, decide_eq_true_iff] at hdg
                omega
              have eR : Ext W wr := by obtain ⟨zs, _, _, _, h, _⟩ := hR; exact h
              have hWs := HZ.out
              have r0' := eR.cell r0
              have r1' := eR.cell r1
              have f0' := eR.frozen (p := ⟨w.heap.size, 0, none⟩) (by show w.heap.size < W.heap.size; omega) f0
              have f1' := eR.frozen (p := ⟨w.heap.size, 1, none⟩) (by show w.heap.size < W.heap.size; omega) f1
              have hfin : Ext w ((wr.setCell ⟨w.heap.size, 0, none⟩ (.bool false)).setCell ⟨w.heap.size, 1, none⟩ (.slice none 0 0)) := ((HE.out.trans eR).setCell (p := ⟨w.heap.size, 0, none⟩) (Nat.le_refl _) _).setCell (p := ⟨w.heap.size, 1, none⟩) (Nat.le_refl _) _
              have HF := Lib.hid hfin
              have hltI : (k : Int) < (D.size : Int) := by omega
              clear hfin hWs hdg hct hlk hR HA r0 r1 f0 f1 hW eR
              rcases hcs with hc1 | ⟨hc1, hc2⟩
              · go_wp2
                exact bodyPost_ret (v := .tuple #[.agg #[.bool false, .slice none 0 0], .int .i64 2]) (by simp [results, Tryz.results111, go_sem, r0', r1']) rfl ⟨_, by rw [HB.out]; rfl, by rw [HB.out]; exact isInt_zero _, HF.out⟩
              · go_wp2
                exact bodyPost_ret (v := .tuple #[.agg #[.bool false, .slice none 0 0], .int .i64 2]) (by simp [results, Tryz.results111, go_sem, r0', r1']) rfl ⟨_, by rw [HB.out]; rfl, by rw [HB.out]; exact isInt_zero _, HF.out⟩
          · have e : k = D.size := by omega
            subst e
            have hall : D.data.toList.all digB = true := by have := HA.out; rwa [bytes_all] at this
            have HB : Hid (parseOK s.data.toList = true) := by unfold Hid; rw [HP.out]; exact hall
            obtain ⟨zs, h1, h2, h3, eR, h5⟩ := hR
            have HZV : Hid (val zs = dv D.data.toList) := by
              unfold Hid
              rw [h5, bytes_all, hDL.out, Nat.sub_self, Nat.pow_zero, Nat.mul_one]
            have HV : Hid (parseV s.data.toList = sgn true (val zs)) := by
              unfold Hid parseV
              rw [HN.out, HZV.out]
              exact congrArg (fun l => sgn true (dv l)) HDl.out.symm
            have hWs := HZ.out
            have hsg : Calls Tryz.prog 71 #[.bool true, .slice (some ⟨W.heap.size, 0, none⟩) (q + 1) (q + 1)] wr (Ret (fun v w' => IsInt w' v (sgn true (val zs))) wr) := by
              have := rsigned_calls wr true (some ⟨w.heap.size + 1, 0, none⟩) zs (q + 1) (by omega) (by omega) h3.cells h2
              rwa [h1, ← hWs] at this
            have HSG := Lib.hid hsg
            have r0' := eR.cell r0
            have r1' := eR.cell r1
            have f0' := eR.frozen (p := ⟨w.heap.size, 0, none⟩) (by show w.heap.size < W.heap.size; omega) f0
            have f1' := eR.frozen (p := ⟨w.heap.size, 1, none⟩) (by show w.heap.size < W.heap.size; omega) f1
            have HEE := Lib.hid (HE.out.trans eR)
            clear hsg h1 h2 h3 h5 hall HA hWs r0 r1 f0 f1 hW eR
            go_wp2_with fail
            refine HSG.out.mono ?_
            rintro e' w1 ⟨v3, rfl, hI, e3⟩
            obtain ⟨ao3, cap3, s3, n3, rfl, _⟩ := IsInt.open_ hI
            replace f0' := e3.frozen (lt_of_cell r0') f0'
            replace f1' := e3.frozen (lt_of_cell r1') f1'
            replace r0' := e3.cell r0'
            replace r1' := e3.cell r1'
            go_wp2
            obtain ⟨u, hu, hu2, hu3⟩ := fin_int hI r0' r1' (Nat.le_refl _) (HEE.out.trans e3)
            injection hu with hu
            subst hu
            exact bodyPost_ret (v := .tuple #[.agg #[.bool s3, .slice ao3 (limbs n3).length cap3], .int .i64 0]) (by simp [results, Tryz.results111, go_sem, r0', r1']) rfl ⟨_, by rw [HB.out]; rfl, by rw [HB.out, if_pos rfl, HV.out]; exact hu2, hu3⟩
    · have g0 : ((s[0].toNat : Int) == 45) = false := by
        rw [hc0, beq_eq_false_iff_ne]
        intro e
        exact hc (UInt8.toNat_inj.1 (by have : (45 : UInt8).toNat = 45 := rfl; omega))
      have hc' : (c == 45) = false := by rw [beq_eq_false_iff_ne]; exact hc
      have HDL : s.data.toList = digL s.data.toList := by
        rw [hl, (negL_cons c r).2, hc']
        rfl
      have HNN : negL s.data.toList = false := by rw [hl, (negL_cons c r).1, hc']
      clear hc hc0 hl hc'
      have HDl : Hid (s.data.toList = digL s.data.toList) := HDL
      have HN : Hid (negL s.data.toList = false) := HNN
      clear HDL HNN
      rcases Nat.eq_zero_or_pos s.size with d0 | d0
      · exfalso; omega
      have hne : s.toList.isEmpty = false := by
        rw [ByteArray.toList_eq]
        cases hh : s.data.toList with
        | nil => have := bytes_len s; rw [hh] at this; simp at this; omega
        | cons c r => rfl
      have hne2 : (!s.toList.isEmpty) = true := by rw [hne]; rfl
      have hne3 : ¬ s.toList = [] := by intro e; rw [e] at hne; cases hne
      obtain ⟨x, r', hx⟩ : ∃ x r, s.data.toList = x :: r := by
        cases hh : s.data.toList with
        | nil => have := bytes_len s; rw [hh] at this; simp at this; omega
        | cons c r => exact ⟨c, r, rfl⟩
      have hx0 : s[0] = x := by
        have : s.data.toList[0]'(by rw [hx]; simp) = x := by simp [hx]
        exact this
      have HX := Lib.hid hx
      clear hx
      by_cases hbig : 65536 < s.size
      · have g2 : (65536 : Int) < (s.size : Int) := by omega
        have HB : Hid (parseOK s.data.toList = false) := parse_early _ (.inl (by rw [bytes_len]; exact hbig))
        clear hbig hx0
        go_enter Tryz.func111, Tryz.ntmps111
        go_wp2
        exact bodyPost_ret (v := .tuple #[.agg #[.bool false, .slice none 0 0], .int .i64 2]) (by simp [results, Tryz.results111, go_sem, r0, r1]) rfl ⟨_, by rw [HB.out]; rfl, by rw [HB.out]; exact isInt_zero _, HF.out⟩
      have g2 : ¬ (65536 : Int) < (s.size : Int) := by omega
      by_cases hear : x = 48 ∧ s.data.toList ≠ [48]
      · have f48 : ((s[0].toNat : Int) == 48) = true := by rw [hx0, hear.1]; rfl
        have HB : Hid (parseOK s.data.toList = false) := parse_early _ (.inr (.inr ⟨by rw [← HDl.out, HX.out]; exact hear.1, hear.2⟩))
        have hq : (s.toList == [48]) = false := by rw [ByteArray.toList_eq, beq_eq_false_iff_ne]; exact hear.2
        have hq2 : ¬ s.toList = [48] := by rw [ByteArray.toList_eq]; exact hear.2
        clear hear hbig hx0
        go_enter Tryz.func111, Tryz.ntmps111
        go_wp2
        exact bodyPost_ret (v := .tuple #[.agg #[.bool false, .slice none 0 0], .int .i64 2]) (by simp [results, Tryz.results111, go_sem, r0, r1]) rfl ⟨_, by rw [HB.out]; rfl, by rw [HB.out]; exact isInt_zero _, HF.out⟩
      have HP : Hid (parseOK s.data.toList = s.data.toList.all digB) := by
        refine (parse_late s.data.toList (by rw [bytes_len]; omega) (by rw [← HDl.out, HX.out]; simp) ?_).trans (congrArg (fun l => List.all l digB) HDl.out.symm)
        intro e
        rw [← HDl.out, HX.out] at e
        exact Decidable.byContradiction fun h => hear ⟨e, h⟩
      have hcase : ((s[0].toNat : Int) == 48) = false ∨ (((s[0].toNat : Int) == 48) = true ∧ (s.toList == [48]) = true ∧ s.toList = [48]) := by
        by_cases h48 : x = 48
        · refine .inr ⟨by rw [hx0, h48]; rfl, ?_⟩
          have : s.data.toList = [48] := Decidable.byContradiction fun h => hear ⟨h48, h⟩
          rw [ByteArray.toList_eq, this]
          exact ⟨rfl, rfl⟩
        · refine .inl ?_
          rw [hx0, beq_eq_false_iff_ne]
          intro e
          exact h48 (UInt8.toNat_inj.1 (by have : (48 : UInt8).toNat = 48 := rfl; omega))
      clear hear hx0
      obtain ⟨q, hqd⟩ : ∃ q, q = s.size / 9 := ⟨_, rfl⟩
      have hsb : s.size ≤ 65536 := by omega
      have hq1 : (s.size : Int) / 9 = (q : Int) := by omega
      have hq2 : (s.size : Int).tdiv 9 = (q : Int) := by rw [Int.tdiv_eq_ediv_of_nonneg (by omega)]; omega
      have hqb : (q : Int) ≤ 8000 := by omega
      have hmk := run_mk (q + 1) (by omega) ((q : Int) + 1) (by omega)
      have HQ := Lib.hid hqd
      have hDL := Lib.hid (bytes_len s)
      have HZ := Lib.hid hz
      have HE := Lib.hid eW
      clear hqd hbig hz eW
      rcases hcase with h48 | ⟨h48, h48', h48''⟩
      all_goals
        go_enter Tryz.func111, Tryz.ntmps111
        go_wp2_with fail
        clear hmk hq1 hq2
        have h0 : ParR W (w.heap.size + 1) (q + 1) s.data.toList 0 (W.alloc (.cells (u32s (List.replicate (q + 1) 0)) 97)) := by
          refine ⟨_, List.length_replicate .., Dig.replicate _, ?_, (Ext.refl W).alloc _, ?_⟩
          · have := Blk.new W (List.replicate (q + 1) 0)
            rwa [HZ.out] at this
          · have : ∀ n, val (List.replicate n 0) = 0 := by
              intro n; induction n with
              | zero => rfl
              | succ n ih => rw [List.replicate_succ, val, ih]
            rw [this]; simp [dv]
        have H0 := Lib.hid h0
        clear h0
        go_loopw [6, 7, 8, 9] (fun i _ _ _ wr => ∃ k : Nat, k ≤ s.size ∧ i = .int .i64 k ∧ ParR W (w.heap.size + 1) (q + 1) s.data.toList k wr ∧ Hid (((s.data.toList.take k).all digB) = true)) (fun i _ _ _ _ => s.size - (intOf i).toNat)
        case atStart => exact ⟨0, Nat.zero_le _, rfl, H0.out, rfl⟩
        case round =>
          obtain ⟨k, hk, rfl, hR, HA⟩ := hrel
          by_cases hlt : k < s.size
          · obtain ⟨t, hct⟩ : ∃ t, t = s[k] := ⟨_, rfl⟩
            have hlk : s.data.toList[k]? = some t := by rw [hct]; exact List.getElem?_eq_getElem (by rw [hDL.out]; exact hlt)
            by_cases hdg : digB t = true
            · have hdg' := hdg
              unfold digB at hdg
              rw [Bool.and_eq_true, decide_eq_true_iff, decide_eq_true_iff] at hdg
              have b1 : ¬ ((s[k].toNat : Int) < 48) := by rw [← hct]; omega
              have b2 : ¬ ((57 : Int) < (s[k].toNat : Int)) := by rw [← hct]; omega
              obtain ⟨d, hd⟩ : ∃ d, d = t.toNat - 48 := ⟨_, rfl⟩
              have hdI : (s[k].toNat : Int) - 48 = (d : Int) := by rw [← hct]; omega
              obtain ⟨a, ha⟩ : ∃ a, a = s.size - 1 - k := ⟨_, rfl⟩
              obtain ⟨kk, hkk⟩ : ∃ kk, kk = a / 9 := ⟨_, rfl⟩
              obtain ⟨p, hp⟩ : ∃ p, p = a % 9 := ⟨_, rfl⟩
              have ht := bytes_take s k hlt
              rw [← hct] at ht
              obtain ⟨z, hzb, hzc, hzf, hkm, HST⟩ := hR.at_ (by have := HZ.out; omega) (by rw [hDL.out, HQ.out]) (by rw [hDL.out]; exact hlt) t ht (by omega) kk p (by rw [hDL.out]; omega) (by rw [hDL.out]; omega)
              have eR : Ext W wr := by obtain ⟨zs, _, _, _, h, _⟩ := hR; exact h
              have hA' : Hid ((s.data.toList.take (k + 1)).all digB = true) := by
                unfold Hid
                rw [ht, List.all_append, HA.out]
                simpa using hdg'
              obtain ⟨P, hP⟩ : ∃ P, P = 10 ^ p := ⟨_, rfl⟩
              have hPb : P ≤ 100000000 := by rw [hP]; have := Nat.pow_le_pow_right (n := 10) (by omega) (show p ≤ 8 by omega); omega
              obtain ⟨e, he⟩ : ∃ e, e = d * P := ⟨_, rfl⟩
              have heb : e ≤ 9 * 100000000 := by rw [he]; exact Nat.mul_le_mul (by omega) hPb
              have heI : (d : Int) * (P : Int) = (e : Int) := by rw [he, Int.natCast_mul]
              rw [← hd, ← hP, ← he] at hzb HST
              have hz1 : (z : Int) ≤ 999999999 := by omega
              have hze : (z : Int) + (e : Int) ≤ 999999999 := by omega
              have he1 : (e : Int) ≤ 900000000 := by omega
              have hd9 : (d : Int) ≤ 9 := by omega
              have hPI : (P : Int) ≤ 100000000 := by omega
              have haI : (s.size : Int) - 1 - (k : Int) = (a : Int) := by omega
              have hk1 : (a : Int) / 9 = (kk : Int) := by omega
              have hk2 : (a : Int).tdiv 9 = (kk : Int) := by rw [Int.tdiv_eq_ediv_of_nonneg (by omega)]; omega
              have hp1 : (a : Int) % 9 = (p : Int) := by omega
              have hp2 : (a : Int).tmod 9 = (p : Int) := by rw [Int.tmod_eq_emod_of_nonneg (by omega)]; omega
              have hp8 : p ≤ 8 := by omega
              have hab : (a : Int) ≤ 65536 := by omega
              have hkI : (kk : Int) < (q : Int) + 1 := by omega
              have hltI : (k : Int) < (s.size : Int) := by omega
              have HPE := Lib.hid hP
              have hWs := HZ.out
              have HWs := Lib.hid hWs
              rw [← hWs] at hzc hzf HST
              clear hdg hdg' hd ha hkk hp ht hR HA hct hlk hP he hzb hPb heb hWs hW eR
              go_wp2
              go_loop [8, 9] (fun pw j => ∃ i Q : Nat, i ≤ p ∧ j = .int .i64 i ∧ pw = .int .u32 Q ∧ (Q : Int) ≤ 100000000 ∧ Hid (Q = 10 ^ i)) (fun _ j => p - (intOf j).toNat)
              case atStart => exact ⟨0, 1, Nat.zero_le _, rfl, rfl, by omega, rfl⟩
              case round =>
                obtain ⟨i, Q, hi, rfl, rfl, hQb, HQi⟩ := hrel
                by_cases hip : i < p
                · have hipI : (i : Int) < (p : Int) := by omega
                  have hQ10 : Hid (((Q * 10 : Nat) : Int) ≤ 100000000) := by
                    unfold Hid
                    have e1 : Q * 10 = 10 ^ (i + 1) := by rw [HQi.out, Nat.pow_succ]
                    rw [e1]
                    have := Nat.pow_le_pow_right (n := 10) (by omega) (show i + 1 ≤ 8 by omega)
                    omega
                  go_wp2
                  go_round
                  case rel =>
                    refine ⟨i + 1, Q * 10, by omega, by go_num, by go_num, hQ10.out, ?_⟩
                    unfold Hid
                    rw [HQi.out, Nat.pow_succ]
                  case measure => simp [intOf]; omega
                · have e1 : i = p := by omega
                  subst e1
                  have e2 : Q = P := by rw [HQi.out, HPE.out]
                  subst e2
                  have hst := HST.out 1
                  have hzc' : (wr.drew).cell? ⟨W.heap.size, kk, none⟩ = some (.int .u32 (z : Int)) := hzc
                  have hzf' : (wr.drew).frozen? ⟨W.heap.size, kk, none⟩ = false := hzf
                  have hst' : ∀ V : Int, V = ((z + e : Nat) : Int) → ParR W W.heap.size (q + 1) s.data.toList (k + 1) ((wr.drew).setCell ⟨W.heap.size, kk, none⟩ (.int .u32 V)) := hst
                  have HST2 := Lib.hid hst'
                  clear hst hst' HST hzc hzf
                  have w1 : IntKind.i64.wrap (kk : Int) = (kk : Int) := IntWalk.i64_in _ (by omega)
                  have w2 : IntKind.i64.wrap ((a : Int).tdiv 9) = (kk : Int) := by rw [hk2]; exact w1
                  have w2' : IntKind.i64.wrap ((a : Int) / 9) = (kk : Int) := by rw [hk1]; exact w1
                  have w3 : IntKind.u8.wrap (d : Int) = (d : Int) := IntWalk.u8_in _ (by omega)
                  have w4 : IntKind.u8.wrap ((s[k].toNat : Int) - 48) = (d : Int) := by rw [hdI]; exact w3
                  have w5 : IntKind.u32.wrap (d : Int) = (d : Int) := IntWalk.u32_in _ (by omega)
                  have w6 : IntKind.u32.wrap (e : Int) = (e : Int) := IntWalk.u32_in _ (by omega)
                  have w7 : IntKind.u32.wrap ((d : Int) * (Q : Int)) = (e : Int) := by rw [heI]; exact w6
                  have w8 : IntKind.u32.wrap ((z : Int) + (e : Int)) = (z : Int) + (e : Int) := IntWalk.u32_in _ (by omega)
                  have w9 : 0 ≤ (kk : Int) := by omega
                  go_wp2
                  go_still_tail 17, (by kernel_rfl)
                  change wpList _ _ _ _ _ wr.drew
                  generalize wr.drew = w2 at *
                  go_wp2
                  go_roundw
                  case rel => exact ⟨k + 1, by omega, by go_num, by rw [← HWs.out]; exact HST2.out _ (by omega), hA'⟩
                  case measure => simp [intOf]; omega
            · have HB : Hid (parseOK s.data.toList = false) := by
                unfold Hid
                rw [HP.out, Bool.eq_false_iff]
                intro e
                exact hdg (List.all_eq_true.1 e t (List.mem_of_getElem? hlk))
              have hcs : ((s[k].toNat : Int) < 48) ∨ (¬ ((s[k].toNat : Int) < 48) ∧ (57 : Int) < (s[k].toNat : Int)) := by
                rw [← hct]
                unfold digB at hdg
                simp only [Bool.and_eq_true, decide_eq_true_iff] at hdg
                omega
              have eR : Ext W wr := by obtain ⟨zs, _, _, _, h, _⟩ := hR; exact h
              have hWs := HZ.out
              have r0' := eR.cell r0
              have r1' := eR.cell r1
              have f0' := eR.frozen (p := ⟨w.heap.size, 0, none⟩) (by show w.heap.size < W.heap.size; omega) f0
              have f1' := eR.frozen (p := ⟨w.heap.size, 1, none⟩) (by show w.heap.size < W.heap.size; omega) f1
              have hfin : Ext w ((wr.setCell ⟨w.heap.size, 0, none⟩ (.bool false)).setCell ⟨w.heap.size, 1, none⟩ (.slice none 0 0)) := ((HE.out.trans eR).setCell (p := ⟨w.heap.size, 0, none⟩) (Nat.le_refl _) _).setCell (p := ⟨w.heap.size, 1, none⟩) (Nat.le_refl _) _
              have HF := Lib.hid hfin
              have hltI : (k : Int) < (s.size : Int) := by omega
              clear hfin hWs hdg hct hlk hR HA r0 r1 f0 f1 hW eR
              rcases hcs with hc1 | ⟨hc1, hc2⟩
              · go_wp2
                exact bodyPost_ret (v := .tuple #[.agg #[.bool false, .slice none 0 0], .int .i64 2]) (by simp [results, Tryz.results111, go_sem, r0', r1']) rfl ⟨_, by rw [HB.out]; rfl, by rw [HB.out]; exact isInt_zero _, HF.out⟩
              · go_wp2
                exact bodyPost_ret (v := .tuple #[.agg #[.bool false, .slice none 0 0], .int .i64 2]) (by simp [results, Tryz.results111, go_sem, r0', r1']) rfl ⟨_, by rw [HB.out]; rfl, by rw [HB.out]; exact isInt_zero _, HF.out⟩
          · have e : k = s.size := by omega
            subst e
            have hall : s.data.toList.all digB = true := by have := HA.out; rwa [bytes_all] at this
            have HB : Hid (parseOK s.data.toList = true) := by unfold Hid; rw [HP.out]; exact hall
            obtain ⟨zs, h1, h2, h3, eR, h5⟩ := hR
            have HZV : Hid (val zs = dv s.data.toList) := by
              unfold Hid
              rw [h5, bytes_all, hDL.out, Nat.sub_self, Nat.pow_zero, Nat.mul_one]
            have HV : Hid (parseV s.data.toList = sgn false (val zs)) := by
              unfold Hid parseV
              rw [HN.out, HZV.out]
              exact congrArg (fun l => sgn false (dv l)) HDl.out.symm
            have hWs := HZ.out
            have hsg : Calls Tryz.prog 71 #[.bool false, .slice (some ⟨W.heap.size, 0, none⟩) (q + 1) (q + 1)] wr (Ret (fun v w' => IsInt w' v (sgn false (val zs))) wr) := by
              have := rsigned_calls wr false (some ⟨w.heap.size + 1, 0, none⟩) zs (q + 1) (by omega) (by omega) h3.cells h2
              rwa [h1, ← hWs] at this
            have HSG := Lib.hid hsg
            have r0' := eR.cell r0
            have r1' := eR.cell r1
            have f0' := eR.frozen (p := ⟨w.heap.size, 0, none⟩) (by show w.heap.size < W.heap.size; omega) f0
            have f1' := eR.frozen (p := ⟨w.heap.size, 1, none⟩) (by show w.heap.size < W.heap.size; omega) f1
            have HEE := Lib.hid (HE.out.trans eR)
            clear hsg h1 h2 h3 h5 hall HA hWs r0 r1 f0 f1 hW eR
            go_wp2_with fail
            refine HSG.out.mono ?_
            rintro e' w1 ⟨v3, rfl, hI, e3⟩
            obtain ⟨ao3, cap3, s3, n3, rfl, _⟩ := IsInt.open_ hI
            replace f0' := e3.frozen (lt_of_cell r0') f0'
            replace f1' := e3.frozen (lt_of_cell r1') f1'
            replace r0' := e3.cell r0'
            replace r1' := e3.cell r1'
            go_wp2
            obtain ⟨u, hu, hu2, hu3⟩ := fin_int hI r0' r1' (Nat.le_refl _) (HEE.out.trans e3)
            injection hu with hu
            subst hu
            exact bodyPost_ret (v := .tuple #[.agg #[.bool s3, .slice ao3 (limbs n3).length cap3], .int .i64 0]) (by simp [results, Tryz.results111, go_sem, r0', r1']) rfl ⟨_, by rw [HB.out]; rfl, by rw [HB.out, if_pos rfl, HV.out]; exact hu2, hu3⟩
end Go.Proofs.YtnejcdjakjmklaaGreatDoor
end

section
set_option maxRecDepth 100000
namespace Go.Proofs.YtnejcdjakjmklaaGreatDoor
open Go.RowKit Go.Shelf
def scanP (n : Nat) : List UInt8 → Nat → Nat → Bool → Option (Nat × Bool)
  | [], _, dot, nz => some (dot, nz)
  | c :: r, i, dot, nz => if c = 46 ∧ dot = n then scanP n r (i + 1) i nz else if digB c then scanP n r (i + 1) dot (nz || !(c == 48)) else none
def endP' (D : List UInt8) (m : Nat) : Option (Nat × Bool) → Int
  | none => -1
  | some (dot, nz) => if dot = 0 ∨ (1 < dot ∧ D.headD 0 = 48) ∨ (D.length < m ∧ nz = false) then -1 else if dot = D.length then 0 else if D.length - dot - 1 < 1 ∨ 30 < D.length - dot - 1 then -1 else ((D.length - dot - 1 : Nat) : Int)
def plD (l : List UInt8) : Int := if 65536 < l.length then -1 else endP' (digL l) l.length (scanP (digL l).length (digL l) 0 (digL l).length false)
set_option maxRecDepth 100000 in
set_option maxHeartbeats 1600000 in
theorem places_other (w : World) (s : ByteArray) (hs : s.size ≤ 65536) (h0 : 0 < s.size) (hc : ((s[0].toNat : Int) == 45) = false) (hD : digL s.data.toList = s.data.toList) : Calls Tryz.prog 63 #[.string s] w fun e w' => e = .returned (.int .i64 (plD s.data.toList)) ∧ w' = w := by
  have hR : Hid (plD s.data.toList = endP' s.data.toList s.size (scanP s.size s.data.toList 0 s.size false)) := by
    unfold Hid plD
    rw [hD, bytes_len, if_neg (by omega)]
  clear hD
  have g2 : ¬ (65536 : Int) < (s.size : Int) := by omega
  have HS := Lib.hid hs
  have HL := Lib.hid (bytes_len s)
  go_enter Tryz.func63, Tryz.ntmps63
  go_wp2
  go_loop [4, 5, 6] (fun d z i => ∃ (k dt : Nat) (nz : Bool), k ≤ s.size ∧ dt ≤ s.size ∧ i = .int .i64 k ∧ d = .int .i64 dt ∧ z = .bool nz ∧ Hid (scanP s.size (s.data.toList.drop k) k dt nz = scanP s.size s.data.toList 0 s.size false)) (fun _ _ i => s.size - (intOf i).toNat)
  case atStart => exact ⟨0, s.size, false, Nat.zero_le _, Nat.le_refl _, rfl, rfl, rfl, rfl⟩
  case round =>
    obtain ⟨k, dt, nz, hk, hdt, rfl, rfl, rfl, HK⟩ := hrel
    by_cases hlt : k < s.size
    · have HC : Hid (s.data.toList.drop k = s[k] :: s.data.toList.drop (k + 1)) := List.drop_eq_getElem_cons (l := s.data.toList) (by rw [HL.out]; exact hlt)
      have HE : Hid (digB s[k] = (decide (48 ≤ s[k].toNat) && decide (s[k].toNat ≤ 57))) := rfl
      by_cases h46 : s[k].toNat = 46
      · have f46 : ((s[k].toNat : Int) == 46) = true := by rw [beq_iff_eq]; omega
        have E46 : Hid (s[k] = 46) := UInt8.toNat_inj.1 h46
        by_cases hdn : dt = s.size
        · have fdn : ((dt : Int) == (s.size : Int)) = true := by rw [beq_iff_eq]; omega
          have HN : Hid (scanP s.size (s.data.toList.drop (k + 1)) (k + 1) k nz = scanP s.size s.data.toList 0 s.size false) := by
            have := HK.out
            rw [HC.out, scanP, if_pos ⟨E46.out, hdn⟩] at this
            exact this
          go_wp2
          go_round
          case rel => exact ⟨k + 1, k, nz, by omega, by omega, by go_num, rfl, rfl, HN.out⟩
          case measure => simp [intOf]; omega
        · have fdn : ((dt : Int) == (s.size : Int)) = false := by rw [beq_eq_false_iff_ne]; omega
          have hlt48 : (s[k].toNat : Int) < 48 := by omega
          have HN : Hid (scanP s.size s.data.toList 0 s.size false = none) := by
            have := HK.out
            rw [HC.out, scanP, if_neg (fun h => hdn h.2), HE.out, decide_eq_false (by omega), Bool.false_and, if_neg (by simp)] at this
            exact this.symm
          clear HK HC HE
          go_wp2
          go_ret
          exact ⟨by rw [hR.out, HN.out]; rfl, rfl⟩
      · have f46 : ((s[k].toNat : Int) == 46) = false := by rw [beq_eq_false_iff_ne]; omega
        have HN46 : Hid (s[k] ≠ 46) := fun e => h46 (by rw [e]; rfl)
        by_cases d1 : s[k].toNat < 48
        · have g1 : (s[k].toNat : Int) < 48 := by omega
          have HN : Hid (scanP s.size s.data.toList 0 s.size false = none) := by
            have := HK.out
            rw [HC.out, scanP, if_neg (fun h => HN46.out h.1), HE.out, decide_eq_false (by omega), Bool.false_and, if_neg (by simp)] at this
            exact this.symm
          clear HK HC HE HN46 d1 h46
          go_wp2
          go_ret
          exact ⟨by rw [hR.out, HN.out]; rfl, rfl⟩
        · have g1 : ¬ (s[k].toNat : Int) < 48 := by omega
          by_cases d2 : 57 < s[k].toNat
          · have g3 : (57 : Int) < (s[k].toNat : Int) := by omega
            have HN : Hid (scanP s.size s.data.toList 0 s.size false = none) := by
              have := HK.out
              rw [HC.out, scanP, if_neg (fun h => HN46.out h.1), HE.out, decide_eq_false (p := s[k].toNat ≤ 57) (by omega), Bool.and_false, if_neg (by simp)] at this
              exact this.symm
            clear HK HC HE HN46 d1 d2 h46
            go_wp2
            go_ret
            exact ⟨by rw [hR.out, HN.out]; rfl, rfl⟩
          · have g3 : ¬ (57 : Int) < (s[k].toNat : Int) := by omega
            have HN : Hid (scanP s.size (s.data.toList.drop (k + 1)) (k + 1) dt (nz || !(s[k] == 48)) = scanP s.size s.data.toList 0 s.size false) := by
              have := HK.out
              rw [HC.out, scanP, if_neg (fun h => HN46.out h.1), HE.out, decide_eq_true (by omega), decide_eq_true (by omega), Bool.true_and, if_pos rfl] at this
              exact this
            clear HK HC HE HN46 d1 d2 h46
            cases nz with
            | true =>
              go_wp2
              go_round
              case rel => exact ⟨k + 1, dt, true, by omega, hdt, by go_num, rfl, rfl, HN.out⟩
              case measure => simp [intOf]; omega
            | false =>
              by_cases h48 : s[k].toNat = 48
              · have f48 : ((s[k].toNat : Int) != 48) = false := by rw [bne_eq_false_iff_eq]; omega
                have E48 : Hid ((false || !(s[k] == 48)) = false) := by
                  have : s[k] = 48 := UInt8.toNat_inj.1 h48
                  unfold Hid; rw [this]; rfl
                go_wp2
                go_round
                case rel => exact ⟨k + 1, dt, false, by omega, hdt, by go_num, rfl, rfl, by have := HN.out; rw [E48.out] at this; exact this⟩
                case measure => simp [intOf]; omega
              · have f48 : ((s[k].toNat : Int) != 48) = true := by rw [bne_iff_ne]; omega
                have E48 : Hid ((false || !(s[k] == 48)) = true) := by
                  have : (s[k] == 48) = false := beq_eq_false_iff_ne.2 (fun e => h48 (by rw [e]; rfl))
                  unfold Hid; rw [this]; rfl
                go_wp2
                go_round
                case rel => exact ⟨k + 1, dt, true, by omega, hdt, by go_num, rfl, rfl, by have := HN.out; rw [E48.out] at this; exact this⟩
                case measure => simp [intOf]; omega
    · have HN : Hid (plD s.data.toList = endP' s.data.toList s.size (some (dt, nz))) := by
        have := HK.out
        rw [List.drop_of_length_le (by rw [HL.out]; omega), scanP] at this
        unfold Hid
        rw [hR.out, ← this]
      have HH : Hid (s.data.toList.headD 0 = s[0]) := by
        cases hl : s.data.toList with
        | nil => have := HL.out; rw [hl] at this; simp at this; omega
        | cons c r =>
          have : s.data.toList[0]'(by rw [hl]; simp) = c := by simp [hl]
          exact this.symm
      clear HK hR
      by_cases e0 : dt = 0
      · have f0 : ((dt : Int) == 0) = true := by rw [beq_iff_eq]; omega
        have HF := Lib.hid (show plD s.data.toList = -1 by rw [HN.out, endP', if_pos (.inl e0)])
        clear HN
        go_wp2
        go_ret
        exact ⟨by rw [HF.out]; rfl, rfl⟩
      · have f0 : ((dt : Int) == 0) = false := by rw [beq_eq_false_iff_ne]; omega
        by_cases hb : 1 < dt ∧ s[0].toNat = 48
        · have k1 : (1 : Int) < (dt : Int) := by omega
          have k2 : ((s[0].toNat : Int) == 48) = true := by rw [beq_iff_eq]; omega
          have HF := Lib.hid (show plD s.data.toList = -1 by rw [HN.out, endP', if_pos (.inr (.inl ⟨hb.1, by rw [HH.out]; exact UInt8.toNat_inj.1 hb.2⟩))])
          clear HN hb
          go_wp2
          go_ret
          exact ⟨by rw [HF.out]; rfl, rfl⟩
        · have HN2 : Hid (plD s.data.toList = if dt = s.size then 0 else if s.size - dt - 1 < 1 ∨ 30 < s.size - dt - 1 then -1 else ((s.size - dt - 1 : Nat) : Int)) := by
            have := HN.out
            rw [endP', if_neg (by rw [HL.out, HH.out]; rintro (h | ⟨h1, h2⟩ | ⟨h1, _⟩); exact e0 h; exact hb ⟨h1, by rw [h2]; rfl⟩; omega), HL.out] at this
            exact this
          have hcs : ((1 : Int) < (dt : Int) ∧ ((s[0].toNat : Int) == 48) = false) ∨ ¬ (1 : Int) < (dt : Int) := by
            by_cases h1 : 1 < dt
            · exact .inl ⟨by omega, by rw [beq_eq_false_iff_ne]; intro e; exact hb ⟨h1, by omega⟩⟩
            · exact .inr (by omega)
          have gss : ¬ (s.size : Int) < (s.size : Int) := by omega
          clear HN hb
          by_cases e3 : dt = s.size
          · have f3 : ((dt : Int) == (s.size : Int)) = true := by rw [beq_iff_eq]; omega
            have HF := Lib.hid (HN2.out.trans (if_pos e3))
            clear HN2
            subst e3
            have hse : ¬ s = ByteArray.empty := by rintro rfl; simp at h0
            clear f3
            rcases hcs with ⟨k1, k2⟩ | k1
            all_goals
              go_wp2
              go_ret
              exact ⟨by rw [HF.out]; rfl, rfl⟩
          · have f3 : ((dt : Int) == (s.size : Int)) = false := by rw [beq_eq_false_iff_ne]; omega
            obtain ⟨p, hp⟩ : ∃ p, p = s.size - dt - 1 := ⟨_, rfl⟩
            have hpa : (s.size : Int) - (dt : Int) = (p : Int) + 1 := by omega
            have hpb : (s.size : Int) - (dt : Int) - 1 = (p : Int) := by omega
            have hpc : p ≤ 65536 := by omega
            have HF := Lib.hid (HN2.out.trans (if_neg e3))
            rw [← hp] at HF
            clear HN2 hp
            rcases hcs with ⟨k1, k2⟩ | k1
            all_goals
              by_cases q1 : p < 1
              · have f4 : (p : Int) < 1 := by omega
                have HG := Lib.hid (HF.out.trans (if_pos (.inl q1)))
                clear HF
                go_wp2
                go_ret
                exact ⟨by rw [HG.out]; rfl, rfl⟩
              · have f4 : ¬ (p : Int) < 1 := by omega
                by_cases q2 : 30 < p
                · have f5 : (30 : Int) < (p : Int) := by omega
                  have HG := Lib.hid (HF.out.trans (if_pos (.inr q2)))
                  clear HF
                  go_wp2
                  go_ret
                  exact ⟨by rw [HG.out]; rfl, rfl⟩
                · have f5 : ¬ (30 : Int) < (p : Int) := by omega
                  have HG := Lib.hid (HF.out.trans (if_neg (fun h => h.elim q1 q2)))
                  clear HF
                  go_wp2
                  go_ret
                  exact ⟨by rw [HG.out]; rfl, rfl⟩
set_option maxRecDepth 100000 in
set_option maxHeartbeats 1600000 in
theorem places_neg (w : World) (s D : ByteArray) (hs : s.size ≤ 65536) (h0 : 0 < s.size) (hc : ((s[0].toNat : Int) == 45) = true) (hex : s.extract 1 s.size = D) (hsz : D.size + 1 = s.size) (hD : digL s.data.toList = D.data.toList) : Calls Tryz.prog 63 #[.string s] w fun e w' => e = .returned (.int .i64 (plD s.data.toList)) ∧ w' = w := by
  have hR : Hid (plD s.data.toList = endP' D.data.toList s.size (scanP D.size D.data.toList 0 D.size false)) := by
    unfold Hid plD
    rw [hD, bytes_len, bytes_len, if_neg (by omega)]
  clear hD
  have g2 : ¬ (65536 : Int) < (s.size : Int) := by omega
  have gss : (D.size : Int) < (s.size : Int) := by omega
  have HS := Lib.hid hs
  have HL := Lib.hid (bytes_len D)
  have HX := Lib.hid hsz
  clear hsz
  go_enter Tryz.func63, Tryz.ntmps63
  go_wp2
  go_loop [4, 5, 6] (fun d z i => ∃ (k dt : Nat) (nz : Bool), k ≤ D.size ∧ dt ≤ D.size ∧ i = .int .i64 k ∧ d = .int .i64 dt ∧ z = .bool nz ∧ Hid (scanP D.size (D.data.toList.drop k) k dt nz = scanP D.size D.data.toList 0 D.size false)) (fun _ _ i => D.size - (intOf i).toNat)
  case atStart => exact ⟨0, D.size, false, Nat.zero_le _, Nat.le_refl _, rfl, rfl, rfl, rfl⟩
  case round =>
    obtain ⟨k, dt, nz, hk, hdt, rfl, rfl, rfl, HK⟩ := hrel
    by_cases hlt : k < D.size
    · have HC : Hid (D.data.toList.drop k = D[k] :: D.data.toList.drop (k + 1)) := List.drop_eq_getElem_cons (l := D.data.toList) (by rw [HL.out]; exact hlt)
      have HE : Hid (digB D[k] = (decide (48 ≤ D[k].toNat) && decide (D[k].toNat ≤ 57))) := rfl
      by_cases h46 : D[k].toNat = 46
      · have f46 : ((D[k].toNat : Int) == 46) = true := by rw [beq_iff_eq]; omega
        have E46 : Hid (D[k] = 46) := UInt8.toNat_inj.1 h46
        by_cases hdn : dt = D.size
        · have fdn : ((dt : Int) == (D.size : Int)) = true := by rw [beq_iff_eq]; omega
          have HN : Hid (scanP D.size (D.data.toList.drop (k + 1)) (k + 1) k nz = scanP D.size D.data.toList 0 D.size false) := by
            have := HK.out
            rw [HC.out, scanP, if_pos ⟨E46.out, hdn⟩] at this
            exact this
          go_wp2
          go_round
          case rel => exact ⟨k + 1, k, nz, by omega, by omega, by go_num, rfl, rfl, HN.out⟩
          case measure => simp [intOf]; omega
        · have fdn : ((dt : Int) == (D.size : Int)) = false := by rw [beq_eq_false_iff_ne]; omega
          have hlt48 : (D[k].toNat : Int) < 48 := by omega
          have HN : Hid (scanP D.size D.data.toList 0 D.size false = none) := by
            have := HK.out
            rw [HC.out, scanP, if_neg (fun h => hdn h.2), HE.out, decide_eq_false (by omega), Bool.false_and, if_neg (by simp)] at this
            exact this.symm
          clear HK HC HE
          go_wp2
          go_ret
          exact ⟨by rw [hR.out, HN.out]; rfl, rfl⟩
      · have f46 : ((D[k].toNat : Int) == 46) = false := by rw [beq_eq_false_iff_ne]; omega
        have HN46 : Hid (D[k] ≠ 46) := fun e => h46 (by rw [e]; rfl)
        by_cases d1 : D[k].toNat < 48
        · have g1 : (D[k].toNat : Int) < 48 := by omega
          have HN : Hid (scanP D.size D.data.toList 0 D.size false = none) := by
            have := HK.out
            rw [HC.out, scanP, if_neg (fun h => HN46.out h.1), HE.out, decide_eq_false (by omega), Bool.false_and, if_neg (by simp)] at this
            exact this.symm
          clear HK HC HE HN46 d1 h46
          go_wp2
          go_ret
          exact ⟨by rw [hR.out, HN.out]; rfl, rfl⟩
        · have g1 : ¬ (D[k].toNat : Int) < 48 := by omega
          by_cases d2 : 57 < D[k].toNat
          · have g3 : (57 : Int) < (D[k].toNat : Int) := by omega
            have HN : Hid (scanP D.size D.data.toList 0 D.size false = none) := by
              have := HK.out
              rw [HC.out, scanP, if_neg (fun h => HN46.out h.1), HE.out, decide_eq_false (p := D[k].toNat ≤ 57) (by omega), Bool.and_false, if_neg (by simp)] at this
              exact this.symm
            clear HK HC HE HN46 d1 d2 h46
            go_wp2
            go_ret
            exact ⟨by rw [hR.out, HN.out]; rfl, rfl⟩
          · have g3 : ¬ (57 : Int) < (D[k].toNat : Int) := by omega
            have HN : Hid (scanP D.size (D.data.toList.drop (k + 1)) (k + 1) dt (nz || !(D[k] == 48)) = scanP D.size D.data.toList 0 D.size false) := by
              have := HK.out
              rw [HC.out, scanP, if_neg (fun h => HN46.out h.1), HE.out, decide_eq_true (by omega), decide_eq_true (by omega), Bool.true_and, if_pos rfl] at this
              exact this
            clear HK HC HE HN46 d1 d2 h46
            cases nz with
            | true =>
              go_wp2
              go_round
              case rel => exact ⟨k + 1, dt, true, by omega, hdt, by go_num, rfl, rfl, HN.out⟩
              case measure => simp [intOf]; omega
            | false =>
              by_cases h48 : D[k].toNat = 48
              · have f48 : ((D[k].toNat : Int) != 48) = false := by rw [bne_eq_false_iff_eq]; omega
                have E48 : Hid ((false || !(D[k] == 48)) = false) := by
                  have : D[k] = 48 := UInt8.toNat_inj.1 h48
                  unfold Hid; rw [this]; rfl
                go_wp2
                go_round
                case rel => exact ⟨k + 1, dt, false, by omega, hdt, by go_num, rfl, rfl, by have := HN.out; rw [E48.out] at this; exact this⟩
                case measure => simp [intOf]; omega
              · have f48 : ((D[k].toNat : Int) != 48) = true := by rw [bne_iff_ne]; omega
                have E48 : Hid ((false || !(D[k] == 48)) = true) := by
                  have : (D[k] == 48) = false := beq_eq_false_iff_ne.2 (fun e => h48 (by rw [e]; rfl))
                  unfold Hid; rw [this]; rfl
                go_wp2
                go_round
                case rel => exact ⟨k + 1, dt, true, by omega, hdt, by go_num, rfl, rfl, by have := HN.out; rw [E48.out] at this; exact this⟩
                case measure => simp [intOf]; omega
    · have HN : Hid (plD s.data.toList = endP' D.data.toList s.size (some (dt, nz))) := by
        have := HK.out
        rw [List.drop_of_length_le (by rw [HL.out]; omega), scanP] at this
        unfold Hid
        rw [hR.out, ← this]
      clear HK hR
      by_cases e0 : dt = 0
      · have f0 : ((dt : Int) == 0) = true := by rw [beq_iff_eq]; omega
        have HF := Lib.hid (show plD s.data.toList = -1 by rw [HN.out, endP', if_pos (.inl e0)])
        clear HN
        go_wp2
        go_ret
        exact ⟨by rw [HF.out]; rfl, rfl⟩
      · have f0 : ((dt : Int) == 0) = false := by rw [beq_eq_false_iff_ne]; omega
        have h0D : 0 < D.size := by omega
        have HH : Hid (D.data.toList.headD 0 = D[0]) := by
          cases hl : D.data.toList with
          | nil => have := HL.out; rw [hl] at this; simp at this; omega
          | cons c r =>
            have : D.data.toList[0]'(by rw [hl]; simp) = c := by simp [hl]
            exact this.symm
        by_cases hb : 1 < dt ∧ D[0].toNat = 48
        · have k1 : (1 : Int) < (dt : Int) := by omega
          have k2 : ((D[0].toNat : Int) == 48) = true := by rw [beq_iff_eq]; omega
          have HF := Lib.hid (show plD s.data.toList = -1 by rw [HN.out, endP', if_pos (.inr (.inl ⟨hb.1, by rw [HH.out]; exact UInt8.toNat_inj.1 hb.2⟩))])
          clear HN hb
          go_wp2
          go_ret
          exact ⟨by rw [HF.out]; rfl, rfl⟩
        · cases nz with
          | false =>
            have HF := Lib.hid (show plD s.data.toList = -1 by rw [HN.out, endP', if_pos (.inr (.inr ⟨by rw [HL.out]; have := HX.out; omega, rfl⟩))])
            have hcs : ((1 : Int) < (dt : Int) ∧ ((D[0].toNat : Int) == 48) = false) ∨ ¬ (1 : Int) < (dt : Int) := by
              by_cases h1 : 1 < dt
              · exact .inl ⟨by omega, by rw [beq_eq_false_iff_ne]; intro e; exact hb ⟨h1, by omega⟩⟩
              · exact .inr (by omega)
            clear HN hb
            rcases hcs with ⟨k1, k2⟩ | k1
            all_goals
              go_wp2
              go_ret
              exact ⟨by rw [HF.out]; rfl, rfl⟩
          | true =>
          have HN2 : Hid (plD s.data.toList = if dt = D.size then 0 else if D.size - dt - 1 < 1 ∨ 30 < D.size - dt - 1 then -1 else ((D.size - dt - 1 : Nat) : Int)) := by
            have := HN.out
            rw [endP', if_neg (by rw [HL.out, HH.out]; rintro (h | ⟨h1, h2⟩ | ⟨_, h1⟩); exact e0 h; exact hb ⟨h1, by rw [h2]; rfl⟩; cases h1), HL.out] at this
            exact this
          have hcs : ((1 : Int) < (dt : Int) ∧ ((D[0].toNat : Int) == 48) = false) ∨ ¬ (1 : Int) < (dt : Int) := by
            by_cases h1 : 1 < dt
            · exact .inl ⟨by omega, by rw [beq_eq_false_iff_ne]; intro e; exact hb ⟨h1, by omega⟩⟩
            · exact .inr (by omega)
          clear HN hb
          by_cases e3 : dt = D.size
          · have f3 : ((dt : Int) == (D.size : Int)) = true := by rw [beq_iff_eq]; omega
            have HF := Lib.hid (HN2.out.trans (if_pos e3))
            clear HN2
            subst e3
            have hse : ¬ D = ByteArray.empty := by rintro rfl; simp at h0D
            clear f3
            rcases hcs with ⟨k1, k2⟩ | k1
            all_goals
              go_wp2
              go_ret
              exact ⟨by rw [HF.out]; rfl, rfl⟩
          · have f3 : ((dt : Int) == (D.size : Int)) = false := by rw [beq_eq_false_iff_ne]; omega
            obtain ⟨p, hp⟩ : ∃ p, p = D.size - dt - 1 := ⟨_, rfl⟩
            have hpa : (D.size : Int) - (dt : Int) = (p : Int) + 1 := by omega
            have hpb : (D.size : Int) - (dt : Int) - 1 = (p : Int) := by omega
            have hpc : p ≤ 65536 := by omega
            have HF := Lib.hid (HN2.out.trans (if_neg e3))
            rw [← hp] at HF
            clear HN2 hp
            rcases hcs with ⟨k1, k2⟩ | k1
            all_goals
              by_cases q1 : p < 1
              · have f4 : (p : Int) < 1 := by omega
                have HG := Lib.hid (HF.out.trans (if_pos (.inl q1)))
                clear HF
                go_wp2
                go_ret
                exact ⟨by rw [HG.out]; rfl, rfl⟩
              · have f4 : ¬ (p : Int) < 1 := by omega
                by_cases q2 : 30 < p
                · have f5 : (30 : Int) < (p : Int) := by omega
                  have HG := Lib.hid (HF.out.trans (if_pos (.inr q2)))
                  clear HF
                  go_wp2
                  go_ret
                  exact ⟨by rw [HG.out]; rfl, rfl⟩
                · have f5 : ¬ (30 : Int) < (p : Int) := by omega
                  have HG := Lib.hid (HF.out.trans (if_neg (fun h => h.elim q1 q2)))
                  clear HF
                  go_wp2
                  go_ret
                  exact ⟨by rw [HG.out]; rfl, rfl⟩
theorem places_nil (w : World) : Calls Tryz.prog 63 #[.string ⟨#[]⟩] w fun e w' => e = .returned (.int .i64 (-1)) ∧ w' = w := by
  go_enter Tryz.func63, Tryz.ntmps63
  go_wp2
  go_loop [4, 5, 6] (fun d z i => i = .int .i64 0 ∧ d = .int .i64 0 ∧ z = .bool false) (fun _ _ i => 0)
  case atStart => exact ⟨rfl, rfl, rfl⟩
  case round =>
    obtain ⟨rfl, rfl, rfl⟩ := hrel
    go_wp2
    go_ret
    exact ⟨rfl, rfl⟩
theorem places_calls (w : World) (l : List UInt8) (hl : l.length ≤ 65536) : Calls Tryz.prog 63 #[.string ⟨l.toArray⟩] w fun e w' => e = .returned (.int .i64 (plD l)) ∧ w' = w := by
  obtain ⟨s, hs⟩ : ∃ s : ByteArray, s = ⟨l.toArray⟩ := ⟨_, rfl⟩
  have hsl : s.data.toList = l := by rw [hs]
  have hss : s.size = l.length := by rw [← bytes_len, hsl]
  cases l with
  | nil => exact places_nil w
  | cons c r =>
    have h0 : 0 < s.size := by rw [hss]; simp
    have hc0 : s[0] = c := by
      have : s.data.toList[0]'(by rw [hsl]; simp) = c := by simp [hsl]
      exact this
    rw [← hs, ← hsl]
    have hneg := (negL_cons c r).2
    by_cases hc : c = 45
    · rw [hc, beq_self_eq_true, if_pos rfl, ← hc] at hneg
      obtain ⟨t1, t2⟩ := ba_tail hsl
      exact places_neg w s _ (by rw [hss]; exact hl) h0 (by rw [hc0, hc]; rfl) rfl t2 (by rw [hsl, hneg, t1])
    · have hf : (c == 45) = false := beq_eq_false_iff_ne.2 hc
      rw [hf, if_neg (by simp)] at hneg
      exact places_other w s (by rw [hss]; exact hl) h0 (by rw [hc0, beq_eq_false_iff_ne]; intro e; exact hc (UInt8.toNat_inj.1 (by show c.toNat = 45; omega))) (by rw [hsl, hneg])
end Go.Proofs.YtnejcdjakjmklaaGreatDoor
end

section
set_option maxRecDepth 100000
namespace Go.Proofs.YtnejcdjakjmklaaGreatDoor
open Go.RowKit
theorem nDigits_leT : ∀ (k u : Nat), u < 10 ^ (k + 1) → Lib.nDigits u ≤ k + 1
  | 0, u, h => by rw [Lib.nDigits_small (by simpa using h)]; exact Nat.le_refl _
  | k + 1, u, h => by
    by_cases h1 : u < 10
    · rw [Lib.nDigits_small h1]; omega
    · rw [Lib.nDigits_big h1]
      have := nDigits_leT k (u / 10) (by rw [Nat.pow_succ] at h; omega)
      omega
theorem itoa_lenT {l : Nat} {z : Int} (h : Lim l z) : (Lib.itoa z).length ≤ 9 * l + 2 := by
  have h1 := lt_of_limbs_len h
  have h2 : (Lib.decDigits z.natAbs).length ≤ 9 * l + 1 := by
    rw [Lib.decDigits_length]
    refine nDigits_leT (9 * l) _ (Nat.lt_of_lt_of_le h1 ?_)
    rw [show (1000000000 : Nat) = 10 ^ 9 from rfl, ← Nat.pow_mul]
    exact Nat.pow_le_pow_right (by omega) (by omega)
  unfold Lib.itoa
  split
  · simp only [List.length_cons]; omega
  · rename_i hz
    rw [show z.toNat = z.natAbs by omega]; omega
end Go.Proofs.YtnejcdjakjmklaaGreatDoor
end

section
set_option maxRecDepth 100000
namespace Go.Proofs.YtnejcdjakjmklaaGreatDoor
open Go.RowKit
end Go.Proofs.YtnejcdjakjmklaaGreatDoor
end

section
set_option maxRecDepth 100000
namespace Go.Proofs.YtnejcdjakjmklaaGreatDoor
open Go.RowKit
def rQ (l : List UInt8) : Int := if qSl l then pZ (qDT l) else 1
theorem IsInt.store {w : World} {v : Value} {z : Int} {p : Addr} {u : Value} (h : IsInt w v z) (hp : w.cell? p = some u) (hu : ∀ x, u ≠ .int .u32 x) (x : Value) : IsInt (w.setCell p x) v z := by
  obtain ⟨ao, cap, h1, h2, h3, h4⟩ := h
  exact ⟨ao, cap, h1, h2, h3, h4.store hp hu x⟩
theorem res_new4 (w : World) (t : TypeId) : ∃ W, w.alloc (.cells #[.bool false, .slice none 0 0, .bool false, .slice none 0 0] t) = W ∧ Ext w W ∧ W.heap.size = w.heap.size + 1 ∧
    W.cell? ⟨w.heap.size, 0, none⟩ = some (.bool false) ∧ W.cell? ⟨w.heap.size, 1, none⟩ = some (.slice none 0 0) ∧ W.cell? ⟨w.heap.size, 2, none⟩ = some (.bool false) ∧ W.cell? ⟨w.heap.size, 3, none⟩ = some (.slice none 0 0) ∧
    ∀ i, W.frozen? ⟨w.heap.size, i, none⟩ = false := by
  refine ⟨_, rfl, (Ext.refl w).alloc _, by simp, by simp, by simp, by simp, by simp, fun i => ?_⟩
  show (match (w.heap.push _)[w.heap.size]? with | some (.cells _ _ (lo, hi)) => _ | _ => _) = _
  rw [Array.getElem?_push_size]
  simp
end Go.Proofs.YtnejcdjakjmklaaGreatDoor
end

section
set_option maxRecDepth 100000
namespace Go.Proofs.YtnejcdjakjmklaaGreatDoor
open Go.RowKit Go.Shelf
def few4 : Chunk → Chunk
  | .int (.lit z) l => if decide (z.natAbs < 1000000000 ^ 4) then .int (.lit z) 4 else .int (.lit z) l
  | c => c
theorem few4_holds {E : Env} {w : World} {c : Chunk} {vs : List Value} (h : c.holds E w vs) : (few4 c).holds E w vs := by
  unfold few4
  split
  · rename_i z l
    split
    · rename_i hz
      obtain ⟨x, y, rfl, h1, h2⟩ := h
      exact ⟨x, y, rfl, h1, limbs_len_le (of_decide_eq_true hz)⟩
    · exact h
  · exact h
theorem few4_chunks {E : Env} {w : World} : ∀ {cs : List Chunk} {vs : List Value}, chunks E w cs vs → chunks E w (cs.map few4) vs
  | [], _, h => h
  | _ :: _, _, ⟨l, r, e, h1, h2⟩ => ⟨l, r, e, few4_holds h1, few4_chunks h2⟩
def few4A : AV → AV
  | .val b cs => .val b (cs.map few4)
  | x => x
theorem few4A_holds {E : Env} {β : Nat → Nat} {w : World} {x : AV} {v : Value} (h : x.holds E β w v) : (few4A x).holds E β w v := by
  cases x with
  | val b cs =>
    cases b with
    | true => obtain ⟨vs, e, hc⟩ := h; exact ⟨vs, e, few4_chunks hc⟩
    | false => exact ⟨few4_chunks h.1, h.2⟩
  | _ => exact h
def kFew (k : Con) : Con := fun args G => (kFold k args G).map few4A
theorem kFew_ok {P : Program} {E : Env} {f : Nat} {k : Con} (h0 : ConOK P E f k) : ConOK P E f (kFew k) := by
  have h := kFold_ok h0
  refine ⟨?_, ?_, h.body⟩
  · intro args G r hr hG β w vs hv hl
    obtain ⟨y, hy, rfl⟩ := Option.map_eq_some_iff.1 hr
    refine (h.calls args G y hy hG β w vs hv hl).mono ?_
    rintro e w' ⟨v, rfl, hh, ex⟩
    exact ⟨v, rfl, few4A_holds hh, ex⟩
  · intro args G r hr x off e
    obtain ⟨y, hy, rfl⟩ := Option.map_eq_some_iff.1 hr
    cases y with
    | ptr z o => exact h.nptr args G _ hy z o rfl
    | _ => cases e
def foldTab (l : List (Nat × Con)) : List (Nat × Con) := l.map fun p => (p.1, kFew p.2)
theorem foldTab_ok {P : Program} {E : Env} {l : List (Nat × Con)} (h : TabOK P E l) : TabOK P E (foldTab l) := ⟨fun p hp => by
  obtain ⟨q, hq, rfl⟩ := List.mem_map.1 hp
  exact kFew_ok (h.all q hq)⟩
def isQ1 (z : Int) : Option Tree → Bool
  | some (.leaf [(true, [.int x l, .int y m])]) => (x.cl == some z && y.cl == some 1) && (decide (l ≤ 1000) && decide (m ≤ 1000))
  | _ => false
theorem rp10_walk : ((List.range 31).all fun n => isQ1 ((10 : Int) ^ n) (funE (cfgOf (foldTab tabT)) Tryz.f14 [] [.val false [.n .i64 (.lit (n : Int))]])) = true := by kernel_rfl
theorem rpower_calls (w : World) (n : Nat) (hn : n ≤ 30) : Calls Tryz.prog 14 #[.int .i64 (n : Int)] w (Ret (fun v w' => IsPair w' v ((10 : Int) ^ n) 1 ∧ Lim 1000 ((10 : Int) ^ n)) w) := by
  have hW := List.all_eq_true.1 rp10_walk n (List.mem_range.2 (by omega))
  unfold isQ1 at hW
  split at hW
  · rename_i x l y m hTe
    simp only [Bool.and_eq_true, decide_eq_true_iff, beq_iff_eq] at hW
    obtain ⟨⟨h1, h2⟩, h3, h4⟩ := hW
    refine (fun_sound (E := qE []) mixed (cfg_ok (foldTab_ok (tabT_ok (qE_ok _)))) no_asm Tryz.func14 (by decide +kernel) hTe (by show 1 ≤ _; decide +kernel) rfl w [.int .i64 (n : Int)] rfl ?_).mono ?_
    · intro i x hx
      match i, hx with
      | 0, hx => injection hx with hx; subst hx; exact ⟨fun _ => 0, _, rfl, one_num.2 rfl⟩
    · rintro e w' ⟨β, v, rfl, hh, ex⟩
      obtain ⟨a, b, c, d, rfl, j1, m1, j2, m2⟩ := one_rat.1 hh
      rw [IT.cl_spec h1] at j1 m1
      rw [IT.cl_spec h2] at j2
      exact ⟨_, rfl, ⟨⟨a, b, c, d, rfl, j1, j2⟩, m1.mono h3⟩, ex⟩
  · cases hW
def colD (l : List UInt8) : List UInt8 := tzL (l.filter digB)
theorem tz_snoc (F : List UInt8) (c : UInt8) : tzL (F ++ [c]) = if tzL F = [] then (if c = 48 then [] else [c]) else tzL F ++ [c] := by
  induction F with
  | nil =>
    by_cases hc : c = 48
    · simp [hc, tzL, Lib.trimLeftB]
    · simp [hc, tzL, Lib.trimLeftB]
  | cons a F ih =>
    have e : ∀ r, tzL (a :: r) = if (a == 48) = true then tzL r else a :: r := fun r => by
      unfold tzL Lib.trimLeftB
      rw [List.dropWhile_cons]
    rw [List.cons_append, e, e]
    by_cases ha : (a == 48) = true
    · rw [if_pos ha, if_pos ha]; exact ih
    · rw [if_neg ha, if_neg ha, if_neg (by simp)]; rfl
end Go.Proofs.YtnejcdjakjmklaaGreatDoor
end

section
set_option maxRecDepth 100000
namespace Go.Proofs.YtnejcdjakjmklaaGreatDoor
open Go.RowKit Go.Shelf
def nz8 (l : List UInt8) : Bool := l.any fun c => !(c == 48)
theorem scan_digs {n : Nat} {R : List UInt8} : ∀ (P : List UInt8) (i dot : Nat) (nz : Bool), P.all digB = true → scanP n (P ++ R) i dot nz = scanP n R (i + P.length) dot (nz || nz8 P)
  | [], i, dot, nz, _ => by simp [nz8]
  | c :: P, i, dot, nz, h => by
    rw [List.all_cons, Bool.and_eq_true] at h
    have h46 : c ≠ 46 := by rintro rfl; exact absurd h.1 (by decide)
    rw [List.cons_append, scanP, if_neg (fun e => h46 e.1), if_pos h.1, scan_digs P (i + 1) dot _ h.2, List.length_cons, show i + 1 + P.length = i + (P.length + 1) by omega]
    congr 1
    simp [nz8, Bool.or_assoc]
theorem scan_bad {n : Nat} : ∀ (P : List UInt8) (i dot : Nat) (nz : Bool), P.all digB = false → (dot ≠ n ∨ ∀ c ∈ P, c ≠ 46) → scanP n P i dot nz = none
  | [], i, dot, nz, h, _ => by cases h
  | c :: P, i, dot, nz, h, hd => by
    have h1 : ¬ (c = 46 ∧ dot = n) := fun e => hd.elim (fun k => k e.2) (fun k => k c (by simp) e.1)
    rw [scanP, if_neg h1]
    split
    · rename_i hc
      rw [List.all_cons, hc, Bool.true_and] at h
      exact scan_bad P _ _ _ h (hd.imp id (fun k x hx => k x (by simp [hx])))
    · rfl
theorem scan_bad2 {n : Nat} {R : List UInt8} : ∀ (P : List UInt8) (i dot : Nat) (nz : Bool), P.all digB = false → (∀ c ∈ P, c ≠ 46) → scanP n (P ++ R) i dot nz = none
  | [], i, dot, nz, h, _ => by cases h
  | c :: P, i, dot, nz, h, hd => by
    have h1 : ¬ (c = 46 ∧ dot = n) := fun e => hd c (by simp) e.1
    rw [List.cons_append, scanP, if_neg h1]
    split
    · rename_i hc
      rw [List.all_cons, hc, Bool.true_and] at h
      exact scan_bad2 P _ _ _ h (fun x hx => hd x (by simp [hx]))
    · rfl
theorem dv_nz : ∀ (l : List UInt8), l.all digB = true → (nz8 l = false ↔ dv l = 0) := by
  have key : ∀ (l : List UInt8) (v : Nat), l.all digB = true → (l.foldl (fun v c => v * 10 + (c.toNat - 48)) v = 0 ↔ v = 0 ∧ nz8 l = false) := by
    intro l
    induction l with
    | nil => intro v _; simp [nz8]
    | cons c l ih =>
      intro v h
      rw [List.all_cons, Bool.and_eq_true] at h
      rw [List.foldl_cons, ih _ h.2]
      have hd := h.1
      unfold digB at hd
      rw [Bool.and_eq_true, decide_eq_true_iff, decide_eq_true_iff] at hd
      have e : nz8 (c :: l) = (!(c == 48) || nz8 l) := rfl
      rw [e]
      by_cases hc : c = 48
      · subst hc
        simp
        intro _
        constructor
        · intro hv
          have : (48 : UInt8).toNat = 48 := rfl
          omega
        · rintro rfl
          rfl
      · have h2 : c.toNat ≠ 48 := fun k => hc (UInt8.toNat_inj.1 k)
        have h3 : (!(c == 48)) = true := by rw [beq_eq_false_iff_ne.2 hc]; rfl
        rw [h3, Bool.true_or]
        constructor
        · rintro ⟨k, _⟩; omega
        · rintro ⟨_, k⟩; cases k
  intro l h
  unfold dv
  rw [key l 0 h]
  simp
def twP (l : List UInt8) : Nat := (l.takeWhile (· != 46)).length
theorem index_twp : ∀ l : List UInt8, Lib.index l [46] = if twP l < l.length then (twP l : Int) else -1
  | [] => rfl
  | c :: l => by
    have ih := index_twp l
    unfold Lib.index
    by_cases hc : c = 46
    · subst hc
      have h1 : twP (46 :: l) = 0 := rfl
      have h2 : ([46] : List UInt8).isPrefixOf (46 :: l) = true := by simp [List.isPrefixOf]
      rw [h2, if_pos rfl, h1, if_pos (by simp)]
      rfl
    · have h1 : twP (c :: l) = twP l + 1 := by
        unfold twP
        rw [List.takeWhile_cons, if_pos (by simpa using hc)]
        rfl
      have h2 : ([46] : List UInt8).isPrefixOf (c :: l) = false := by
        simp [List.isPrefixOf]
        exact fun e => hc e.symm
      rw [h2, h1, ih, List.length_cons]
      simp only [Bool.false_eq_true, if_false]
      by_cases h : twP l < l.length
      · have hb : ((twP l : Int) == -1) = false := by rw [beq_eq_false_iff_ne]; omega
        rw [if_pos h, if_pos (show twP l + 1 < l.length + 1 by omega), hb]
        simp
      · rw [if_neg h, if_neg (show ¬ twP l + 1 < l.length + 1 by omega)]
        rfl
theorem twP_le (l : List UInt8) : twP l ≤ l.length := by
  unfold twP
  exact (List.takeWhile_sublist _).length_le
theorem cut_twp (l : List UInt8) : (twP l < l.length ∧ Lib.cut l [46] = (l.take (twP l), l.drop (twP l + 1), true)) ∨ (twP l = l.length ∧ Lib.cut l [46] = (l, [], false)) := by
  unfold Lib.cut
  rw [index_twp]
  by_cases h : twP l < l.length
  · refine .inl ⟨h, ?_⟩
    rw [if_pos h, if_pos (by omega)]
    simp
  · refine .inr ⟨by have := twP_le l; omega, ?_⟩
    rw [if_neg h, if_neg (by omega)]
theorem twp_none {l : List UInt8} (h : ∀ c ∈ l, c ≠ 46) : twP l = l.length := by
  induction l with
  | nil => rfl
  | cons c l ih =>
    unfold twP at *
    rw [List.takeWhile_cons, if_pos (by simpa using h c (by simp)), List.length_cons, ih (fun x hx => h x (by simp [hx])), List.length_cons]
theorem twp_dot {a b : List UInt8} (h : ∀ c ∈ a, c ≠ 46) : twP (a ++ 46 :: b) = a.length := by
  induction a with
  | nil => rfl
  | cons c a ih =>
    unfold twP at *
    rw [List.cons_append, List.takeWhile_cons, if_pos (by simpa using h c (by simp)), List.length_cons, ih (fun x hx => h x (by simp [hx])), List.length_cons]
theorem cut_dot {a b : List UInt8} (h : ∀ c ∈ a, c ≠ 46) : Lib.cut (a ++ 46 :: b) [46] = (a, b, true) := by
  have e := twp_dot (b := b) h
  rcases cut_twp (a ++ 46 :: b) with ⟨_, k⟩ | ⟨k, _⟩
  · rw [k, e]; simp
  · rw [e] at k; simp at k
theorem cut_nodot {l : List UInt8} (h : ∀ c ∈ l, c ≠ 46) : Lib.cut l [46] = (l, [], false) := by
  have e := twp_none h
  rcases cut_twp l with ⟨k, _⟩ | ⟨_, k⟩
  · omega
  · exact k
theorem twp_split (l : List UInt8) : (∀ c ∈ l, c ≠ 46) ∨ ∃ a b, l = a ++ 46 :: b ∧ ∀ c ∈ a, c ≠ 46 := by
  induction l with
  | nil => exact .inl (fun c hc => by cases hc)
  | cons c l ih =>
    by_cases hc : c = 46
    · subst hc
      exact .inr ⟨[], l, rfl, fun c hc => by cases hc⟩
    · rcases ih with h | ⟨a, b, rfl, h⟩
      · refine .inl fun x hx => ?_
        rcases List.mem_cons.1 hx with rfl | hx
        · exact hc
        · exact h x hx
      · refine .inr ⟨c :: a, b, rfl, fun x hx => ?_⟩
        rcases List.mem_cons.1 hx with rfl | hx
        · exact hc
        · exact h x hx
theorem neg_len (l : List UInt8) : negL l = decide ((digL l).length < l.length) := by
  cases l with
  | nil => rfl
  | cons c r =>
    obtain ⟨e1, e2⟩ := negL_cons c r
    rw [e1, e2]
    cases h : (c == 45) with
    | true => rw [if_pos rfl, decide_eq_true (by simp)]
    | false => rw [if_neg (by simp), decide_eq_false (by simp)]
theorem pl_eq (l : List UInt8) (hl : l.length ≤ 65536) : plD l = if okD l then ((frD l).length : Int) else -1 := by
  have hn := neg_len l
  have hdl := digL_len l
  unfold plD
  rw [if_neg (by omega)]
  obtain ⟨D, hD⟩ : ∃ D, D = digL l := ⟨_, rfl⟩
  rw [← hD] at hn hdl ⊢
  rcases twp_split D with hno | ⟨a, b, hab, hno⟩
  · have hc := cut_nodot hno
    have hw : whD l = D := by unfold whD; rw [← hD, hc]
    have hf : frD l = [] := by unfold frD; rw [← hD, hc]
    have hp : ptD l = false := by unfold ptD; rw [← hD, hc]
    have hN : nD l = vO D := by unfold nD; rw [hw, hf, List.append_nil]
    have hO : okD l = (numB D && !(negL l && decide (nD l = 0))) := by unfold okD vPd; rw [hp, hw]; simp
    cases ha : D.all digB with
    | false =>
      rw [scan_bad D _ _ _ ha (.inr hno), hO, show numB D = false by rw [numB]; rw [ha]; simp]
      rfl
    | true =>
      have hs := scan_digs (n := D.length) (R := []) D 0 D.length false ha
      rw [List.append_nil, scanP, Bool.false_or] at hs
      have hz : decide (nD l = 0) = !(nz8 D) := by
        rw [hN, vO_dv (by omega) ha]
        have := dv_nz D ha
        cases h8 : nz8 D with
        | true => rw [h8] at this; simp only [Bool.not_true, decide_eq_false_iff_not]; intro k; have := this.2 (by omega); cases this
        | false => rw [h8] at this; have := this.1 rfl; simp [this]
      rw [hs, endP', hO, hf]
      have hnb : numB D = decide (¬ (D.length = 0 ∨ (1 < D.length ∧ D.headD 0 = 48))) := by
        rw [numB, ha, Bool.and_true]
        cases D with
        | nil => rfl
        | cons c r =>
          have e1 : ((c :: r).headD 0 == 48) = decide ((c :: r).headD 0 = 48) := by rw [Bool.eq_iff_iff, beq_iff_eq, decide_eq_true_iff]
          rw [e1, Bool.eq_iff_iff]
          simp
          exact or_comm
      rw [hnb, hz, hn]
      by_cases c1 : D.length = 0 ∨ (1 < D.length ∧ D.headD 0 = 48)
      · rw [if_pos (c1.elim .inl (fun h => .inr (.inl h))), decide_eq_false (not_not_intro c1)]
        rfl
      · rw [decide_eq_true c1]
        by_cases c2 : D.length < l.length ∧ nz8 D = false
        · rw [if_pos (.inr (.inr c2)), decide_eq_true c2.1, c2.2]
          rfl
        · rw [if_neg (by rintro (h | h | h); exact c1 (.inl h); exact c1 (.inr h); exact c2 h), if_pos rfl]
          have : (decide (D.length < l.length) && !(nz8 D)) = false := by
            by_cases h1 : D.length < l.length
            · cases h2 : nz8 D with
              | true => simp
              | false => exact absurd ⟨h1, h2⟩ c2
            · rw [decide_eq_false h1]; rfl
          rw [this]
          rfl
  · subst hab
    have hc := cut_dot (b := b) hno
    have hw : whD l = a := by unfold whD; rw [← hD, hc]
    have hf : frD l = b := by unfold frD; rw [← hD, hc]
    have hp : ptD l = true := by unfold ptD; rw [← hD, hc]
    have hN : nD l = vO (a ++ b) := by unfold nD; rw [hw, hf]
    have hlen : (a ++ 46 :: b).length = a.length + b.length + 1 := by simp; omega
    have hO : okD l = (numB a && (dgB b && decide (b.length ≤ 30)) && !(negL l && decide (nD l = 0))) := by unfold okD vPd fOK; rw [hp, hw, hf]; simp
    cases ha : a.all digB with
    | false =>
      rw [scan_bad2 a _ _ _ ha hno, hO, show numB a = false by rw [numB]; rw [ha]; simp]
      rfl
    | true =>
      have hs := scan_digs (n := (a ++ 46 :: b).length) (R := 46 :: b) a 0 (a ++ 46 :: b).length false ha
      rw [Nat.zero_add, Bool.false_or, scanP, if_pos ⟨rfl, rfl⟩] at hs
      cases hb : b.all digB with
      | false =>
        rw [hs, scan_bad b _ _ _ hb (.inl (by rw [hlen]; omega)), hO, show dgB b = false by rw [dgB]; rw [hb]; simp]
        simp [endP']
      | true =>
        have hs2 := scan_digs (n := (a ++ 46 :: b).length) (R := []) b (a.length + 1) a.length (nz8 a) hb
        rw [List.append_nil, scanP] at hs2
        have hab : (a ++ b).all digB = true := by rw [List.all_append, ha, hb]; rfl
        have hz : decide (nD l = 0) = !(nz8 a || nz8 b) := by
          rw [hN, vO_dv (by rw [List.length_append]; omega) hab]
          have := dv_nz (a ++ b) hab
          have e8 : nz8 (a ++ b) = (nz8 a || nz8 b) := by unfold nz8; rw [List.any_append]
          rw [e8] at this
          cases h8 : (nz8 a || nz8 b) with
          | true => rw [h8] at this; simp only [Bool.not_true, decide_eq_false_iff_not]; intro k; have := this.2 (by omega); cases this
          | false => rw [h8] at this; have := this.1 rfl; simp [this]
        have hnb : numB a = decide (¬ (a.length = 0 ∨ (1 < a.length ∧ (a ++ 46 :: b).headD 0 = 48))) := by
          rw [numB, ha, Bool.and_true]
          cases a with
          | nil => rfl
          | cons c r =>
            have e1 : ((c :: r).headD 0 == 48) = decide ((c :: r).headD 0 = 48) := by rw [Bool.eq_iff_iff, beq_iff_eq, decide_eq_true_iff]
            rw [e1, Bool.eq_iff_iff]
            simp
            exact or_comm
        have hdb : dgB b = decide (¬ b.length = 0) := by
          rw [dgB, hb, Bool.and_true]
          cases b with
          | nil => rfl
          | cons c r => simp
        rw [hs, hs2, endP', hO, hf, hnb, hdb, hz, hn]
        by_cases c1 : a.length = 0 ∨ (1 < a.length ∧ (a ++ 46 :: b).headD 0 = 48)
        · rw [if_pos (c1.elim .inl (fun h => .inr (.inl h))), decide_eq_false (not_not_intro c1)]
          rfl
        · rw [decide_eq_true c1, Bool.true_and]
          by_cases c2 : (a ++ 46 :: b).length < l.length ∧ (nz8 a || nz8 b) = false
          · rw [if_pos (.inr (.inr c2)), decide_eq_true c2.1, c2.2]
            simp
          · rw [if_neg (by rintro (h | h | h); exact c1 (.inl h); exact c1 (.inr h); exact c2 h), if_neg (by rw [hlen]; omega)]
            have h3 : (decide ((a ++ 46 :: b).length < l.length) && !(nz8 a || nz8 b)) = false := by
              by_cases h1 : (a ++ 46 :: b).length < l.length
              · cases h2 : (nz8 a || nz8 b) with
                | true => simp
                | false => exact absurd ⟨h1, h2⟩ c2
              · rw [decide_eq_false h1]; rfl
            rw [h3, Bool.not_false, Bool.and_true, show (a ++ 46 :: b).length - a.length - 1 = b.length by rw [hlen]; omega]
            by_cases c3 : b.length < 1 ∨ 30 < b.length
            · rw [if_pos c3, if_neg]
              intro h
              rw [Bool.and_eq_true, decide_eq_true_iff, decide_eq_true_iff] at h
              omega
            · rw [if_neg c3, if_pos]
              rw [Bool.and_eq_true, decide_eq_true_iff, decide_eq_true_iff]
              omega
end Go.Proofs.YtnejcdjakjmklaaGreatDoor
end

section
set_option maxRecDepth 100000
namespace Go.Proofs.YtnejcdjakjmklaaGreatDoor
open Go.RowKit Go.Shelf
structure Res4 (B : Nat) (w : World) : Prop where
  c0 : w.cell? ⟨B, 0, none⟩ = some (.bool false)
  c1 : w.cell? ⟨B, 1, none⟩ = some (.slice none 0 0)
  c2 : w.cell? ⟨B, 2, none⟩ = some (.bool false)
  c3 : w.cell? ⟨B, 3, none⟩ = some (.slice none 0 0)
  f0 : w.frozen? ⟨B, 0, none⟩ = false
  f1 : w.frozen? ⟨B, 1, none⟩ = false
  f2 : w.frozen? ⟨B, 2, none⟩ = false
  f3 : w.frozen? ⟨B, 3, none⟩ = false
def put4 (w : World) (B : Nat) (a b c d : Value) : World := (((w.setCell ⟨B, 0, none⟩ a).setCell ⟨B, 1, none⟩ b).setCell ⟨B, 2, none⟩ c).setCell ⟨B, 3, none⟩ d
theorem Res4.put {B : Nat} {w : World} (h : Res4 B w) {v : Value} {z : Int} (hI : IsInt w v z) (a b c d : Value) : IsInt (put4 w B a b c d) v z := by
  unfold put4
  have k1 := hI.store h.c0 (by simp) a
  have k2 := k1.store (p := ⟨B, 1, none⟩) (by rw [World.cell?_setCell_other _ _ _ _ (by simp)]; exact h.c1) (by simp) b
  have k3 := k2.store (p := ⟨B, 2, none⟩) (by rw [World.cell?_setCell_other _ _ _ _ (by simp), World.cell?_setCell_other _ _ _ _ (by simp)]; exact h.c2) (by simp) c
  exact k3.store (p := ⟨B, 3, none⟩) (by rw [World.cell?_setCell_other _ _ _ _ (by simp), World.cell?_setCell_other _ _ _ _ (by simp), World.cell?_setCell_other _ _ _ _ (by simp)]; exact h.c3) (by simp) d
theorem put4_ext {w w2 : World} {B : Nat} (e : Ext w w2) (h : w.heap.size ≤ B) (a b c d : Value) : Ext w (put4 w2 B a b c d) :=
  (((e.setCell (p := ⟨B, 0, none⟩) h a).setCell (p := ⟨B, 1, none⟩) h b).setCell (p := ⟨B, 2, none⟩) h c).setCell (p := ⟨B, 3, none⟩) h d
end Go.Proofs.YtnejcdjakjmklaaGreatDoor
end

section
set_option maxRecDepth 100000
namespace Go.Proofs.YtnejcdjakjmklaaGreatDoor
open Go.RowKit Go.Shelf
set_option maxRecDepth 100000 in
set_option maxHeartbeats 1600000 in
theorem rparseD_bad (w : World) (s : ByteArray) (hp : ∀ w, Calls Tryz.prog 63 #[.string s] w fun e w' => e = .returned (.int .i64 (-1)) ∧ w' = w) : Calls Tryz.prog 64 #[.string s] w fun e w' => ∃ v, e = .returned (.tuple #[v, .int .i64 2]) ∧ IsPair w' v 0 0 ∧ Ext w w' := by
  obtain ⟨W, hW, eW, hz, r0, r1, r2, r3, f0⟩ := res_new4 w 26
  go_enter Tryz.func64, Tryz.ntmps64
  go_wp2_with fail
  refine (hp W).mono ?_
  rintro e w' ⟨rfl, rfl⟩
  go_wp2
  have hfin : Ext w ((((w'.setCell ⟨w.heap.size, 0, none⟩ (.bool false)).setCell ⟨w.heap.size, 1, none⟩ (.slice none 0 0)).setCell ⟨w.heap.size, 2, none⟩ (.bool false)).setCell ⟨w.heap.size, 3, none⟩ (.slice none 0 0)) := eW.put4 (Nat.le_refl _) _ _ _ _
  refine bodyPost_ret (v := .tuple #[.agg #[.bool false, .slice none 0 0, .bool false, .slice none 0 0], .int .i64 2]) (by simp [results, Tryz.results64, go_sem, r0, r1, r2, r3]) rfl ⟨_, rfl, ⟨_, _, _, _, rfl, isInt_zero _, isInt_zero _⟩, hfin⟩
theorem col_len (l : List UInt8) : (colD l).length ≤ l.length := Nat.le_trans (tzL_len _) (List.length_filter_le _ _)
def tD (l : List UInt8) : List UInt8 := (if l.headD 0 = 45 then [45] else []) ++ (if colD l = [] then [48] else colD l)
theorem ext_one (s : ByteArray) (k : Nat) (h : k < s.size) : (s.extract k (k + 1)).data.toList = [s[k]] := by
  have hl : k < s.data.toList.length := by rw [bytes_len]; exact h
  rw [ByteArray.data_extract, Array.toList_extract, List.extract_eq_take_drop, List.drop_eq_getElem_cons hl, Nat.add_sub_cancel_left]
  rfl
set_option maxRecDepth 100000 in
set_option maxHeartbeats 1600000 in
theorem rparseD_good (w : World) (s : ByteArray) (hs : s.size ≤ 65536) (n : Nat) (hn : n ≤ 30) (h0 : 0 < s.size) (Z : Int) (hZ : Hid (pZ (tD s.data.toList) = Z)) (lZ : Lim 7282 Z) (hp : ∀ w, Calls Tryz.prog 63 #[.string s] w fun e w' => e = .returned (.int .i64 (n : Int)) ∧ w' = w) : Calls Tryz.prog 64 #[.string s] w fun e w' => ∃ v, e = .returned (.tuple #[v, .int .i64 0]) ∧ IsRat w' v ((Z : Rat) / (((10 : Int) ^ n : Int) : Rat)) ∧ Ext w w' := by
  obtain ⟨W, hW, eW, hz, r0, r1, r2, r3, f0⟩ := res_new4 w 26
  have HL := Lib.hid (bytes_len s)
  have hn0 : ¬ (n : Int) < 0 := by omega
  go_enter Tryz.func64, Tryz.ntmps64
  go_wp2_with fail
  refine (hp W).mono ?_
  rintro e w' ⟨rfl, rfl⟩
  go_wp2
  go_loop [5, 6] (fun t i => ∃ (k : Nat) (T : ByteArray), k ≤ s.size ∧ i = .int .i64 k ∧ t = .string T ∧ Hid (T.data.toList = colD (s.data.toList.take k))) (fun _ i => s.size - (intOf i).toNat)
  case atStart => exact ⟨0, ⟨#[]⟩, Nat.zero_le _, rfl, rfl, rfl⟩
  case round =>
    obtain ⟨k, T, hk, rfl, rfl, HK⟩ := hrel
    by_cases hlt : k < s.size
    · have ht := bytes_take s k hlt
      have HT : Hid (colD (s.data.toList.take (k + 1)) = if digB s[k] then (if colD (s.data.toList.take k) = [] then (if s[k] = 48 then [] else [s[k]]) else colD (s.data.toList.take k) ++ [s[k]]) else colD (s.data.toList.take k)) := by
        unfold Hid colD
        rw [ht, List.filter_append]
        by_cases hd : digB s[k] = true
        · rw [if_pos hd, List.filter_cons_of_pos hd, List.filter_nil, tz_snoc]
        · rw [if_neg hd, List.filter_cons_of_neg hd, List.filter_nil, List.append_nil]
      have HE : Hid (digB s[k] = (decide (48 ≤ s[k].toNat) && decide (s[k].toNat ≤ 57))) := rfl
      clear ht
      by_cases d1 : s[k].toNat < 48
      · have g1 : ¬ (48 : Int) ≤ (s[k].toNat : Int) := by omega
        have HN : Hid (T.data.toList = colD (s.data.toList.take (k + 1))) := by
          unfold Hid
          rw [HT.out, if_neg (by rw [HE.out, decide_eq_false (by omega), Bool.false_and]; simp), HK.out]
        clear HT HK HE
        go_wp2
        go_round
        case rel => exact ⟨k + 1, T, by omega, by go_num, rfl, HN.out⟩
        case measure => simp [intOf]; omega
      · have g1 : (48 : Int) ≤ (s[k].toNat : Int) := by omega
        by_cases d2 : 57 < s[k].toNat
        · have g3 : ¬ (s[k].toNat : Int) ≤ 57 := by omega
          have HN : Hid (T.data.toList = colD (s.data.toList.take (k + 1))) := by
            unfold Hid
            rw [HT.out, if_neg (by rw [HE.out, decide_eq_false (p := s[k].toNat ≤ 57) (by omega), Bool.and_false]; simp), HK.out]
          clear HT HK HE
          go_wp2
          go_round
          case rel => exact ⟨k + 1, T, by omega, by go_num, rfl, HN.out⟩
          case measure => simp [intOf]; omega
        · have g3 : (s[k].toNat : Int) ≤ 57 := by omega
          have HD := Lib.hid (show digB s[k] = true by rw [HE.out, decide_eq_true (by omega), decide_eq_true (by omega)]; rfl)
          obtain ⟨X, hX⟩ : ∃ X, X = s.extract k (k + 1) := ⟨_, rfl⟩
          have HX := Lib.hid (ext_one s k hlt)
          rw [← hX] at HX
          have hin : ((k : Int) + 1) ≤ (s.size : Int) := by omega
          have HA : Hid ((T ++ X).data.toList = T.data.toList ++ [s[k]]) := by
            unfold Hid
            rw [ByteArray.data_append, Array.toList_append, HX.out]
          have hov : ¬ 9223372036854775807 < T.size + (min (k + 1) s.size - k) := by
            have h1 := col_len (s.data.toList.take k)
            rw [← HK.out, bytes_len] at h1
            have h2 : (s.data.toList.take k).length ≤ s.size := by rw [List.length_take, bytes_len]; omega
            omega
          cases hT : T.data.toList with
          | nil =>
            have e1 : T.toList = [] := by rw [ByteArray.toList_eq, hT]
            have e2 : T.toList.isEmpty = true := by rw [e1]; rfl
            by_cases h48 : s[k].toNat = 48
            · have f48 : ((s[k].toNat : Int) != 48) = false := by rw [bne_eq_false_iff_eq]; omega
              have HN : Hid (T.data.toList = colD (s.data.toList.take (k + 1))) := by
                unfold Hid
                rw [HT.out, if_pos HD.out, ← HK.out, hT, if_pos rfl, if_pos (UInt8.toNat_inj.1 h48)]
              clear HT HK HE HA
              go_wp2
              go_round
              case rel => exact ⟨k + 1, T, by omega, by go_num, rfl, HN.out⟩
              case measure => simp [intOf]; omega
            · have f48 : ((s[k].toNat : Int) != 48) = true := by rw [bne_iff_ne]; omega
              have HN : Hid ((T ++ X).data.toList = colD (s.data.toList.take (k + 1))) := by
                unfold Hid
                rw [HA.out, HT.out, if_pos HD.out, ← HK.out, hT, if_pos rfl, if_neg (fun e => h48 (by rw [e]; rfl))]
                rfl
              clear HT HK HE HA
              go_wp2
              go_round
              case rel => exact ⟨k + 1, T ++ X, by omega, by go_num, by rw [hX], HN.out⟩
              case measure => simp [intOf]; omega
          | cons x y =>
            have hne : T.toList.isEmpty = false := by rw [ByteArray.toList_eq, hT]; rfl
            have hne2 : (!T.toList.isEmpty) = true := by rw [hne]; rfl
            have hne3 : ¬ T.toList = [] := by intro e; rw [e] at hne; cases hne
            have HN : Hid ((T ++ X).data.toList = colD (s.data.toList.take (k + 1))) := by
              unfold Hid
              rw [HA.out, HT.out, if_pos HD.out, ← HK.out, if_neg (by rw [hT]; simp)]
            clear HT HK HE HA
            go_wp2
            go_round
            case rel => exact ⟨k + 1, T ++ X, by omega, by go_num, by rw [hX], HN.out⟩
            case measure => simp [intOf]; omega
    · have HC : Hid (T.data.toList = colD s.data.toList) := by
        have := HK.out
        rw [List.take_of_length_le (by rw [bytes_len]; omega)] at this
        exact this
      have HH : Hid (s.data.toList.headD 0 = s[0]) := by
        cases hl : s.data.toList with
        | nil => have := HL.out; rw [hl] at this; simp at this; omega
        | cons c r =>
          have : s.data.toList[0]'(by rw [hl]; simp) = c := by simp [hl]
          exact this.symm
      have htl : T.size ≤ 65536 := by
        have h1 := col_len s.data.toList
        rw [← HC.out, bytes_len, bytes_len] at h1
        omega
      have hov : ¬ 9223372036854775807 < 1 + T.size := by omega
      clear HK
      have HY : Hid (∀ Y : ByteArray, Y.data.toList = (if s[0] = 45 then [45] else []) ++ (if T.data.toList = [] then [48] else T.data.toList) → Y.size ≤ 70000 ∧ (if parseOK Y.data.toList then parseV Y.data.toList else 0) = Z) := by
        intro Y hY
        have e : Y.data.toList = tD s.data.toList := by rw [hY, tD, HH.out, HC.out]
        refine ⟨?_, by rw [e]; exact hZ.out⟩
        rw [← bytes_len, hY, List.length_append]
        have hh1 : (if s[0] = 45 then ([45] : List UInt8) else []).length ≤ 1 := by split <;> simp
        have hh2 : (if T.data.toList = [] then ([48] : List UInt8) else T.data.toList).length ≤ 65536 := by
          split
          · simp
          · rw [bytes_len]; exact htl
        omega
      have hcs : (((s[0].toNat : Int) == 45) = true ∧ T.toList = [] ∧ T.toList.isEmpty = true ∧ Hid ((⟨#[45]⟩ ++ ⟨#[48]⟩ : ByteArray).size ≤ 70000 ∧ (if parseOK (⟨#[45]⟩ ++ ⟨#[48]⟩ : ByteArray).data.toList then parseV (⟨#[45]⟩ ++ ⟨#[48]⟩ : ByteArray).data.toList else 0) = Z)) ∨
          (((s[0].toNat : Int) == 45) = true ∧ ¬ T.toList = [] ∧ T.toList.isEmpty = false ∧ Hid ((⟨#[45]⟩ ++ T : ByteArray).size ≤ 70000 ∧ (if parseOK (⟨#[45]⟩ ++ T : ByteArray).data.toList then parseV (⟨#[45]⟩ ++ T : ByteArray).data.toList else 0) = Z)) ∨
          (((s[0].toNat : Int) == 45) = false ∧ T.toList = [] ∧ T.toList.isEmpty = true ∧ Hid ((⟨#[48]⟩ : ByteArray).size ≤ 70000 ∧ (if parseOK (⟨#[48]⟩ : ByteArray).data.toList then parseV (⟨#[48]⟩ : ByteArray).data.toList else 0) = Z)) ∨
          (((s[0].toNat : Int) == 45) = false ∧ ¬ T.toList = [] ∧ T.toList.isEmpty = false ∧ Hid (T.size ≤ 70000 ∧ (if parseOK T.data.toList then parseV T.data.toList else 0) = Z)) := by
        rw [ByteArray.toList_eq]
        by_cases h45 : s[0].toNat = 45
        · have g45 : ((s[0].toNat : Int) == 45) = true := by rw [beq_iff_eq]; omega
          have E45 : s[0] = 45 := UInt8.toNat_inj.1 h45
          cases hT : T.data.toList with
          | nil => exact .inl ⟨g45, rfl, rfl, HY.out _ (by rw [if_pos E45, if_pos hT]; rfl)⟩
          | cons x y => exact .inr (.inl ⟨g45, by simp, rfl, HY.out _ (by rw [if_pos E45, if_neg (by rw [hT]; simp), ByteArray.data_append, Array.toList_append])⟩)
        · have g45 : ((s[0].toNat : Int) == 45) = false := by rw [beq_eq_false_iff_ne]; omega
          have E45 : s[0] ≠ 45 := fun e => h45 (by rw [e]; rfl)
          cases hT : T.data.toList with
          | nil => exact .inr (.inr (.inl ⟨g45, rfl, rfl, HY.out _ (by rw [if_neg E45, if_pos hT]; rfl)⟩))
          | cons x y => exact .inr (.inr (.inr ⟨g45, by simp, rfl, by have := HY.out T (by rw [if_neg E45, if_neg (by rw [hT]; simp)]; rfl); rwa [hT] at this⟩))
      clear HY HC HH htl
      rcases hcs with ⟨g45, e1, e2, hy⟩ | ⟨g45, e1, e2, hy⟩ | ⟨g45, e1, e2, hy⟩ | ⟨g45, e1, e2, hy⟩
      all_goals
        go_wp2_with fail
        refine (rparse_calls w' _ ?hsz).mono ?_
        case hsz => exact Nat.le_trans hy.out.1 (by decide)
        rintro e w2 ⟨v, rfl, hv, ex⟩
        rw [hy.out.2] at hv
        clear hy
        generalize (if parseOK _ = true then (0 : Int) else 2) = er
        have hv0 := hv
        obtain ⟨ao, cap, sg, m, rfl, hvr⟩ := hv.open_
        clear hv hvr
        obtain ⟨W2, hW2, eW2, hz2, q0, q1, f2, f3⟩ := res_new w2 24
        go_wp2_with fail
        have exA : Ext w2 ((W2.setCell ⟨w2.heap.size, 0, none⟩ (.bool sg)).setCell ⟨w2.heap.size, 1, none⟩ (.slice ao (limbs m).length cap)) := eW2.put (Nat.le_refl _) _ _
        refine (rfromInt_calls _ _ Z (hv0.ext exA) (lZ.mono (by omega))).mono ?_
        rintro e w3 ⟨u, rfl, hu, ex3⟩
        go_wp2_with fail
        refine (rpower_calls w3 n hn).mono ?_
        rintro e w4 ⟨x, rfl, ⟨hx, lx⟩, ex4⟩
        go_wp2_with fail
        have hxq : IsRat w4 x (((10 : Int) ^ n : Int) : Rat) := by
          show IsPair w4 x (((10 : Int) ^ n : Int) : Rat).num ((((10 : Int) ^ n : Int) : Rat).den : Int)
          rw [Rat.num_intCast, Rat.den_intCast]; exact hx
        have huq : IsRat w4 u (Z : Rat) := by
          show IsPair w4 u (Z : Rat).num ((Z : Rat).den : Int)
          rw [Rat.num_intCast, Rat.den_intCast]; exact hu.ext ex4
        have lzq : LimQ 100000 (Z : Rat) := ⟨by rw [Rat.num_intCast]; exact lZ.mono (by omega), by rw [Rat.den_intCast]; exact lim1 (z := 1) (by decide) |>.mono (by omega)⟩
        have lxq : LimQ 100000 (((10 : Int) ^ n : Int) : Rat) := ⟨by rw [Rat.num_intCast]; exact lx.mono (by omega), by rw [Rat.den_intCast]; exact lim1 (z := 1) (by decide) |>.mono (by omega)⟩
        have hne0 : (((10 : Int) ^ n : Int) : Rat) ≠ 0 := by
          intro e
          have e2 : ((10 : Int) ^ n) = 0 := Rat.intCast_inj.1 (by rw [e]; rfl)
          exact Int.ne_of_gt (Int.pow_pos (by decide)) e2
        refine (rover_calls w4 u x _ _ huq hxq hne0 lzq lxq).mono ?_
        rintro e w5 ⟨y, rfl, hy5, ex5⟩
        have exT : Ext w' w5 := ((((ex.trans exA).trans ex3).trans ex4).trans ex5)
        have g0 := exT.cell r0
        have g1' := exT.cell r1
        have g2' := exT.cell r2
        have g3' := exT.cell r3
        have gf : ∀ i, w5.frozen? ⟨w.heap.size, i, none⟩ = false := fun i => exT.frozen (p := ⟨w.heap.size, i, none⟩) (by show w.heap.size < w'.heap.size; omega) (f0 i)
        have exW : Ext w w5 := eW.trans exT
        have hy6 := hy5
        obtain ⟨y1, y2, y3, y4, rfl, i1, i2⟩ := hy5
        have HR : Res4 w.heap.size w5 := ⟨g0, g1', g2', g3', gf 0, gf 1, gf 2, gf 3⟩
        obtain ⟨aA, pA, sA, nA, eA, _⟩ := i1.open_
        obtain ⟨aC, pC, sC, nC, eC, _⟩ := i2.open_
        injection eA with eA
        injection eA with eA
        injection eA with eA1 eA2
        injection eA2 with eA2 _
        injection eC with eC
        injection eC with eC
        injection eC with eC1 eC2
        injection eC2 with eC2 _
        subst eA1 eA2 eC1 eC2
        have j1 := Lib.hid (HR.put i1 (.bool sA) (.slice aA (limbs nA).length pA) (.bool sC) (.slice aC (limbs nC).length pC))
        have j2 := Lib.hid (HR.put i2 (.bool sA) (.slice aA (limbs nA).length pA) (.bool sC) (.slice aC (limbs nC).length pC))
        have jE := Lib.hid exW
        clear i1 i2
        go_wp2
        exact bodyPost_ret (v := .tuple #[.agg #[.bool sA, .slice aA (limbs nA).length pA, .bool sC, .slice aC (limbs nC).length pC], .int .i64 0]) (by simp [results, Tryz.results64, go_sem, g0, g1', g2', g3']) rfl ⟨_, rfl, ⟨_, _, _, _, rfl, j1.out, j2.out⟩, put4_ext jE.out (Nat.le_refl _) _ _ _ _⟩
end Go.Proofs.YtnejcdjakjmklaaGreatDoor
end

section
set_option maxRecDepth 100000
namespace Go.Proofs.YtnejcdjakjmklaaGreatDoor
open Go.RowKit Go.Shelf
theorem filter_all {l : List UInt8} (h : l.all digB = true) : l.filter digB = l := List.filter_eq_self.2 (fun x hx => List.all_eq_true.1 h x hx)
theorem filter_neg (l : List UInt8) : l.filter digB = (digL l).filter digB := by
  cases l with
  | nil => rfl
  | cons c r =>
    rw [(negL_cons c r).2]
    cases h : (c == 45) with
    | true =>
      have : c = 45 := by simpa using h
      subst this
      rw [if_pos rfl, List.filter_cons_of_neg (by decide)]
    | false => rw [if_neg (by simp)]
theorem filter_parts {l : List UInt8} (h : okD l = true) : l.filter digB = whD l ++ frD l ∧ (whD l ++ frD l).all digB = true := by
  unfold okD vPd at h
  rw [Bool.and_eq_true, Bool.and_eq_true] at h
  obtain ⟨⟨hw, hf⟩, _⟩ := h
  have hwd : (whD l).all digB = true := by
    unfold numB at hw
    simp only [Bool.and_eq_true] at hw
    exact hw.2.2
  rw [filter_neg]
  rcases twp_split (digL l) with hno | ⟨a, b, hab, hno⟩
  · have hc := cut_nodot hno
    have e1 : whD l = digL l := by unfold whD; rw [hc]
    have e2 : frD l = [] := by unfold frD; rw [hc]
    rw [e1] at hwd
    rw [e1, e2, List.append_nil]
    exact ⟨filter_all hwd, hwd⟩
  · have hc := cut_dot (b := b) hno
    have e1 : whD l = a := by unfold whD; rw [hab, hc]
    have e2 : frD l = b := by unfold frD; rw [hab, hc]
    have e3 : ptD l = true := by unfold ptD; rw [hab, hc]
    rw [e3] at hf
    have hfd : b.all digB = true := by
      have hf' : fOK l = true := by simpa using hf
      unfold fOK dgB at hf'
      simp only [Bool.and_eq_true] at hf'
      rw [e2] at hf'
      exact hf'.1.2
    rw [e1] at hwd
    rw [e1, e2, hab, List.filter_append, List.filter_cons_of_neg (by decide), filter_all hwd, filter_all hfd, List.all_append, hwd, hfd]
    exact ⟨rfl, rfl⟩
theorem head_neg (l : List UInt8) : (l.headD 0 = 45) ↔ negL l = true := by
  cases l with
  | nil => exact ⟨fun h => absurd h (by decide), fun h => by cases h⟩
  | cons c r =>
    rw [(negL_cons c r).1, beq_iff_eq]
    exact Iff.rfl
theorem tD_sg {l : List UInt8} (hl : l.length ≤ 65536) (h : okD l = true) : pZ (tD l) = sgD l := by
  obtain ⟨hf, ha⟩ := filter_parts h
  have hlen : (whD l ++ frD l).length ≤ l.length := by rw [← hf]; exact List.length_filter_le _ _
  have hcol : colD l = tzL (whD l ++ frD l) := by unfold colD; rw [hf]
  have hnD : nD l = (dv (colD l) : Nat) := by
    unfold nD
    rw [vO_dv (by omega) ha, hcol, dv_tz]
  have hnz : (negL l && decide (nD l = 0)) = false := by
    unfold okD at h
    rw [Bool.and_eq_true] at h
    have h2 := h.2
    cases hx : (negL l && decide (nD l = 0)) with
    | false => rfl
    | true => rw [hx] at h2; cases h2
  unfold sgD
  cases hc : colD l with
  | nil =>
    have n0 : nD l = 0 := by rw [hnD, hc]; rfl
    have hng : negL l = false := by
      cases hg : negL l with
      | false => rfl
      | true => rw [hg, n0] at hnz; cases hnz
    have hh : ¬ l.headD 0 = 45 := fun e => by rw [(head_neg l).1 e] at hng; cases hng
    rw [hng, n0, tD, if_neg hh, hc, if_pos rfl]
    rfl
  | cons c r =>
    have hcl : colD l ≠ [] := by rw [hc]; simp
    have hc48 : c ≠ 48 := tz_head _ c r (by rw [← hcol]; exact hc)
    have hall : (c :: r).all digB = true := by rw [← hc, hcol]; exact tz_all _ ha
    have hdc : digB c = true := by rw [List.all_cons, Bool.and_eq_true] at hall; exact hall.1
    have hc45 : c ≠ 45 := by rintro rfl; revert hdc; decide
    have hnb : numB (c :: r) = true := by
      rw [numB_eq, beq_eq_false_iff_ne.2 (show (c :: r).headD 0 ≠ 48 from hc48), dgB, hall]
      cases ((c :: r) == [48]) <;> rfl
    have hlc : (c :: r).length ≤ l.length := by rw [← hc]; exact col_len l
    have hne : ((c :: r) == [48]) = false := beq_eq_false_iff_ne.2 (fun e => hc48 (by injection e))
    rw [hnD, hc]
    cases hg : negL l with
    | true =>
      have hh : l.headD 0 = 45 := (head_neg l).2 hg
      have hnl : (c :: r).length + 1 ≤ l.length := by
        have h1 := neg_len l
        rw [hg] at h1
        have h2 := of_decide_eq_true h1.symm
        have h3 : (c :: r).length ≤ (digL l).length := by
          rw [← hc, colD, filter_neg]
          exact Nat.le_trans (tzL_len _) (List.length_filter_le _ _)
        omega
      have et : tD l = 45 :: c :: r := by rw [tD, if_pos hh, if_neg hcl, hc]; rfl
      obtain ⟨e1, e2⟩ := negL_cons 45 (c :: r)
      rw [beq_self_eq_true] at e1 e2
      rw [if_pos rfl] at e2
      have hok : parseOK (45 :: c :: r) = true := by
        unfold parseOK
        rw [e1, e2, hnb, hne, decide_eq_true (by rw [List.length_cons]; omega)]
        rfl
      rw [et, pZ, if_pos hok, parseV, e1, e2]
      rfl
    | false =>
      have hh : ¬ l.headD 0 = 45 := fun e => by rw [(head_neg l).1 e] at hg; cases hg
      have et : tD l = c :: r := by rw [tD, if_neg hh, if_neg hcl, hc]; rfl
      obtain ⟨e1, e2⟩ := negL_cons c r
      rw [beq_eq_false_iff_ne.2 hc45] at e1 e2
      rw [if_neg (by simp)] at e2
      have hok : parseOK (c :: r) = true := by
        unfold parseOK
        rw [e1, e2, hnb, decide_eq_true (by omega)]
        rfl
      rw [et, pZ, if_pos hok, parseV, e1, e2]
      rfl
theorem rparseD_calls (w : World) (l : List UInt8) (hl : l.length ≤ 65536) : Calls Tryz.prog 64 #[.string ⟨l.toArray⟩] w (RetPd l w) := by
  have hp := fun w => places_calls w l hl
  have he := pl_eq l hl
  cases ho : okD l with
  | false =>
    rw [ho] at he
    rw [he] at hp
    refine (rparseD_bad w _ hp).mono ?_
    rintro e w' ⟨v, rfl, hv, ex⟩
    exact ⟨v, by rw [ho]; rfl, by rw [ho]; exact hv, ex⟩
  | true =>
    rw [ho, if_pos rfl] at he
    rw [he] at hp
    have hk : (frD l).length ≤ 30 := by
      unfold okD at ho
      rw [Bool.and_eq_true] at ho
      have h := ho.1
      unfold vPd at h
      rw [Bool.and_eq_true] at h
      cases hpt : ptD l with
      | false => rw [fr_nopt l hpt]; simp
      | true =>
        rw [hpt] at h
        have h2 : fOK l = true := by simpa using h.2
        unfold fOK at h2
        rw [Bool.and_eq_true, decide_eq_true_iff] at h2
        exact h2.2
    have h0 : 0 < l.length := by
      cases l with
      | nil => revert ho; decide
      | cons c r => simp
    have hsg := tD_sg hl ho
    have lz : Lim 7282 (sgD l) := by
      have hw : (whD l ++ frD l).length ≤ 65536 := by rw [← (filter_parts ho).1]; exact Nat.le_trans (List.length_filter_le _ _) hl
      have nl : Lim 7282 (nD l) := vO_lim hw
      unfold sgD
      split
      · exact nl.neg
      · exact nl
    refine (rparseD_good w ⟨l.toArray⟩ (by rw [bytes_size]; exact hl) (frD l).length hk (by rw [bytes_size]; exact h0) (sgD l) hsg lz hp).mono ?_
    rintro e w' ⟨v, rfl, hv, ex⟩
    refine ⟨v, by rw [ho]; rfl, ?_, ex⟩
    rw [ho]
    have eq : qD l = (sgD l : Rat) / (((10 : Int) ^ (frD l).length : Int) : Rat) := by unfold qD; rw [Rat.divInt_eq_div]
    show IsRat w' v (qD l)
    rw [eq]
    exact hv
end Go.Proofs.YtnejcdjakjmklaaGreatDoor
end

section
set_option maxRecDepth 100000
namespace Go.Proofs.YtnejcdjakjmklaaGreatDoor
open Go.RowKit Go.Shelf
theorem strW_ok {E : Env} {f i : Nat} {r : AV} (np : ∀ x off, r ≠ .ptr x off) (hb : ∃ fn, Tryz.prog.funcs[f]? = some fn ∧ fn.name ≠ "runtime.NumGoroutine" ∧ fn.body.isNone = false) (h : ∀ w, WQ w → Calls Tryz.prog f #[.string ⟨(E.s i).toArray⟩] w fun e w' => ∃ x, e = .returned x ∧ (∀ β, r.holds E β w' x) ∧ Ext w w') : ConW Tryz.prog WQ E f (kKq (cStr i) r kNoQ) := by
  refine ⟨?_, ?_, hb⟩
  · intro args G s hs hG β w vs hW hv hlen
    unfold kKq at hs
    split at hs
    · rename_i hc
      injection hs with hs
      subst hs
      unfold cStr at hc
      split at hc
      · rw [beq_iff_eq] at hc
        subst hc
        obtain ⟨v, rfl, h1⟩ := args1 hv hlen
        rw [(one_str.1 h1).1]
        refine (h w hW).mono ?_
        rintro e w' ⟨x, rfl, hx, ex⟩
        exact ⟨x, rfl, hx β, ex⟩
      · cases hc
    · cases hs
  · intro args G s hs x off
    unfold kKq at hs
    split at hs
    · injection hs with hs; subst hs; exact np x off
    · cases hs
def rBd : AV := .tup [(true, [.int (.lit 0) 1, .int (.lit 0) 1]), (false, [.n .i64 (.lit 2)])]
def aStr : AV := .val false [.str (.var 0) 9223372036854775807]
theorem qd_lim {l : List UInt8} (hl : l.length ≤ 65536) (ho : okD l = true) : LimQ 8000 (qD l) := by
  have hk : (frD l).length ≤ 30 := by
    unfold okD at ho
    rw [Bool.and_eq_true] at ho
    have h := ho.1
    unfold vPd at h
    rw [Bool.and_eq_true] at h
    cases hpt : ptD l with
    | false => rw [fr_nopt l hpt]; simp
    | true =>
      rw [hpt] at h
      have h2 : fOK l = true := by simpa using h.2
      unfold fOK at h2
      rw [Bool.and_eq_true, decide_eq_true_iff] at h2
      exact h2.2
  have hw : (whD l ++ frD l).length ≤ 65536 := by rw [← (filter_parts ho).1]; exact Nat.le_trans (List.length_filter_le _ _) hl
  have nl : Lim 7282 (nD l) := vO_lim hw
  have sl : Lim 7282 (sgD l) := by
    unfold sgD
    split
    · exact nl.neg
    · exact nl
  have pl : Lim 100 ((10 : Int) ^ (frD l).length) := by
    refine limbs_len_le ?_
    rw [Int.natAbs_pow]
    refine Nat.lt_of_le_of_lt (Nat.pow_le_pow_right (by decide) hk) ?_
    decide +kernel
  have q2 := divInt_lim sl pl (Int.ne_of_gt (Int.pow_pos (by decide)))
  exact ⟨q2.1.mono (by omega), q2.2.mono (by omega)⟩
end Go.Proofs.YtnejcdjakjmklaaGreatDoor
end

section
set_option maxRecDepth 100000
namespace Go.Proofs.YtnejcdjakjmklaaGreatDoor
open Go.RowKit Go.Shelf
end Go.Proofs.YtnejcdjakjmklaaGreatDoor
end

section
set_option maxRecDepth 100000
namespace Go.Proofs.YtnejcdjakjmklaaGreatDoor
open Go.RowKit Go.Shelf
end Go.Proofs.YtnejcdjakjmklaaGreatDoor
end

section
set_option maxRecDepth 100000
namespace Go.Proofs.YtnejcdjakjmklaaGreatDoor
open Go.RowKit Go.Shelf
end Go.Proofs.YtnejcdjakjmklaaGreatDoor
end

section
set_option maxRecDepth 100000
namespace Go.Proofs.YtnejcdjakjmklaaGreatDoor
open Go.RowKit Go.Shelf
def cI6 (t : IT) : List AV → Bool
  | [.val true [.int x _]] => x.beq t
  | _ => false
def rI6 (i j : Nat) : AV := .tup [(false, [.n .i64 (.var i)]), (false, [.b (.var j)])]
theorem int64_known {E : Env} {f : Nat} {t : IT} {i j : Nat} {z : Int} (ht : t.den E = z) (hi : E.i i = i64v z) (hj : E.b j = i64ok z) (hc : ∀ (w : World) (v : Value) (z : Int), IsInt w v z → Calls Tryz.prog f #[v] w fun e w' => e = .returned (.tuple #[.int .i64 (i64v z), .bool (i64ok z)]) ∧ Ext w w') : KnownR E f (cI6 t) (rI6 i j) := by
  refine ⟨?_, fun x off e => by cases e⟩
  intro args hc' β w vs hv hl
  unfold cI6 at hc'
  split at hc'
  · have e1 := IT.eq_of_beq hc'
    subst e1
    obtain ⟨v, rfl, h1⟩ := args1 hv hl
    have k := (one_int.1 h1).1
    rw [ht] at k
    refine (hc w v z k).mono ?_
    rintro e w' ⟨rfl, ex⟩
    exact ⟨_, rfl, fun β => ⟨[_, _], rfl, _, _, rfl, one_num.2 (by rw [← hi]; rfl), _, _, rfl, one_bool.2 (by rw [← hj]; rfl), rfl⟩, ex⟩
  · cases hc'
def gMl (i j : Nat) (b l h : Bool) : Asm := [(.var j, b), (.lt (.var i) (.lit (-10000000)), l), (.le (.lit (-10000000)) (.var i), !l), (.lt (.lit 10000000) (.var i), h), (.le (.var i) (.lit 10000000), !h)]
def bo3 : List (Bool × Bool × Bool) := [(true, true, true), (true, true, false), (true, false, true), (true, false, false), (false, true, true), (false, true, false), (false, false, true), (false, false, false)]
theorem bo3_mem (p : Bool × Bool × Bool) : p ∈ bo3 := by
  obtain ⟨a, b, c⟩ := p
  cases a <;> cases b <;> cases c <;> decide
end Go.Proofs.YtnejcdjakjmklaaGreatDoor
end

section
set_option maxRecDepth 100000
namespace Go.Proofs.YtnejcdjakjmklaaGreatDoor
open Go.RowKit
def isTs (ts : List IT2) : Option Tree → Bool
  | some (.leaf [(true, cs)]) => t6 ts cs
  | _ => false
theorem isTs_calls {C : Cfg} {E : Env} (hC : CfgOK Tryz.prog E C) (hw : ∀ w, C.wok w) {G : Asm} (hG : G.holds E) {f : FuncId} {fn : Func} (hf : Tryz.prog.funcs[f]? = some fn) (h4 : fn.results.toList.length ≤ 4) {args : List AV} {ts : List IT2} {qs : List Rat} (hT : isTs ts (funE C fn G args) = true) (hr : Reps E ts qs) (hn : args.length ≤ fn.ntmps) (hp : args.all noPtr = true) (w : World) (vs : List Value) (hl : vs.length = args.length)
    (hv : ∀ (i : Nat) (x : AV), args[i]? = some x → ∃ v, vs[i]? = some v ∧ ∀ β, x.holds E β w v) : Calls Tryz.prog f vs.toArray w (Ret (fun x w' => IsQs w' x qs) w) := by
  unfold isTs at hT
  split at hT
  · rename_i cs hTe
    refine (fun_sound mixed hC hG hf h4 hTe hn hp w vs hl (fun i x hx => ?_) (fun w' _ => hw w')).mono ?_
    · obtain ⟨v, h1, h2⟩ := hv i x hx
      exact ⟨fun _ => 0, v, h1, h2 _⟩
    · rintro e w' ⟨β, v, rfl, ⟨us, rfl, hu⟩, ex⟩
      exact ⟨_, rfl, ⟨us, rfl, t6_holds hr hT hu⟩, ex⟩
  · cases hT
theorem two_hold {E : Env} {w : World} {x y : AV} {v u : Value} (h1 : ∀ β, x.holds E β w v) (h2 : ∀ β, y.holds E β w u) : ∀ (i : Nat) (s : AV), [x, y][i]? = some s → ∃ r, [v, u][i]? = some r ∧ ∀ β, s.holds E β w r := by
  intro i s hs
  match i, hs with
  | 0, hs => injection hs with hs; subst hs; exact ⟨v, rfl, h1⟩
  | 1, hs => injection hs with hs; subst hs; exact ⟨u, rfl, h2⟩
end Go.Proofs.YtnejcdjakjmklaaGreatDoor
end

section
set_option maxRecDepth 100000
namespace Go.Proofs.YtnejcdjakjmklaaGreatDoor
open Go.RowKit Go.Shelf
def sQE (ss : List (List UInt8)) (qs : List Rat) (bs : List Bool) : Env := { qE qs with b := fun i => bs.getD i false, s := fun i => ss.getD i [] }
theorem sQE_ok (ss : List (List UInt8)) (qs : List Rat) (bs : List Bool) : QEnv (sQE ss qs bs) := qE_ok qs
def cLitN (z : Int) : List AV → Bool
  | [.val false [.n .i64 (.lit y)]] => y == z
  | _ => false
theorem p10_known {E : Env} {n : Nat} (hn : n ≤ 30) : KnownR E 53 (cLitN (n : Int)) (.val true [.int (.lit ((10 : Int) ^ n)) 100]) := by
  refine ⟨fun args ha β w vs hv hl => ?_, fun x off e => by cases e⟩
  unfold cLitN at ha
  split at ha
  · rw [beq_iff_eq] at ha
    subst ha
    obtain ⟨v, rfl, h1⟩ := args1 hv hl
    have h1' := one_num.1 h1
    subst h1'
    refine (p10_calls w n hn).mono ?_
    rintro e w' ⟨v, rfl, ⟨h1, h2⟩, ex⟩
    exact ⟨v, rfl, fun β => one_int.2 ⟨h1, h2⟩, ex⟩
  · cases ha
noncomputable def tabSc (n : Nat) : List (Nat × Con) := (53, kKq (cLitN (n : Int)) (.val true [.int (.lit ((10 : Int) ^ n)) 100]) kNoQ) :: (tabInt ++ tabT)
def aQ9k (i : Nat) : AV := .val true [.int (.var i) 9000, .int (.var (i + 1)) 9000]
theorem sc_walk : ((List.range 31).all fun n => isTs [qop 2 (qI 0) (.lit ((10 : Int) ^ n), .lit 1)] (funE (cfgOf (tabSc n)) Tryz.f37 [] [aQ9k 0, .val false [.n .i64 (.lit (n : Int))]])) = true := by kernel_rfl
theorem p10_rep {E : Env} (n : Nat) : RepQ E (.lit ((10 : Int) ^ n), .lit 1) (((10 : Int) ^ n : Int) : Rat) := ⟨by rw [Rat.num_intCast]; rfl, by rw [Rat.den_intCast]; rfl⟩
theorem scaled_calls (w : World) (v : Value) (a : Rat) (n : Nat) (hn : n ≤ 30) (hv : IsRat w v a) (l : LimQ 9000 a) : Calls Tryz.prog 37 #[v, .int .i64 (n : Int)] w (Ret (fun x w' => IsRat w' x (a * (((10 : Int) ^ n : Int) : Rat))) w) := by
  obtain ⟨E, hE⟩ : ∃ E, E = qE [a] := ⟨_, rfl⟩
  have hQ : QEnv E := by rw [hE]; exact qE_ok _
  have ra : RepQ E (qI 0) a := by rw [hE]; exact ⟨rfl, rfl⟩
  have hT : TabOK Tryz.prog E (tabSc n) := .cons (kKr_ok (p10_known hn) (kNoQ_ok ⟨_, Tryz.func53, by decide +kernel, by kernel_rfl⟩)) (TabOK.app tabInt_ok (tabT_ok hQ))
  have hW := List.all_eq_true.1 sc_walk n (List.mem_range.2 (by omega))
  refine (isTs_calls (qs := [a * (((10 : Int) ^ n : Int) : Rat)]) (cfg_ok hT) (fun _ => trivial) no_asm Tryz.func37 (by decide +kernel) hW ⟨rep_mul ra (p10_rep n), trivial⟩ (show 2 ≤ _ by decide +kernel) rfl w [v, .int .i64 (n : Int)] rfl (two_hold (fun β => (one_q ra).2 ⟨hv, l.1, l.2⟩) (fun β => one_num.2 rfl))).mono ?_
  rintro e w' ⟨x, rfl, hx, ex⟩
  exact ⟨x, rfl, qs_rat hx, ex⟩
def gridB (z : Int) : Bool := decide (-10000000 ≤ z) && decide (z ≤ 10000000)
noncomputable def tabMl : List (Nat × Con) := [(110, kKq (cI6 (.var 0)) (rI6 2 0) kNoQ), (114, kKq (cI6 (.var 0)) (rI6 2 0) kNoQ)]
def isMl (f k : Bool) : Option Tree → Bool
  | some (.leaf [(false, [.n .i64 x]), (false, [.b (.lit b)])]) => b == k && x.beq (if f && !k then .lit 0 else .var 2)
  | _ => false
def mlV (f : Bool) (z : Int) : Int := if f && !gridB z then 0 else i64v z
noncomputable def mlF (f : Bool) : Func := if f then Tryz.f62 else Tryz.f65
noncomputable def mlN (f : Bool) : Nat := if f then 62 else 65
theorem mlF_body (f : Bool) : Tryz.prog.funcs[mlN f]? = some (mlF f) ∧ (mlF f).results.toList.length ≤ 4 ∧ 1 ≤ (mlF f).ntmps ∧ (mlF f).name ≠ "runtime.NumGoroutine" ∧ (mlF f).body.isNone = false := by
  cases f
  · exact ⟨Tryz.func65, by decide +kernel, by decide +kernel, by decide +kernel, by kernel_rfl⟩
  · exact ⟨Tryz.func62, by decide +kernel, by decide +kernel, by decide +kernel, by kernel_rfl⟩
theorem ml_walk : (bools.all fun f => bo3.all fun x => isMl f (x.1 && (!x.2.1 && !x.2.2)) (funE (cfgOf tabMl) (mlF f) (gMl 2 0 x.1 x.2.1 x.2.2) [.val true [.int (.var 0) 100000]])) = true := by kernel_rfl
theorem ml_calls (f : Bool) (w : World) (v : Value) (z : Int) (h : IsInt w v z) (l : Lim 100000 z) : Calls Tryz.prog (mlN f) #[v] w fun e w' => e = .returned (.tuple #[.int .i64 (mlV f z), .bool (gridB z)]) ∧ Ext w w' := by
  obtain ⟨g1, g2, g3, _, _⟩ := mlF_body f
  obtain ⟨E, hE⟩ : ∃ E : Env, E = ⟨fun i => if i = 0 then z else i64v z, fun _ => i64ok z, fun _ => (false, []), fun _ => []⟩ := ⟨_, rfl⟩
  have e0 : E.i 0 = z := by rw [hE]; rfl
  have e2 : E.i 2 = i64v z := by rw [hE]; rfl
  have eb : E.b 0 = i64ok z := by rw [hE]
  have hT : TabOK Tryz.prog E tabMl :=
    .cons (kKr_ok (int64_known (t := .var 0) e0 e2 eb (fun w v z h => int64_calls w v z h)) (kNoQ_ok ⟨_, Tryz.func110, by decide +kernel, by kernel_rfl⟩)) <|
    .cons (kKr_ok (int64_known (t := .var 0) e0 e2 eb (fun w v z h => rint64_calls w v z h)) (kNoQ_ok ⟨_, Tryz.func114, by decide +kernel, by kernel_rfl⟩)) .nil
  obtain ⟨p, hp⟩ : ∃ p : Bool × Bool × Bool, p = (i64ok z, decide (i64v z < -10000000), decide (10000000 < i64v z)) := ⟨_, rfl⟩
  have hG : (gMl 2 0 p.1 p.2.1 p.2.2).holds E := by
    rw [hp]
    refine asm_and eb <| asm_and ?_ <| asm_and ?_ <| asm_and ?_ <| asm_and ?_ asm_nil
    · show decide (E.i 2 < -10000000) = _; rw [e2]
    · show decide ((-10000000 : Int) ≤ E.i 2) = !decide (i64v z < -10000000)
      rw [e2, Bool.eq_iff_iff]; simp
    · show decide ((10000000 : Int) < E.i 2) = _; rw [e2]
    · show decide (E.i 2 ≤ 10000000) = !decide (10000000 < i64v z)
      rw [e2, Bool.eq_iff_iff]; simp
  have hW := List.all_eq_true.1 (List.all_eq_true.1 ml_walk f (bools_mem f)) p (bo3_mem p)
  have hk : (p.1 && (!p.2.1 && !p.2.2)) = gridB z := by
    rw [hp]
    unfold gridB
    by_cases h1 : -9223372036854775808 ≤ z ∧ z ≤ 9223372036854775807
    · rw [(i64_in h1.1 h1.2).1, (i64_in h1.1 h1.2).2, Bool.eq_iff_iff]
      simp
    · have := i64_out (z := z) (by omega)
      rw [this.2, Bool.eq_iff_iff]
      simp
      omega
  rw [hk] at hW
  unfold isMl at hW
  split at hW
  · rename_i x b hTe
    rw [Bool.and_eq_true, beq_iff_eq] at hW
    obtain ⟨rfl, hx⟩ := hW
    refine (fun_sound mixed (cfg_ok hT) hG g1 g2 hTe g3 rfl w [v] rfl ?_).mono ?_
    · intro i y hy
      match i, hy with
      | 0, hy => injection hy with hy; subst hy; exact ⟨fun _ => 0, v, rfl, one_int.2 ⟨by show IsInt w v (E.i 0); rw [e0]; exact h, by show Lim _ (E.i 0); rw [e0]; exact l⟩⟩
    · rintro e w' ⟨β, y, rfl, ⟨vs, rfl, u1, r1, rfl, k1, u2, r2, rfl, k2, hn⟩, ex⟩
      simp only [tupAll] at hn
      subst hn
      have k1' := one_num.1 k1
      have k2' := one_bool.1 k2
      subst k1' k2'
      have e1 := IT.eq_of_beq hx
      rw [e1]
      refine ⟨?_, ex⟩
      have e2' : (if f && !gridB z then IT.lit 0 else IT.var 2).den E = mlV f z := by
        unfold mlV
        split
        · rfl
        · exact e2
      rw [e2']
      rfl
  · cases hW
def limI : List AV → Bool
  | [.val true [.int _ l]] => decide (l ≤ 100000)
  | _ => false
theorem fr_cut (l : List UInt8) : (Lib.cut l [46]).2.1 = frD l := by
  unfold frD
  cases l with
  | nil => rfl
  | cons c r =>
    rw [(negL_cons c r).2]
    cases h : (c == 45) with
    | false => rfl
    | true =>
      have hc : c = 45 := by simpa using h
      subst hc
      have e : twP (45 :: r) = twP r + 1 := by
        unfold twP
        rw [List.takeWhile_cons_of_pos (by decide), List.length_cons]
      rcases cut_twp (45 :: r) with ⟨h1, h2⟩ | ⟨h1, h2⟩ <;> rcases cut_twp r with ⟨k1, k2⟩ | ⟨k1, k2⟩ <;> rw [h2] <;> simp only [if_true] <;> rw [k2]
      · rw [e]; rfl
      · exfalso
        rw [e, List.length_cons] at h1
        omega
      · exfalso
        rw [e, List.length_cons] at h1
        omega
def zD (l : List UInt8) : Int := (qD l * (((10 : Int) ^ 3 : Int) : Rat)).num
def g3D (l : List UInt8) : Bool := decide ((frD l).length ≤ 3)
def fmE (o g k : Bool) : Int := if o && g then (if k then 0 else 11) else 2
def fmV (l : List UInt8) : Value := .tuple #[.int .i64 (if okD l && g3D l && gridB (zD l) then zD l else 0), .int .i64 (fmE (okD l) (g3D l) (gridB (zD l)))]
def RetFm (l : List UInt8) (w : World) (e : Ending) (w' : World) : Prop := e = .returned (fmV l) ∧ Ext w w'
theorem zD_int {l : List UInt8} (h : g3D l = true) : qD l * (((10 : Int) ^ 3 : Int) : Rat) = ((zD l : Int) : Rat) := by
  have hk := of_decide_eq_true h
  obtain ⟨k, hk'⟩ : ∃ k, k = (frD l).length := ⟨_, rfl⟩
  rw [← hk'] at hk
  have e : qD l * (((10 : Int) ^ 3 : Int) : Rat) = ((sgD l * (10 : Int) ^ (3 - k) : Int) : Rat) := by
    unfold qD
    rw [← hk', Rat.divInt_eq_div]
    have h10 : (((10 : Int) ^ k : Int) : Rat) ≠ 0 := by
      intro e
      have e2 : ((10 : Int) ^ k) = 0 := Rat.intCast_inj.1 (by rw [e]; rfl)
      exact Int.ne_of_gt (Int.pow_pos (by decide)) e2
    have h3 : ((10 : Int) ^ 3) = (10 : Int) ^ k * (10 : Int) ^ (3 - k) := by rw [← Int.pow_add]; congr 1; omega
    rw [h3, Rat.intCast_mul, Rat.intCast_mul]
    grind
  unfold zD
  rw [e, Rat.num_intCast]
def cSc3 : List AV → Bool
  | [.val true [.int (.var 4) l, .int (.var 5) m], .val false [.n .i64 (.lit 3)]] => decide (l ≤ 9000) && decide (m ≤ 9000)
  | _ => false
noncomputable def tabFm (o k : Bool) : List (Nat × Con) :=
  (11, kKq (cStr 1) (if o then rPd else rBd) kNoQ) ::
  (46, kKq (cStrL 1 [46]) (.tup [(false, [.str (.var 2) 65536]), (false, [.str (.var 3) 65536]), (false, [.b (.var 1)])]) kNoQ) ::
  (37, kKq cSc3 (.val true [.int (.var 6) 90000, .int (.var 7) 90000]) kNoQ) ::
  (62, kKq (fun args => cI6 (.var 6) args && limI args) (.tup [(false, [.n .i64 (.var 8)]), (false, [.b (.lit k)])]) kNoQ) :: []
def isFm (o g k : Bool) : Option Tree → Bool
  | some (.leaf [(false, [.n .i64 x]), (false, [.n .i64 (.lit e)])]) => e == fmE o g k && x.beq (if o && g && k then .var 8 else .lit 0)
  | _ => false
def aS1 : AV := .val false [.str (.var 1) 65536]
theorem fm_walk : (bools.all fun o => bools.all fun g => bools.all fun k => isFm o g k (funE (cfgW WQ (tabFm o k)) Tryz.f22 [(.lt (.lit 3) (.slen 3), !g)] [aS1])) = true := by kernel_rfl
def flT3 : IT := .a2 4 (qop 2 (qI 4) (.lit ((10 : Int) ^ 3), .lit 1)).1 (qop 2 (qI 4) (.lit ((10 : Int) ^ 3), .lit 1)).2
noncomputable def tabFr (o k : Bool) (p : Int) : List (Nat × Con) :=
  (63, kKq (cStr 1) (rNq p) kNoQ) :: (64, kKq (cStr 1) (if o then rPd else rBd) kNoQ) ::
  (14, kKq (cLitN 3) (.val true [.int (.lit ((10 : Int) ^ 3)) 1000, .int (.lit 1) 1000]) kNoQ) ::
  (42, kFlR) :: (65, kKq (fun args => cI6 flT3 args && limI args) (.tup [(false, [.n .i64 (.var 8)]), (false, [.b (.lit k)])]) kNoQ) :: tabT
def ps6 : List Int := -1 :: (List.range 31).map Int.ofNat
def isPs (p : Int) : Bool × Bool := (decide (0 ≤ p), decide (p ≤ 3))
theorem fr_walk : (ps6.all fun p => bools.all fun k => isFm (isPs p).1 (isPs p).2 k (funE (cfgW WQ (tabFr (isPs p).1 k p)) Tryz.f24 [] [aS1])) = true := by kernel_rfl
theorem fr_le {l : List UInt8} (ho : okD l = true) : (frD l).length ≤ 30 := by
  unfold okD at ho
  rw [Bool.and_eq_true] at ho
  have h := ho.1
  unfold vPd at h
  rw [Bool.and_eq_true] at h
  cases hpt : ptD l with
  | false => rw [fr_nopt l hpt]; simp
  | true =>
    rw [hpt] at h
    have h2 : fOK l = true := by simpa using h.2
    unfold fOK at h2
    rw [Bool.and_eq_true, decide_eq_true_iff] at h2
    exact h2.2
theorem pd_known {E : Env} {l : List UInt8} (h65 : l.length ≤ 65536) (s1 : E.s 1 = l) (i4 : E.i 4 = (qD l).num) (i5 : E.i 5 = ((qD l).den : Int)) {f : Nat} (hf : ∀ w, WQ w → Calls Tryz.prog f #[.string ⟨l.toArray⟩] w (RetPd l w)) (hb : ∃ fn, Tryz.prog.funcs[f]? = some fn ∧ fn.name ≠ "runtime.NumGoroutine" ∧ fn.body.isNone = false) : ConW Tryz.prog WQ E f (kKq (cStr 1) (if okD l then rPd else rBd) kNoQ) := by
  have np : ∀ x off, (if okD l then rPd else rBd) ≠ .ptr x off := by
    intro x off
    split <;> intro e <;> cases e
  refine strW_ok np hb fun w hW => ?_
  rw [s1]
  refine (hf w hW).mono ?_
  rintro e w' ⟨v, rfl, hv, ex⟩
  refine ⟨_, rfl, fun β => ?_, ex⟩
  cases ho : okD l with
  | true =>
    rw [ho] at hv
    have lq := qd_lim h65 ho
    obtain ⟨a, b, c, d, rfl, j1, j2⟩ := hv
    refine ⟨[.agg #[a, b, c, d], .int .i64 _], rfl, _, _, rfl, ⟨[a, b, c, d], rfl, [a, b], [c, d], rfl, ⟨a, b, rfl, ?_, ?_⟩, [c, d], [], rfl, ⟨c, d, rfl, ?_, ?_⟩, rfl⟩, _, _, rfl, one_num.2 rfl, rfl⟩
    · show IsInt w' _ (E.i 4); rw [i4]; exact j1
    · show Lim 8000 (E.i 4); rw [i4]; exact lq.1
    · show IsInt w' _ (E.i 5); rw [i5]; exact j2
    · show Lim 8000 (E.i 5); rw [i5]; exact lq.2
  | false =>
    rw [ho] at hv
    obtain ⟨a, b, c, d, rfl, j1, j2⟩ := hv
    exact ⟨[.agg #[a, b, c, d], .int .i64 _], rfl, _, _, rfl, ⟨[a, b, c, d], rfl, [a, b], [c, d], rfl, ⟨a, b, rfl, j1, lim_zero⟩, [c, d], [], rfl, ⟨c, d, rfl, j2, lim_zero⟩, rfl⟩, _, _, rfl, one_num.2 rfl, rfl⟩
theorem ml_known {E : Env} {f : Bool} {t : IT} {z : Int} (ht : t.den E = z) (h8 : E.i 8 = mlV f z) : KnownR E (mlN f) (fun args => cI6 t args && limI args) (.tup [(false, [.n .i64 (.var 8)]), (false, [.b (.lit (gridB z))])]) := by
  refine ⟨fun args ha β w vs hv hl => ?_, fun x off e => by cases e⟩
  rw [Bool.and_eq_true] at ha
  obtain ⟨ha, hlm⟩ := ha
  unfold cI6 at ha
  split at ha
  · have e1 := IT.eq_of_beq ha
    subst e1
    obtain ⟨v, rfl, h1⟩ := args1 hv hl
    obtain ⟨k1, k2⟩ := one_int.1 h1
    rw [ht] at k1 k2
    simp only [limI, decide_eq_true_iff] at hlm
    refine (ml_calls f w v z k1 (k2.mono hlm)).mono ?_
    rintro e w' ⟨rfl, ex⟩
    exact ⟨_, rfl, fun β => ⟨[_, _], rfl, _, _, rfl, one_num.2 (by rw [← h8]; rfl), _, _, rfl, one_bool.2 rfl, rfl⟩, ex⟩
  · cases ha
theorem fm_out {E : Env} {β : Nat → Nat} {w : World} {o g k : Bool} {v : Value} {z : Int} {T : Tree} (h : isFm o g k (some T) = true) (hh : (toAV (T.pick E)).holds E β w v) (h8 : (o && g && k) = true → E.i 8 = z) : v = .tuple #[.int .i64 (if o && g && k then z else 0), .int .i64 (fmE o g k)] := by
  unfold isFm at h
  split at h
  · rename_i x e hT
    injection hT with hT
    subst hT
    rw [Bool.and_eq_true, beq_iff_eq] at h
    obtain ⟨rfl, hx⟩ := h
    have e1 := IT.eq_of_beq hx
    subst e1
    obtain ⟨vs, rfl, u1, r1, rfl, k1, u2, r2, rfl, k2, hn⟩ := hh
    simp only [tupAll] at hn
    subst hn
    have k1' := one_num.1 k1
    have k2' := one_num.1 k2
    subst k1' k2'
    have e2 : (if o && g && k then IT.var 8 else IT.lit 0).den E = if o && g && k then z else 0 := by
      split
      · rename_i hc; exact h8 hc
      · rfl
    rw [e2]
    rfl
  · cases h
theorem grid_ml {f : Bool} {z : Int} (h : gridB z = true) : mlV f z = z := by
  unfold mlV
  rw [h, Bool.not_true, Bool.and_false, if_neg (by decide)]
  unfold gridB at h
  rw [Bool.and_eq_true, decide_eq_true_iff, decide_eq_true_iff] at h
  exact (i64_in (by omega) (by omega)).1
theorem q10_lim : LimQ 9000 (((10 : Int) ^ 3 : Int) : Rat) := limB_ok (by decide +kernel)
theorem fromM_calls (w : World) (hW : WQ w) (l : List UInt8) (h65 : l.length ≤ 65536) : Calls Tryz.prog 22 #[.string ⟨l.toArray⟩] w (RetFm l w) := by
  obtain ⟨E, hE⟩ : ∃ E, E = sQE [[], l, (Lib.cut l [46]).1, (Lib.cut l [46]).2.1] [0, 0, qD l, qD l * (((10 : Int) ^ 3 : Int) : Rat), ((mlV true (zD l) : Int) : Rat)] [false, (Lib.cut l [46]).2.2] := ⟨_, rfl⟩
  have s1 : E.s 1 = l := by rw [hE]; rfl
  have s2 : E.s 2 = (Lib.cut l [46]).1 := by rw [hE]; rfl
  have s3 : E.s 3 = (Lib.cut l [46]).2.1 := by rw [hE]; rfl
  have b1 : E.b 1 = (Lib.cut l [46]).2.2 := by rw [hE]; rfl
  have r4 : RepQ E (qI 4) (qD l) := by rw [hE]; exact ⟨rfl, rfl⟩
  have r6 : RepQ E (qI 6) (qD l * (((10 : Int) ^ 3 : Int) : Rat)) := by rw [hE]; exact ⟨rfl, rfl⟩
  have e8 : E.i 8 = mlV true (zD l) := by rw [hE]; exact qE_int (i := 4) (l := [0, 0, qD l, qD l * (((10 : Int) ^ 3 : Int) : Rat), ((mlV true (zD l) : Int) : Rat)]) rfl
  have hT : TabW Tryz.prog WQ E (tabFm (okD l) (gridB (zD l))) := by
    refine .cons (pd_known h65 s1 r4.1 r4.2 (fun w hW => dparse_calls w hW l h65) ⟨_, Tryz.func11, by decide +kernel, by kernel_rfl⟩) <|
      .cons (cutW_ok s1 h65 s2 s3 b1) <|
      .cons (kKr_ok ⟨fun args ha β w vs hv hl => ?_, fun x off e => by cases e⟩ (kNoQ_ok ⟨_, Tryz.func37, by decide +kernel, by kernel_rfl⟩)).toW <|
      .cons (kKr_ok (ml_known (f := true) (t := .var 6) r6.1 e8) (kNoQ_ok ⟨_, Tryz.func62, by decide +kernel, by kernel_rfl⟩)).toW .nil
    unfold cSc3 at ha
    split at ha
    · simp only [Bool.and_eq_true, decide_eq_true_iff] at ha
      obtain ⟨v, u, rfl, h1, h2⟩ := args2 hv hl
      have h2' := one_num.1 h2
      subst h2'
      obtain ⟨k1, k2, k3⟩ := (one_q (A := qI 4) r4).1 h1
      have lq : LimQ 9000 (qD l) := ⟨k2.mono ha.1, k3.mono ha.2⟩
      refine (scaled_calls w v (qD l) 3 (by omega) k1 lq).mono ?_
      rintro e w' ⟨x, rfl, hx, ex⟩
      have ls := (lq.mulQ q10_lim).mono (show 4 * 9000 + 1 ≤ 90000 by omega)
      exact ⟨x, rfl, fun β => (one_q (A := qI 6) r6).2 ⟨hx, ls.1, ls.2⟩, ex⟩
    · cases ha
  have hG : Asm.holds E [(.lt (.lit 3) (.slen 3), !g3D l)] := asm_and (by
    show decide ((3 : Int) < ((E.s 3).length : Int)) = !g3D l
    rw [s3, fr_cut]
    unfold g3D
    rw [Bool.eq_iff_iff]
    simp
    omega) asm_nil
  have hWk := List.all_eq_true.1 (List.all_eq_true.1 (List.all_eq_true.1 fm_walk (okD l) (bools_mem _)) (g3D l) (bools_mem _)) (gridB (zD l)) (bools_mem _)
  cases hTe : funE (cfgW WQ (tabFm (okD l) (gridB (zD l)))) Tryz.f22 [(.lt (.lit 3) (.slen 3), !g3D l)] [aS1] with
  | none => rw [hTe] at hWk; cases hWk
  | some T =>
    rw [hTe] at hWk
    refine (fun_sound mixed (cfgW_ok hT) hG Tryz.func22 (by decide +kernel) hTe (by decide +kernel) rfl w [.string ⟨l.toArray⟩] rfl (fun i x hx => ?_) (fun w' e => hW.ext e)).mono ?_
    · match i, hx with
      | 0, hx => injection hx with hx; subst hx; exact ⟨fun _ => 0, _, rfl, one_str.2 ⟨by show _ = Value.string ⟨(E.s 1).toArray⟩; rw [s1], by show (E.s 1).length ≤ _; rw [s1]; exact h65⟩⟩
    · rintro e w' ⟨β, v, rfl, hh, ex⟩
      rw [fm_out hWk hh (z := zD l) (fun hc => by
        rw [e8]
        simp only [Bool.and_eq_true] at hc
        exact grid_ml hc.2)]
      exact ⟨rfl, ex⟩
theorem rfromM_calls (w : World) (l : List UInt8) (h65 : l.length ≤ 65536) (hW : WQ w) : Calls Tryz.prog 24 #[.string ⟨l.toArray⟩] w (RetFm l w) := by
  obtain ⟨Q, hQ⟩ : ∃ Q, Q = qD l * (((10 : Int) ^ 3 : Int) : Rat) := ⟨_, rfl⟩
  obtain ⟨z, hz⟩ : ∃ z, z = dq Q.num (Q.den : Int) := ⟨_, rfl⟩
  obtain ⟨E, hE⟩ : ∃ E, E = sQE [[], l] [0, 0, qD l, 0, ((mlV false z : Int) : Rat)] [] := ⟨_, rfl⟩
  have hQE : QEnv E := by rw [hE]; exact sQE_ok _ _ _
  have s1 : E.s 1 = l := by rw [hE]; rfl
  have r4 : RepQ E (qI 4) (qD l) := by rw [hE]; exact ⟨rfl, rfl⟩
  have e8 : E.i 8 = mlV false z := by rw [hE]; exact qE_int (i := 4) (l := [0, 0, qD l, 0, ((mlV false z : Int) : Rat)]) rfl
  have rQ : RepQ E (qop 2 (qI 4) (.lit ((10 : Int) ^ 3), .lit 1)) Q := by rw [hQ]; exact rep_mul r4 (p10_rep 3)
  have hfl : flT3.den E = z := by
    rw [hz]
    show dq ((qop 2 (qI 4) (.lit ((10 : Int) ^ 3), .lit 1)).1.den E) ((qop 2 (qI 4) (.lit ((10 : Int) ^ 3), .lit 1)).2.den E) = _
    rw [rQ.1, rQ.2]
  obtain ⟨p, hp⟩ : ∃ p, p = plD l := ⟨_, rfl⟩
  have hp' := hp
  rw [pl_eq l h65] at hp'
  have hpm : p ∈ ps6 := by
    rw [hp']
    unfold ps6
    split
    · rename_i ho
      exact List.mem_cons_of_mem _ (List.mem_map.2 ⟨_, List.mem_range.2 (by have := fr_le ho; omega), rfl⟩)
    · exact List.mem_cons_self
  have hps : (isPs p).1 = okD l ∧ (okD l = true → (isPs p).2 = g3D l) := by
    rw [hp']
    cases ho : okD l with
    | true =>
      rw [if_pos rfl]
      refine ⟨decide_eq_true (p := (0 : Int) ≤ ((frD l).length : Int)) (by omega), fun _ => ?_⟩
      show decide (((frD l).length : Int) ≤ 3) = decide ((frD l).length ≤ 3)
      rw [decide_eq_decide]; omega
    | false =>
      rw [if_neg (by simp)]
      exact ⟨rfl, fun h => by cases h⟩
  have hT : TabW Tryz.prog WQ E (tabFr (isPs p).1 (gridB z) p) := by
    rw [hps.1]
    refine .cons (kKr_ok (str1_known (fun x off e => by cases e) fun w => ?_) (kNoQ_ok ⟨_, Tryz.func63, by decide +kernel, by kernel_rfl⟩)).toW <|
      .cons (pd_known h65 s1 r4.1 r4.2 (fun w _ => rparseD_calls w l h65) ⟨_, Tryz.func64, by decide +kernel, by kernel_rfl⟩) <|
      .cons (kKr_ok ⟨fun args ha β w vs hv hl => ?_, fun x off e => by cases e⟩ (kNoQ_ok ⟨_, Tryz.func14, by decide +kernel, by kernel_rfl⟩)).toW <|
      .cons (kFlR_ok hQE).toW <| .cons (kKr_ok (ml_known (f := false) hfl e8) (kNoQ_ok ⟨_, Tryz.func65, by decide +kernel, by kernel_rfl⟩)).toW (tabT_ok hQE).toW
    · rw [s1]
      refine (places_calls w l h65).mono ?_
      rintro e w' ⟨rfl, rfl⟩
      exact ⟨_, rfl, fun β => one_num.2 (by rw [hp]; rfl), Ext.refl _⟩
    · unfold cLitN at ha
      split at ha
      · rw [beq_iff_eq] at ha
        subst ha
        obtain ⟨v, rfl, h1⟩ := args1 hv hl
        have h1' := one_num.1 h1
        subst h1'
        refine (rpower_calls w 3 (by omega)).mono ?_
        rintro e w' ⟨v, rfl, ⟨h1, h2⟩, ex⟩
        exact ⟨v, rfl, fun β => one_pair.2 ⟨h1, h2, (lim1 (z := 1) (by decide)).mono (by omega)⟩, ex⟩
      · cases ha
  have hWk := List.all_eq_true.1 (List.all_eq_true.1 fr_walk p hpm) (gridB z) (bools_mem _)
  have hzD : (okD l && g3D l) = true → z = zD l := by
    intro h
    rw [Bool.and_eq_true] at h
    have := zD_int h.2
    rw [← hQ] at this
    rw [hz, this, Rat.num_intCast, Rat.den_intCast]
    exact dq_one _
  cases hTe : funE (cfgW WQ (tabFr (isPs p).1 (gridB z) p)) Tryz.f24 [] [aS1] with
  | none => rw [hTe] at hWk; cases hWk
  | some T =>
    rw [hTe] at hWk
    refine (fun_sound mixed (cfgW_ok hT) no_asm Tryz.func24 (by decide +kernel) hTe (by decide +kernel) rfl w [.string ⟨l.toArray⟩] rfl (fun i x hx => ?_) (fun w' e => hW.ext e)).mono ?_
    · match i, hx with
      | 0, hx => injection hx with hx; subst hx; exact ⟨fun _ => 0, _, rfl, one_str.2 ⟨by show _ = Value.string ⟨(E.s 1).toArray⟩; rw [s1], by show (E.s 1).length ≤ _; rw [s1]; exact h65⟩⟩
    · rintro e w' ⟨β, v, rfl, hh, ex⟩
      rw [fm_out hWk hh (z := z) (fun hc => by
        rw [e8]
        simp only [Bool.and_eq_true] at hc
        exact grid_ml hc.2)]
      refine ⟨congrArg Ending.returned ?_, ex⟩
      unfold fmV
      rw [hps.1]
      cases ho : okD l with
      | false => rfl
      | true =>
        rw [hps.2 ho]
        cases hg : g3D l with
        | false => rfl
        | true => rw [hzD (by rw [ho, hg]; rfl)]
noncomputable def tabLf (e : Int) : List (Nat × Con) := (7, kAw6) :: (22, kKq (cStr 0) (.tup [(false, [.n .i64 (.var 8)]), (false, [.n .i64 (.lit e)])]) kNoQ) :: (24, kKq (cStr 0) (.tup [(false, [.n .i64 (.var 8)]), (false, [.n .i64 (.lit e)])]) kNoQ) :: []
theorem lf_walk : ([0, 11, 2].all fun e => okL6 (funE (cfgW WQ (tabLf e)) Tryz.f6 [(.lt (.lit 200) (.slen 0), false)] [aStr])) = true := by kernel_rfl
theorem lf_long : okL6 (funE (cfgW WQ [(7, kAw6)]) Tryz.f6 [(.lt (.lit 200) (.slen 0), true)] [aStr]) = true := by kernel_rfl
theorem fmE_mem (o g k : Bool) : fmE o g k ∈ [0, 11, 2] := by cases o <;> cases g <;> cases k <;> decide
theorem decimalFrom_calls (w : World) (hw : WQ w) (s : ByteArray) (hs : s.size ≤ 9223372036854775807) : Calls Tryz.prog 6 #[.string s] w (IsT w) := by
  obtain ⟨l, hl⟩ : ∃ l, l = s.data.toList := ⟨_, rfl⟩
  have hsl : s = ⟨l.toArray⟩ := by rw [hl]
  have hll : l.length = s.size := by rw [hl, bytes_len]
  rw [hsl]
  obtain ⟨n, hn⟩ : ∃ n, n = (if okD l && g3D l && gridB (zD l) then zD l else 0) := ⟨_, rfl⟩
  obtain ⟨E, hE⟩ : ∃ E, E = sE [l] [0, 0, 0, 0, 0, 0, 0, 0, n] [] := ⟨_, rfl⟩
  have s0 : E.s 0 = l := by rw [hE]; rfl
  have i8 : E.i 8 = n := by rw [hE]; rfl
  have ar : ∀ (i : Nat) (x : AV), [aStr][i]? = some x → ∃ v, [Value.string ⟨l.toArray⟩][i]? = some v ∧ ∀ β, x.holds E β w v := by
    intro i x hx
    match i, hx with
    | 0, hx => injection hx with hx; subst hx; exact ⟨_, rfl, fun β => one_str.2 ⟨by show _ = Value.string ⟨(E.s 0).toArray⟩; rw [s0], by show (E.s 0).length ≤ _; rw [s0]; omega⟩⟩
  by_cases h200 : 200 < l.length
  · refine law6_calls (E := E) (.cons kAw6_ok .nil) (asm_and ?_ asm_nil) Tryz.func6 (by decide +kernel) lf_long (by decide +kernel) rfl w hw [_] rfl ar
    show decide ((200 : Int) < ((E.s 0).length : Int)) = true
    rw [s0, decide_eq_true_iff]; omega
  · have h65 : l.length ≤ 65536 := by omega
    have both : ∀ (f : Nat), (∀ w, WQ w → Calls Tryz.prog f #[.string ⟨l.toArray⟩] w (RetFm l w)) → ∀ w, WQ w → Calls Tryz.prog f #[.string ⟨(E.s 0).toArray⟩] w fun e w' => ∃ x, e = .returned x ∧ (∀ β, (AV.tup [(false, [.n .i64 (.var 8)]), (false, [.n .i64 (.lit (fmE (okD l) (g3D l) (gridB (zD l))))])]).holds E β w' x) ∧ Ext w w' := by
      intro f hf w hW
      rw [s0]
      refine (hf w hW).mono ?_
      rintro e w' ⟨rfl, ex⟩
      exact ⟨_, rfl, fun β => ⟨[_, _], rfl, _, _, rfl, one_num.2 (by show _ = Value.int .i64 (E.i 8); rw [i8, hn]), _, _, rfl, one_num.2 rfl, rfl⟩, ex⟩
    have hT : TabW Tryz.prog WQ E (tabLf (fmE (okD l) (g3D l) (gridB (zD l)))) :=
      .cons kAw6_ok <| .cons (strW_ok (fun x off e => by cases e) ⟨_, Tryz.func22, by decide +kernel, by kernel_rfl⟩ (both _ fun w hW => fromM_calls w hW l h65)) <|
      .cons (strW_ok (fun x off e => by cases e) ⟨_, Tryz.func24, by decide +kernel, by kernel_rfl⟩ (both _ fun w hW => rfromM_calls w l h65 hW)) .nil
    refine law6_calls hT (asm_and ?_ asm_nil) Tryz.func6 (by decide +kernel) (List.all_eq_true.1 lf_walk _ (fmE_mem _ _ _)) (by decide +kernel) rfl w hw [_] rfl ar
    show decide ((200 : Int) < ((E.s 0).length : Int)) = false
    rw [s0, decide_eq_false_iff_not]; omega
end Go.Proofs.YtnejcdjakjmklaaGreatDoor
end

section
set_option maxRecDepth 100000
namespace Go.Proofs.YtnejcdjakjmklaaGreatDoor
open Go.RowKit Go.Shelf
theorem negL_head (s : ByteArray) (h : 0 < s.size) : negL s.data.toList = ((s[0].toNat : Int) == 45) := by
  cases hl : s.data.toList with
  | nil => have := bytes_len s; rw [hl] at this; simp at this; omega
  | cons c r =>
    have h0 : s[0] = c := by
      have : s.data.toList[0]'(by rw [hl]; simp) = c := by simp [hl]
      exact this
    rw [(negL_cons c r).1, h0, Bool.eq_iff_iff, beq_iff_eq, beq_iff_eq]
    constructor
    · intro h; rw [h]; rfl
    · intro h; exact UInt8.toNat_inj.1 (by show c.toNat = 45; omega)
theorem digL_tail (s : ByteArray) (h : negL s.data.toList = true) (h0 : 0 < s.size) : (s.extract 1 s.size).data.toList = digL s.data.toList := by
  cases hl : s.data.toList with
  | nil => have := bytes_len s; rw [hl] at this; simp at this; omega
  | cons c r =>
    rw [hl] at h
    rw [(negL_cons c r).1] at h
    have hr := (negL_cons c r).2
    rw [hr, h, if_pos rfl, ByteArray.data_extract, Array.toList_extract, List.extract_eq_take_drop, hl]
    have : s.size = r.length + 1 := by have := bytes_len s; rw [hl] at this; simpa using this.symm
    simp [this]
theorem digL_same (s : ByteArray) (h : negL s.data.toList = false) : digL s.data.toList = s.data.toList := by
  cases hl : s.data.toList with
  | nil => rfl
  | cons c r =>
    rw [hl, (negL_cons c r).1] at h
    rw [(negL_cons c r).2, h]
    rfl
def shR (l D : List UInt8) (d : Nat) : Prop := ∃ j : Nat, l = List.replicate j 48 ++ D ∧ (l.length ≤ d + 1 ∨ j = 0)
theorem shR_end {l D : List UInt8} {d : Nat} (h : shR l D d) (hd : d < l.length) : l = padL D d := by
  obtain ⟨j, rfl, h2⟩ := h
  rw [List.length_append, List.length_replicate] at h2 hd
  unfold padL
  congr 2
  omega
theorem shR_step {l D : List UInt8} {d : Nat} (h : shR l D d) (hd : l.length ≤ d) : shR (48 :: l) D d := by
  obtain ⟨j, rfl, h2⟩ := h
  exact ⟨j + 1, rfl, .inl (by rw [List.length_cons]; omega)⟩
theorem wpL_zero (l : List UInt8) : wpL l 0 = l := rfl
theorem neg_dig (l : List UInt8) : (if negL l then [45] else []) ++ digL l = l := by
  cases l with
  | nil => rfl
  | cons c r =>
    rw [(negL_cons c r).1, (negL_cons c r).2]
    cases h : (c == 45) with
    | true => have : c = 45 := by simpa using h
              subst this; rfl
    | false => rfl
theorem dig_of (u : Nat) (h : u < 10) : digB (UInt8.ofNat (48 + u)) = true := by
  have : ∀ u, u < 10 → digB (UInt8.ofNat (48 + u)) = true := by decide
  exact this u h
theorem dec_dig (u : Nat) : ∀ c ∈ Lib.decDigits u, digB c = true := by
  induction u using Nat.strongRecOn with
  | ind u ih =>
    intro c hc
    rw [Lib.decDigits] at hc
    split at hc
    · rename_i h
      simp only [List.mem_singleton] at hc
      subst hc
      exact dig_of u h
    · rename_i h
      rcases List.mem_append.1 hc with hc | hc
      · exact ih (u / 10) (by omega) c hc
      · simp only [List.mem_singleton] at hc
        subst hc
        exact dig_of (u % 10) (by omega)
theorem itoa_parts (z : Int) : negL (Lib.itoa z) = decide (z < 0) ∧ digL (Lib.itoa z) = Lib.decDigits z.natAbs := by
  by_cases h : z < 0
  · have e : Lib.itoa z = 45 :: Lib.decDigits z.natAbs := by unfold Lib.itoa; rw [if_pos h]
    rw [e, (negL_cons _ _).1, (negL_cons _ _).2, decide_eq_true h]
    exact ⟨rfl, rfl⟩
  · have e : Lib.itoa z = Lib.decDigits z.natAbs := by unfold Lib.itoa; rw [if_neg h]; congr 1; omega
    rw [e, decide_eq_false h]
    have hd := Lib.decDigits_eq z.natAbs
    cases hl : Lib.decDigits z.natAbs with
    | nil => exact ⟨rfl, rfl⟩
    | cons c r =>
      have hc : c ≠ 45 := by
        have := dec_dig z.natAbs c (by rw [hl]; simp)
        intro e
        subst e
        revert this
        decide
      rw [(negL_cons _ _).1, (negL_cons _ _).2, beq_eq_false_iff_ne.2 hc]
      exact ⟨rfl, rfl⟩
theorem dec_pos (u : Nat) : 0 < (Lib.decDigits u).length := by
  rw [Lib.decDigits]
  split <;> simp
theorem shown_calls (w : World) (v : Value) (z : Int) (d : Nat) (hd : d ≤ 30) (hv : IsInt w v z) (l : Lim 1000 z) (S : ByteArray) (hS : Hid (S.data.toList = Lib.itoa z)) (hSs : S.size ≤ 20000) (hS0 : 0 < S.size) (hDn : 0 < (digL S.data.toList).length) : Calls Tryz.prog 41 #[v, .int .i64 (d : Int)] w fun e w' => e = .returned (.string ⟨(wpL S.data.toList d).toArray⟩) ∧ Ext w w' := by
  have hv0 := hv
  obtain ⟨ao, cap, s, n, rfl, h1, h2, h3, H4, H5, H6⟩ := hv.open_
  clear h1 h2 h3 H4 H5 H6 hv
  obtain ⟨W, hW, eW, c0, c1⟩ := box1 w (.bool s) (.slice ao (limbs n).length cap) 24
  have HI := Lib.hid (hv0.ext eW)
  clear hv0
  go_enter Tryz.func41, Tryz.ntmps41
  go_wp2_with fail
  refine (rformat_calls _ _ z HI.out (l.mono (by omega))).mono ?_
  rintro e w' ⟨rfl, ex⟩
  have hSe : (⟨(Lib.itoa z).toArray⟩ : ByteArray) = S := ByteArray.ext (Array.toList_inj.1 hS.out.symm)
  rw [hSe]
  have exW : Ext w w' := eW.trans ex
  have HX := Lib.hid exW
  clear exW ex eW hSe HI
  have fin : ∀ (b : Bool) (A D T : ByteArray), negL S.data.toList = b → A.data.toList = (if b then [45] else []) → D.data.toList = digL S.data.toList → shR T.data.toList D.data.toList d → d < T.size → (d = 0 → A ++ T = ⟨(wpL S.data.toList d).toArray⟩) ∧ (∀ n m, n = T.size - d → m = T.size → 0 < d → A ++ T.extract 0 n ++ ⟨#[46]⟩ ++ T.extract n m = ⟨(wpL S.data.toList d).toArray⟩) := by
    intro b A D T hb hA hD hR hT
    have hl := shR_end hR (by rw [bytes_len]; exact hT)
    constructor
    · intro h0
      subst h0
      refine ByteArray.ext (Array.toList_inj.1 ?_)
      rw [ByteArray.data_append, Array.toList_append, hA, hl]
      show _ = wpL S.data.toList 0
      rw [wpL_zero]
      have : padL D.data.toList 0 = D.data.toList := by
        have hp : 0 < (padL D.data.toList 0).length := by rw [← hl, bytes_len]; exact hT
        unfold padL at hp ⊢
        cases hD2 : D.data.toList with
        | nil => rw [← hD, hD2] at hDn; simp at hDn
        | cons c r => simp
      rw [this, hD, ← hb]
      exact neg_dig _
    · intro n m hn hm h0
      rw [point_eq A T n m hm, hA, hn, hl]
      have hd0 : ¬ d = 0 := by omega
      unfold wpL pointL
      rw [if_neg hd0, hb, ← hD, ← hl, bytes_len]
  have HF := Lib.hid fin
  clear fin
  have key : ∀ (b : Bool), negL S.data.toList = b → ((S[0].toNat : Int) == 45) = b := by
    intro b hb
    rw [← negL_head S hS0, hb]
  have dl := digL_len S.data.toList
  rw [bytes_len] at dl
  cases hb : negL S.data.toList with
  | true =>
    have g45 := key true hb
    have HD := Lib.hid (digL_tail S hb hS0)
    obtain ⟨D, hD⟩ : ∃ D, D = S.extract 1 S.size := ⟨_, rfl⟩
    rw [← hD] at HD
    have hDs : D.size ≤ 20000 := by rw [← bytes_len, HD.out]; omega
    clear key dl hDn
    have HB := Lib.hid hb
    clear hb
    go_wp2
    go_quiet (fail)
    go_wp2
    go_loop [5] (fun t => ∃ T : ByteArray, t = .string T ∧ T.size ≤ 20040 ∧ Hid (shR T.data.toList D.data.toList d)) (fun t => match t with | .string T => d + 1 - T.size | _ => 0)
    case atStart => exact ⟨D, by rw [hD], by omega, ⟨0, rfl, .inr rfl⟩⟩
    case round =>
      obtain ⟨T, rfl, hTs, HR⟩ := hrel
      by_cases hlt : T.size ≤ d
      · have hltI : (T.size : Int) ≤ (d : Int) := by omega
        have hov : ¬ 9223372036854775807 < 1 + T.size := by omega
        have HS := Lib.hid (show shR (⟨#[48]⟩ ++ T : ByteArray).data.toList D.data.toList d from by
          have hh := shR_step HR.out (show T.data.toList.length ≤ d by rw [bytes_len]; exact hlt)
          rw [ByteArray.data_append, Array.toList_append]
          exact hh)
        have hsz : (⟨#[48]⟩ ++ T : ByteArray).size = 1 + T.size := ByteArray.size_append
        clear HR
        go_wp2
        go_round
        case rel => exact ⟨_, rfl, by omega, HS⟩
        case measure => show d + 1 - (⟨#[48]⟩ ++ T : ByteArray).size < d + 1 - T.size; omega
      · have hltI : ¬ (T.size : Int) ≤ (d : Int) := by omega
        have HG := Lib.hid (HF.out true ⟨#[45]⟩ D T HB.out rfl HD.out HR.out (by omega))
        clear HR HF
        have hTd : d < T.size := by omega
        rcases Nat.eq_zero_or_pos d with h0 | h0
        · have HE := Lib.hid (HG.out.1 h0)
          clear HG
          have h0I : ((d : Int) == 0) = true := by rw [beq_iff_eq]; omega
          clear h0
          go_wp2
          exact bodyPost_ret (v := .string (⟨#[45]⟩ ++ T)) (by simp [results, Tryz.results41, go_sem]) rfl ⟨congrArg (fun x => Ending.returned (.string x)) HE.out, Ext.drewN HX.out _⟩
        · have HE := Lib.hid (fun n m h1 h2 => HG.out.2 n m h1 h2 h0)
          clear HG
          have h0I : ((d : Int) == 0) = false := by rw [beq_eq_false_iff_ne]; omega
          go_wp2
          go_quiet (fail)
          go_wp2
          go_ret
          exact ⟨congrArg (fun x => Ending.returned (.string x)) (HE.out _ _ rfl rfl), Ext.drewN (Ext.drewN HX.out _) _⟩
  | false =>
    have g45 := key false hb
    obtain ⟨D, hD⟩ : ∃ D, D = S := ⟨_, rfl⟩
    have HD := Lib.hid (show D.data.toList = digL S.data.toList from by rw [hD]; exact (digL_same S hb).symm)
    have hDs : D.size ≤ 20000 := by rw [hD]; exact hSs
    clear key dl hDn
    have HB := Lib.hid hb
    clear hb
    go_wp2
    go_loop [5] (fun t => ∃ T : ByteArray, t = .string T ∧ T.size ≤ 20040 ∧ Hid (shR T.data.toList D.data.toList d)) (fun t => match t with | .string T => d + 1 - T.size | _ => 0)
    case atStart => exact ⟨D, by rw [hD], by omega, ⟨0, rfl, .inr rfl⟩⟩
    case round =>
      obtain ⟨T, rfl, hTs, HR⟩ := hrel
      by_cases hlt : T.size ≤ d
      · have hltI : (T.size : Int) ≤ (d : Int) := by omega
        have hov : ¬ 9223372036854775807 < 1 + T.size := by omega
        have HS := Lib.hid (show shR (⟨#[48]⟩ ++ T : ByteArray).data.toList D.data.toList d from by
          have hh := shR_step HR.out (show T.data.toList.length ≤ d by rw [bytes_len]; exact hlt)
          rw [ByteArray.data_append, Array.toList_append]
          exact hh)
        have hsz : (⟨#[48]⟩ ++ T : ByteArray).size = 1 + T.size := ByteArray.size_append
        clear HR
        go_wp2
        go_round
        case rel => exact ⟨_, rfl, by omega, HS⟩
        case measure => show d + 1 - (⟨#[48]⟩ ++ T : ByteArray).size < d + 1 - T.size; omega
      · have hltI : ¬ (T.size : Int) ≤ (d : Int) := by omega
        have HG := Lib.hid (HF.out false ⟨#[]⟩ D T HB.out rfl HD.out HR.out (by omega))
        clear HR HF
        have hTd : d < T.size := by omega
        rcases Nat.eq_zero_or_pos d with h0 | h0
        · have HE := Lib.hid (HG.out.1 h0)
          clear HG
          have h0I : ((d : Int) == 0) = true := by rw [beq_iff_eq]; omega
          clear h0
          go_wp2
          exact bodyPost_ret (v := .string (⟨#[]⟩ ++ T)) (by simp [results, Tryz.results41, go_sem]) rfl ⟨congrArg (fun x => Ending.returned (.string x)) HE.out, HX.out⟩
        · have HE := Lib.hid (fun n m h1 h2 => HG.out.2 n m h1 h2 h0)
          clear HG
          have h0I : ((d : Int) == 0) = false := by rw [beq_eq_false_iff_ne]; omega
          go_wp2
          go_quiet (fail)
          go_wp2
          go_ret
          exact ⟨congrArg (fun x => Ending.returned (.string x)) (HE.out _ _ rfl rfl), Ext.drewN HX.out _⟩
end Go.Proofs.YtnejcdjakjmklaaGreatDoor
end

section
set_option maxRecDepth 100000
namespace Go.Proofs.YtnejcdjakjmklaaGreatDoor
open Go.RowKit Go.Shelf
def tx (y : Int) (d : Nat) : List UInt8 := wpL (Lib.itoa y) d
def sgX (y : Int) : List UInt8 := if y < 0 then [45] else []
def dgX (y : Int) (d : Nat) : List UInt8 := padL (Lib.decDigits y.natAbs) d
theorem tx_pos (y : Int) {d : Nat} (h : 0 < d) : tx y d = sgX y ++ pointL (dgX y d) d := by
  unfold tx wpL sgX dgX
  rw [if_neg (by omega), (itoa_parts y).1, (itoa_parts y).2]
  by_cases h : y < 0 <;> simp [h]
theorem tx_zero (y : Int) : tx y 0 = sgX y ++ Lib.decDigits y.natAbs := by
  show Lib.itoa y = _
  have := neg_dig (Lib.itoa y)
  rw [(itoa_parts y).1, (itoa_parts y).2] at this
  rw [← this]
  unfold sgX
  by_cases h : y < 0 <;> simp [h]
theorem dec_ten (u : Nat) (h : 0 < u) : Lib.decDigits (10 * u) = Lib.decDigits u ++ [48] := by
  rw [Lib.decDigits, dif_neg (by omega)]
  rw [show 10 * u / 10 = u by omega, show 10 * u % 10 = 0 by omega]
  rfl
theorem dgX_ten (y : Int) (d : Nat) : dgX (10 * y) (d + 1) = dgX y d ++ [48] := by
  unfold dgX padL
  by_cases h : y = 0
  · subst h
    rw [show ((10 : Int) * 0).natAbs = 0 by rfl, show (0 : Int).natAbs = 0 by rfl, Lib.decDigits_one (by omega)]
    show List.replicate (d + 1 + 1 - 1) 48 ++ [48] = List.replicate (d + 1 - 1) 48 ++ [48] ++ [48]
    rw [show d + 1 + 1 - 1 = d + 1 by omega, show d + 1 - 1 = d by omega, List.replicate_succ']
  · rw [show (10 * y).natAbs = 10 * y.natAbs by omega, dec_ten _ (by omega), List.length_append, List.length_singleton, ← List.append_assoc]
    congr 3
    omega
theorem pointL_snoc (P : List UInt8) (c : UInt8) {d : Nat} (h : d ≤ P.length) : pointL (P ++ [c]) (d + 1) = pointL P d ++ [c] := by
  unfold pointL
  rw [List.length_append, List.length_singleton, show P.length + 1 - (d + 1) = P.length - d by omega, List.take_append_of_le_length (by omega), List.drop_append_of_le_length (by omega)]
  simp
theorem dgX_len (y : Int) (d : Nat) : d + 1 ≤ (dgX y d).length := by
  unfold dgX padL
  rw [List.length_append, List.length_replicate]
  omega
theorem sgX_ten (y : Int) : sgX (10 * y) = sgX y := by
  unfold sgX
  by_cases h : y < 0
  · rw [if_pos h, if_pos (by omega)]
  · rw [if_neg h, if_neg (by omega)]
theorem trimR_zero (l : List UInt8) : Lib.trimRightB (l ++ [48]) 48 = Lib.trimRightB l 48 := by
  unfold Lib.trimRightB
  rw [List.reverse_append]
  rfl
theorem trimR_other (l : List UInt8) (c : UInt8) (h : c ≠ 48) : Lib.trimRightB (l ++ [c]) 48 = l ++ [c] := by
  unfold Lib.trimRightB
  rw [List.reverse_append]
  show ((c :: l.reverse).dropWhile _).reverse = _
  rw [List.dropWhile_cons_of_neg (by simpa using h)]
  simp
theorem trimS_point (l : List UInt8) : Lib.trimSuffix (l ++ [46]) [46] = l := by
  unfold Lib.trimSuffix Lib.hasSuffix
  rw [if_pos (by simp)]
  simp
theorem trimS_other (l : List UInt8) (c : UInt8) (h : c ≠ 46) : Lib.trimSuffix (l ++ [c]) [46] = l ++ [c] := by
  unfold Lib.trimSuffix Lib.hasSuffix
  rw [if_neg]
  intro hs
  have := List.isSuffixOf_iff_suffix.1 hs
  obtain ⟨t, ht⟩ := this
  have h2 := List.append_inj_right' ht rfl
  injection h2 with h2
  exact h h2.symm
theorem dgX_zero (y : Int) : dgX y 0 = Lib.decDigits y.natAbs := by
  unfold dgX padL
  have := dec_pos y.natAbs
  rw [show 0 + 1 - (Lib.decDigits y.natAbs).length = 0 by omega]
  rfl
theorem shL_step (y : Int) {d : Nat} (h : 0 < d) : shL (tx (10 * y) (d + 1)) = shL (tx y d) := by
  unfold shL
  rw [tx_pos _ (by omega), tx_pos _ h, sgX_ten, dgX_ten, pointL_snoc _ _ (by have := dgX_len y d; omega), ← List.append_assoc, trimR_zero]
theorem shL_one (y : Int) : shL (tx (10 * y) 1) = tx y 0 := by
  unfold shL
  rw [tx_pos _ (by omega), sgX_ten, show (1 : Nat) = 0 + 1 by rfl, dgX_ten, pointL_snoc _ _ (by omega), ← List.append_assoc, trimR_zero]
  have e : pointL (dgX y 0) 0 = dgX y 0 ++ [46] := by unfold pointL; simp
  rw [e, ← List.append_assoc, trimR_other _ _ (by decide), trimS_point, dgX_zero, tx_zero]
theorem dec_last (u : Nat) : ∃ l, Lib.decDigits u = l ++ [UInt8.ofNat (48 + u % 10)] := by
  rw [Lib.decDigits]
  split
  · rename_i h
    exact ⟨[], by rw [Nat.mod_eq_of_lt h]; rfl⟩
  · exact ⟨_, rfl⟩
theorem dig_ne (k : Nat) (h : k < 10) : UInt8.ofNat (48 + k) ≠ 46 ∧ (k ≠ 0 → UInt8.ofNat (48 + k) ≠ 48) := by
  have : ∀ k, k < 10 → UInt8.ofNat (48 + k) ≠ 46 ∧ (k ≠ 0 → UInt8.ofNat (48 + k) ≠ 48) := by decide
  exact this k h
theorem shL_last {y : Int} {d : Nat} (h : 0 < d) (hy : y % 10 ≠ 0) : shL (tx y d) = tx y d := by
  obtain ⟨l, hl⟩ := dec_last y.natAbs
  have hk : y.natAbs % 10 ≠ 0 := by omega
  obtain ⟨n1, n2⟩ := dig_ne (y.natAbs % 10) (by omega)
  have hd : ∃ m, dgX y d = m ++ [UInt8.ofNat (48 + y.natAbs % 10)] := by
    unfold dgX padL
    exact ⟨_, by rw [hl, ← List.append_assoc]⟩
  obtain ⟨m, hm⟩ := hd
  obtain ⟨k, rfl⟩ : ∃ k, d = k + 1 := ⟨d - 1, by omega⟩
  have hlen := dgX_len y (k + 1)
  rw [hm, List.length_append, List.length_singleton] at hlen
  rw [tx_pos _ h, hm, pointL_snoc _ _ (by omega), ← List.append_assoc]
  unfold shL
  rw [trimR_other _ _ (n2 hk), trimS_other _ _ n1]
theorem sh_main : ∀ (k m : Nat) (y : Int), (m = 0 → 1 ≤ k) → (1 ≤ m → y % 10 ≠ 0) → shL (tx (y * 10 ^ k) (m + k)) = tx y m
  | 0, m, y, h1, h2 => by
    have hm : 1 ≤ m := by
      rcases Nat.eq_zero_or_pos m with h | h
      · have := h1 h; omega
      · exact h
    rw [Int.pow_zero, Int.mul_one, Nat.add_zero]
    exact shL_last hm (h2 hm)
  | k + 1, m, y, h1, h2 => by
    rw [show y * (10 : Int) ^ (k + 1) = 10 * (y * 10 ^ k) by rw [Int.pow_succ]; ac_rfl]
    by_cases h0 : m + k = 0
    · obtain ⟨rfl, rfl⟩ : m = 0 ∧ k = 0 := by omega
      rw [Int.pow_zero, Int.mul_one]
      exact shL_one y
    · rw [show m + (k + 1) = (m + k) + 1 by omega, shL_step _ (by omega)]
      exact sh_main k m y (fun e => by omega) h2
theorem dec_dv (u : Nat) : dv (Lib.decDigits u) = u := by
  induction u using Nat.strongRecOn with
  | ind u ih =>
    have hd : ∀ k, k < 10 → (UInt8.ofNat (48 + k)).toNat - 48 = k := by decide
    rw [Lib.decDigits]
    split
    · rename_i h
      show 0 * 10 + ((UInt8.ofNat (48 + u)).toNat - 48) = u
      rw [hd u h]; omega
    · rename_i h
      rw [dv_snoc, ih (u / 10) (by omega), hd (u % 10) (by omega)]
      omega
theorem dec_head : ∀ (u : Nat), 0 < u → (Lib.decDigits u).headD 0 ≠ 48 := by
  intro u
  induction u using Nat.strongRecOn with
  | ind u ih =>
    intro h0
    rw [Lib.decDigits]
    split
    · rename_i h
      exact (dig_ne u h).2 (by omega)
    · rename_i h
      have h1 := ih (u / 10) (by omega) (by omega)
      cases hl : Lib.decDigits (u / 10) with
      | nil => have := dec_pos (u / 10); rw [hl] at this; simp at this
      | cons c r => rw [hl] at h1; exact h1
theorem dec_all (u : Nat) : (Lib.decDigits u).all digB = true := List.all_eq_true.2 (dec_dig u)
theorem dgB_of {l : List UInt8} (h : l ≠ []) (k : l.all digB = true) : dgB l = true := by
  unfold dgB
  rw [k]
  cases l with
  | nil => exact absurd rfl h
  | cons c r => rfl
theorem dv_rep : ∀ (k : Nat) (l : List UInt8), dv (List.replicate k 48 ++ l) = dv l
  | 0, l => rfl
  | k + 1, l => by
    rw [List.replicate_succ, List.cons_append, dv_zero]
    exact dv_rep k l
theorem dgX_dv (y : Int) (d : Nat) : dv (dgX y d) = y.natAbs := by
  unfold dgX padL
  rw [dv_rep, dec_dv]
theorem dgX_all (y : Int) (d : Nat) : (dgX y d).all digB = true := by
  unfold dgX padL
  rw [List.all_append, dec_all, Bool.and_true]
  exact List.all_eq_true.2 fun c hc => by rw [List.eq_of_mem_replicate hc]; decide
theorem dgX_whole (y : Int) (d : Nat) : numB ((dgX y d).take ((dgX y d).length - d)) = true := by
  have hp := dec_pos y.natAbs
  by_cases h : (Lib.decDigits y.natAbs).length ≤ d
  · have e : (dgX y d).take ((dgX y d).length - d) = [48] := by
      have hl : (dgX y d).length = d + 1 := by
        unfold dgX padL
        rw [List.length_append, List.length_replicate]; omega
      rw [hl, show d + 1 - d = 1 by omega]
      unfold dgX padL
      obtain ⟨k, hk⟩ : ∃ k, d + 1 - (Lib.decDigits y.natAbs).length = k + 1 := ⟨d - (Lib.decDigits y.natAbs).length, by omega⟩
      rw [hk, List.replicate_succ]
      rfl
    rw [e]; rfl
  · have e : dgX y d = Lib.decDigits y.natAbs := by
      unfold dgX padL
      rw [show d + 1 - (Lib.decDigits y.natAbs).length = 0 by omega]
      rfl
    rw [e]
    have hall := dec_all y.natAbs
    have hne : (Lib.decDigits y.natAbs).take ((Lib.decDigits y.natAbs).length - d) ≠ [] := by
      intro e
      have := congrArg List.length e
      rw [List.length_take] at this
      simp at this
      omega
    have hall2 : ((Lib.decDigits y.natAbs).take ((Lib.decDigits y.natAbs).length - d)).all digB = true := List.all_eq_true.2 fun c hc => List.all_eq_true.1 hall c (List.mem_of_mem_take hc)
    rw [numB_eq, Bool.or_eq_true]
    by_cases h0 : y.natAbs = 0
    · left
      rw [h0, Lib.decDigits_one (by omega)] at hne h ⊢
      simp at h
      subst h
      rfl
    · right
      rw [dgB_of hne hall2, Bool.true_and, Bool.not_eq_true', beq_eq_false_iff_ne]
      have h1 := dec_head y.natAbs (by omega)
      cases hl : Lib.decDigits y.natAbs with
      | nil => rw [hl] at hp; simp at hp
      | cons c r =>
        rw [hl] at h1 hne
        cases hk : (c :: r).length - d with
        | zero => rw [hk] at hne; exact absurd rfl hne
        | succ k => exact h1
theorem digX_head (y : Int) (l : List UInt8) (hl : l ≠ []) (hd : digB (l.headD 0) = true) : negL (sgX y ++ l) = decide (y < 0) ∧ digL (sgX y ++ l) = l := by
  unfold sgX
  by_cases h : y < 0
  · rw [if_pos h, decide_eq_true h]
    exact negL_cons 45 l
  · rw [if_neg h, decide_eq_false h]
    cases l with
    | nil => exact absurd rfl hl
    | cons c r =>
      have hc : c ≠ 45 := by
        intro e
        subst e
        exact absurd (show digB 45 = true from hd) (by decide)
      show negL (c :: r) = _ ∧ digL (c :: r) = _
      rw [(negL_cons c r).1, (negL_cons c r).2, beq_eq_false_iff_ne.2 hc]
      exact ⟨rfl, rfl⟩
theorem dig_nodot {l : List UInt8} (h : l.all digB = true) : ∀ c ∈ l, c ≠ 46 := by
  intro c hc e
  have := List.all_eq_true.1 h c hc
  subst e
  revert this
  decide
theorem dig_headD {l : List UInt8} (hl : l ≠ []) (h : l.all digB = true) : digB (l.headD 0) = true := by
  cases l with
  | nil => exact absurd rfl hl
  | cons c r => exact List.all_eq_true.1 h c (by simp)
theorem tx_parse (y : Int) (d : Nat) (hd : d ≤ 30) (hl : (tx y d).length ≤ 65536) : okD (tx y d) = true ∧ qD (tx y d) = Rat.divInt y ((10 : Int) ^ d) ∧ (frD (tx y d)).length = d := by
  have fin : ∀ (W F : List UInt8) (p : Bool), negL (tx y d) = decide (y < 0) → digL (tx y d) = (if p then W ++ 46 :: F else W) → (W.all digB = true ∧ F.all digB = true) → (p = false → F = [] ∧ d = 0) → (p = true → F ≠ []) → numB W = true → F.length = d → dv (W ++ F) = y.natAbs → okD (tx y d) = true ∧ qD (tx y d) = Rat.divInt y ((10 : Int) ^ d) ∧ (frD (tx y d)).length = d := by
    intro W F p hn hg hall hp0 hp1 hW hF hv
    have hcut : Lib.cut (digL (tx y d)) [46] = (W, F, p) := by
      rw [hg]
      cases p with
      | true => exact cut_dot (dig_nodot hall.1)
      | false =>
        rw [(hp0 rfl).1]
        exact cut_nodot (dig_nodot hall.1)
    have e1 : whD (tx y d) = W := by unfold whD; rw [hcut]
    have e2 : frD (tx y d) = F := by unfold frD; rw [hcut]
    have e3 : ptD (tx y d) = p := by unfold ptD; rw [hcut]
    have hlen : (W ++ F).length ≤ 65536 := by
      have h1 := digL_len (tx y d)
      rw [hg] at h1
      rw [List.length_append]
      cases p with
      | true => rw [if_pos rfl, List.length_append, List.length_cons] at h1; omega
      | false => rw [if_neg (by decide)] at h1; rw [(hp0 rfl).1]; simp; omega
    have hnD : nD (tx y d) = (y.natAbs : Int) := by
      unfold nD
      rw [e1, e2, vO_dv hlen (by rw [List.all_append, hall.1, hall.2]; rfl), hv]
    have hsg : sgD (tx y d) = y := by
      unfold sgD
      rw [hn, hnD]
      by_cases h : y < 0
      · rw [decide_eq_true h, if_pos rfl]; omega
      · rw [decide_eq_false h, if_neg (by decide)]; omega
    refine ⟨?_, ?_, by rw [e2, hF]⟩
    · unfold okD vPd fOK
      rw [e1, e2, e3, hW, hn, hnD, hF, decide_eq_true hd, Bool.and_true, Bool.true_and]
      rw [Bool.and_eq_true]
      constructor
      · cases p with
        | false => rfl
        | true => rw [dgB_of (hp1 rfl) hall.2]; rfl
      · by_cases h : y < 0
        · rw [decide_eq_false (p := (y.natAbs : Int) = 0) (by omega), Bool.and_false]; rfl
        · rw [decide_eq_false h]; rfl
    · unfold qD
      rw [hsg, e2, hF]
  rcases Nat.eq_zero_or_pos d with h0 | h0
  · subst h0
    have hne : Lib.decDigits y.natAbs ≠ [] := fun e => by have := dec_pos y.natAbs; rw [e] at this; simp at this
    have hx := digX_head y _ hne (dig_headD hne (dec_all _))
    rw [← tx_zero] at hx
    refine fin (Lib.decDigits y.natAbs) [] false hx.1 (by rw [hx.2]; rfl) ⟨dec_all _, rfl⟩ (fun _ => ⟨rfl, rfl⟩) (fun h => by cases h) ?_ rfl (by rw [List.append_nil]; exact dec_dv _)
    have := dgX_whole y 0
    rw [dgX_zero, Nat.sub_zero, List.take_length] at this
    exact this
  · have hlen := dgX_len y d
    have hall := dgX_all y d
    obtain ⟨W, hW⟩ : ∃ W, W = (dgX y d).take ((dgX y d).length - d) := ⟨_, rfl⟩
    obtain ⟨F, hF⟩ : ∃ F, F = (dgX y d).drop ((dgX y d).length - d) := ⟨_, rfl⟩
    have hWF : W ++ F = dgX y d := by rw [hW, hF, List.take_append_drop]
    have hFl : F.length = d := by rw [hF, List.length_drop]; omega
    have hWne : W ≠ [] := by
      intro e
      have := congrArg List.length e
      rw [hW, List.length_take] at this
      simp at this
      omega
    have hWa : W.all digB = true ∧ F.all digB = true := by
      rw [← hWF, List.all_append, Bool.and_eq_true] at hall
      exact hall
    have hpt : pointL (dgX y d) d = W ++ 46 :: F := by
      unfold pointL
      rw [← hW, ← hF, List.append_assoc]
      rfl
    have hx := digX_head y (pointL (dgX y d) d) (by rw [hpt]; simp) (by
      rw [hpt]
      cases hc : W with
      | nil => exact absurd hc hWne
      | cons c r =>
        rw [hc] at hWa
        exact List.all_eq_true.1 hWa.1 c (by simp))
    rw [← tx_pos _ h0] at hx
    refine fin W F true hx.1 (by rw [hx.2, hpt]; rfl) hWa (fun h => by cases h) (fun _ e => by rw [e] at hFl; simp at hFl; omega) (by rw [hW]; exact dgX_whole y d) hFl (by rw [hWF]; exact dgX_dv y d)
theorem tx_len {y : Int} {d l : Nat} (h : Lim l y) (hd : d ≤ 30) : (tx y d).length ≤ 9 * l + 40 := by
  have h1 := itoa_lenT h
  have h2 := neg_dig (Lib.itoa y)
  rw [(itoa_parts y).2] at h2
  have h3 : (Lib.decDigits y.natAbs).length ≤ (Lib.itoa y).length := by
    rw [← h2, List.length_append]; omega
  rcases Nat.eq_zero_or_pos d with h0 | h0
  · subst h0
    show (Lib.itoa y).length ≤ _
    omega
  · rw [tx_pos _ h0, List.length_append]
    have h4 : (sgX y).length ≤ 1 := by unfold sgX; split <;> simp
    have h5 : (pointL (dgX y d) d).length = (dgX y d).length + 1 := by
      unfold pointL
      rw [List.length_append, List.length_append, List.length_take, List.length_drop, List.length_singleton]
      omega
    have h6 : (dgX y d).length ≤ (Lib.decDigits y.natAbs).length + 31 := by
      unfold dgX padL
      rw [List.length_append, List.length_replicate]
      omega
    omega
end Go.Proofs.YtnejcdjakjmklaaGreatDoor
end

section
set_option maxRecDepth 100000
namespace Go.Proofs.YtnejcdjakjmklaaGreatDoor
open Go.RowKit Go.Shelf
def hfT : IT2 := (.a2 7 (.lit 1) (.lit 2), .a2 8 (.lit 1) (.lit 2))
theorem hf_rep {E : Env} : RepQ E hfT (Rat.divInt 1 2) := ⟨rfl, rfl⟩
def ptT10 (d : Nat) : IT2 := (.lit ((10 : Int) ^ d), .lit 1)
def p10Q (d : Nat) : Rat := (((10 : Int) ^ d : Int) : Rat)
theorem pt10_rep {E : Env} (d : Nat) : RepQ E (ptT10 d) (p10Q d) := p10_rep d
def cTn (ts : List IT2) (d : Int) : List AV → Bool
  | [.val true cs, .val false [.n .i64 (.lit y)]] => (t6 ts cs && limC cs) && y == d
  | _ => false
where limC : List Chunk → Bool
  | [.int _ l, .int _ m] => decide (l ≤ 9000) && decide (m ≤ 9000)
  | _ => false
theorem tn_known {E : Env} {f : Nat} {A : IT2} {a : Rat} {d : Nat} {r : AV} (hA : RepQ E A a) (np : ∀ x off, r ≠ .ptr x off) (h : ∀ (w : World) (v : Value), IsRat w v a → LimQ 9000 a → Calls Tryz.prog f #[v, .int .i64 (d : Int)] w fun e w' => ∃ x, e = .returned x ∧ (∀ β, r.holds E β w' x) ∧ Ext w w') : KnownR E f (cTn [A] (d : Int)) r := by
  refine ⟨fun args ha β w vs hv hl => ?_, np⟩
  unfold cTn at ha
  split at ha
  · simp only [Bool.and_eq_true, beq_iff_eq] at ha
    obtain ⟨⟨h1, h2⟩, rfl⟩ := ha
    obtain ⟨v, u, rfl, ⟨us, rfl, hu⟩, k2⟩ := args2 hv hl
    have k2' := one_num.1 k2
    subst k2'
    unfold cTn.limC at h2
    split at h2
    · rename_i x l y m
      simp only [Bool.and_eq_true, decide_eq_true_iff] at h2
      have hq := t6_holds (show Reps E [A] [a] from ⟨hA, trivial⟩) h1 hu
      have hxy : x = A.1 ∧ y = A.2 := by
        unfold t6 at h1
        simp only [Bool.and_eq_true] at h1
        exact ⟨IT.eq_of_beq h1.1, IT.eq_of_beq h1.2.1⟩
      obtain ⟨rfl, rfl⟩ := hxy
      obtain ⟨j1, j2, j3⟩ := (one_q hA).1 (show one E w (true, [.int A.1 l, .int A.2 m]) (.agg us.toArray) from ⟨us, rfl, hu⟩)
      exact h w _ j1 ⟨j2.mono h2.1, j3.mono h2.2⟩
    · cases h2
  · cases ha
def cFt (t : IT) (d : Int) : List AV → Bool
  | [.val false [.str (.fmt u) m], .val false [.n .i64 (.lit y)]] => (u.beq t && decide (m ≤ 100000)) && y == d
  | _ => false
theorem wp_known {E : Env} {t : IT} {z : Int} {d i m : Nat} (hd : d ≤ 30) (ht : t.den E = z) (hs : E.s i = tx z d) (hm : (tx z d).length ≤ m) : KnownR E 39 (cFt t (d : Int)) (.val false [.str (.var i) m]) := by
  refine ⟨fun args ha β w vs hv hl => ?_, fun x off e => by cases e⟩
  unfold cFt at ha
  split at ha
  · simp only [Bool.and_eq_true, beq_iff_eq, decide_eq_true_iff] at ha
    obtain ⟨⟨h1, h2⟩, rfl⟩ := ha
    have e1 := IT.eq_of_beq h1
    subst e1
    obtain ⟨v, u, rfl, k1, k2⟩ := args2 hv hl
    have k2' := one_num.1 k2
    subst k2'
    obtain ⟨rfl, k3⟩ := one_str.1 k1
    have e2 : (ST.fmt _).den E = Lib.itoa z := congrArg Lib.itoa ht
    rw [e2] at k3 ⊢
    refine (withPoint_calls w ⟨(Lib.itoa z).toArray⟩ d (by omega) (by rw [bytes_size]; omega)).mono ?_
    rintro e w' ⟨rfl, ex⟩
    exact ⟨_, rfl, fun β => one_str.2 ⟨by show _ = Value.string ⟨(E.s i).toArray⟩; rw [hs]; rfl, by show (E.s i).length ≤ m; rw [hs]; exact hm⟩, ex⟩
  · cases ha
theorem sh_known {E : Env} {i j m : Nat} {l : List UInt8} (hi : E.s i = l) (hl : l.length ≤ 1000000) (hj : E.s j = shL l) (hm : (shL l).length ≤ m) : KnownR E 60 (cStr i) (.val false [.str (.var j) m]) :=
  str1_known (fun x off e => by cases e) fun w => by
    rw [hi]
    refine (shortest_calls w ⟨l.toArray⟩ (by rw [bytes_size]; exact hl)).mono ?_
    rintro e w' ⟨rfl, rfl⟩
    exact ⟨_, rfl, fun β => one_str.2 ⟨by show _ = Value.string ⟨(E.s j).toArray⟩; rw [hj], by show (E.s j).length ≤ m; rw [hj]; exact hm⟩, Ext.refl _⟩
def cIn (t : IT) (d : Int) : List AV → Bool
  | [.val true [.int u l], .val false [.n .i64 (.lit y)]] => (u.beq t && decide (l ≤ 1000)) && y == d
  | _ => false
theorem shown_known {E : Env} {t : IT} {z : Int} {d i m : Nat} (hd : d ≤ 30) (ht : t.den E = z) (hs : E.s i = tx z d) (hm : (tx z d).length ≤ m) : KnownR E 41 (cIn t (d : Int)) (.val false [.str (.var i) m]) := by
  refine ⟨fun args ha β w vs hv hl => ?_, fun x off e => by cases e⟩
  unfold cIn at ha
  split at ha
  · simp only [Bool.and_eq_true, beq_iff_eq, decide_eq_true_iff] at ha
    obtain ⟨⟨h1, h2⟩, rfl⟩ := ha
    have e1 := IT.eq_of_beq h1
    subst e1
    obtain ⟨v, u, rfl, k1, k2⟩ := args2 hv hl
    have k2' := one_num.1 k2
    subst k2'
    obtain ⟨j1, j2⟩ := one_int.1 k1
    rw [ht] at j1 j2
    have j3 := j2.mono h2
    have hit := itoa_lenT j3
    have hp := itoa_parts z
    have hnd := neg_dig (Lib.itoa z)
    have hpos : 0 < (digL (Lib.itoa z)).length := by rw [hp.2]; exact dec_pos _
    have hle := digL_len (Lib.itoa z)
    have hS : Hid ((⟨(Lib.itoa z).toArray⟩ : ByteArray).data.toList = Lib.itoa z) := rfl
    refine (shown_calls w v z d hd j1 j3 ⟨(Lib.itoa z).toArray⟩ hS (by rw [bytes_size]; omega) (by rw [bytes_size]; omega) hpos).mono ?_
    rintro e w' ⟨rfl, ex⟩
    exact ⟨_, rfl, fun β => one_str.2 ⟨by show _ = Value.string ⟨(E.s i).toArray⟩; rw [hs]; rfl, by show (E.s i).length ≤ m; rw [hs]; exact hm⟩, ex⟩
  · cases ha
theorem pw_known {E : Env} {n : Nat} (hn : n ≤ 30) : KnownR E 14 (cLitN (n : Int)) (.val true [.int (.lit ((10 : Int) ^ n)) 4, .int (.lit 1) 1]) := by
  refine ⟨fun args ha β w vs hv hl => ?_, fun x off e => by cases e⟩
  unfold cLitN at ha
  split at ha
  · rw [beq_iff_eq] at ha
    subst ha
    obtain ⟨v, rfl, h1⟩ := args1 hv hl
    have h1' := one_num.1 h1
    subst h1'
    refine (rpower_calls w n hn).mono ?_
    rintro e w' ⟨v, rfl, ⟨h1, h2⟩, ex⟩
    have lp : Lim 4 ((10 : Int) ^ n) := by
      refine limbs_len_le ?_
      rw [Int.natAbs_pow]
      refine Nat.lt_of_le_of_lt (Nat.pow_le_pow_right (by decide) hn) ?_
      decide +kernel
    exact ⟨v, rfl, fun β => one_pair.2 ⟨h1, lp, lim1 (z := 1) (by decide)⟩, ex⟩
  · cases ha
theorem scn_known {E : Env} {n i j m : Nat} {a : Rat} (hn : n ≤ 30) (ha : RepQ E (qI i) a) (hr : RepQ E (qI j) (a * p10Q n)) (lr : LimQ m (a * p10Q n)) : KnownR E 37 (cTn [qI i] (n : Int)) (.val true [.int (.var j) m, .int (.var (j + 1)) m]) :=
  tn_known ha (fun x off e => by cases e) fun w v hv hl => (scaled_calls w v a n hn hv hl).mono (by
    rintro e w' ⟨x, rfl, hx, ex⟩
    exact ⟨x, rfl, fun β => (one_q (A := qI j) hr).2 ⟨hx, lr.1, lr.2⟩, ex⟩)
def fzQ (a : Rat) (d : Nat) : Rat := a * p10Q d + Rat.divInt 1 2
def fz (a : Rat) (d : Nat) : Int := dq (fzQ a d).num ((fzQ a d).den : Int)
def flP : IT := .a2 4 (qop 0 (qI 2) hfT).1 (qop 0 (qI 2) hfT).2
def flR6 (d : Nat) : IT := .a2 4 (qop 0 (qop 2 (qI 0) (ptT10 d)) hfT).1 (qop 0 (qop 2 (qI 0) (ptT10 d)) hfT).2
noncomputable def tabFp (d : Nat) : List (Nat × Con) :=
  (37, kKq (cTn [qI 0] (d : Int)) (.val true [.int (.var 2) 30, .int (.var 3) 30]) kNoQ) :: (35, kFlQ) :: (40, kFmt) ::
  (39, kKq (cFt flP (d : Int)) (.val false [.str (.var 0) 65536]) kNoQ) :: tabT
def isFs : Option Tree → Bool
  | some (.leaf [(false, [.str (.var 0) _]), (false, [.n .i64 (.lit 0)])]) => true
  | _ => false
def isFe : Option Tree → Bool
  | some (.leaf [(false, [.str (.lit []) _]), (false, [.n .i64 (.lit 1)])]) => true
  | _ => false
def aQ6 : AV := .val true [.int (.var 0) 6, .int (.var 1) 6]
def gLen (n : Int) (i : Nat) : BT × Bool := (.lt (.lit n) (.slen i), false)
theorem fp_walk : ((List.range 31).all fun d => isFs (funE (cfgW WQ (tabFp d)) Tryz.f9 [gLen 65536 0] [aQ6, .val false [.n .i64 (.lit (d : Int))]])) = true := by kernel_rfl
noncomputable def tabFq (d : Nat) : List (Nat × Con) :=
  (14, kKq (cLitN (d : Int)) (.val true [.int (.lit ((10 : Int) ^ d)) 4, .int (.lit 1) 1]) kNoQ) :: (42, kFlR) ::
  (41, kKq (cIn (flR6 d) (d : Int)) (.val false [.str (.var 0) 65536]) kNoQ) :: tabT
noncomputable def cFq (d : Nat) : Cfg := cfgI (cfgOf (tabFq d)) (cfgOf (tabFq d)) [(44, Tryz.f44)]
theorem fq_walk : ((List.range 31).all fun d => isFs (funE (cFq d) Tryz.f10 [] [aQ6, .val false [.n .i64 (.lit (d : Int))]])) = true := by kernel_rfl
def gOut (b : Bool) : Asm := if b then [(.lt (.var 5) (.lit 0), true)] else [(.lt (.var 5) (.lit 0), false), (.lt (.lit 30) (.var 5), true)]
theorem fo_walk : (bools.all fun b => isFe (funE (cfgOf []) Tryz.f9 (gOut b) [aQ6, .val false [.n .i64 (.var 5)]]) && isFe (funE (cfgOf []) Tryz.f10 (gOut b) [aQ6, .val false [.n .i64 (.var 5)]])) = true := by kernel_rfl
noncomputable def tabEx6 : List (Nat × Con) :=
  (37, kKq (cTn [qI 0] 30) (.val true [.int (.var 2) 30, .int (.var 3) 30]) kNoQ) :: (40, kFmt) ::
  (39, kKq (cFt (.var 2) 30) (.val false [.str (.var 0) 65536]) kNoQ) :: (60, kKq (cStr 0) (.val false [.str (.var 1) 65536]) kNoQ) :: tabInt
def isEx6 (b : Bool) (i : Nat) : Option Tree → Bool
  | some (.leaf [(false, [.str s _]), (false, [.b (.lit c)])]) => c == b && s.beq (if b then .var i else .lit [])
  | _ => false
def gDen (b : Bool) : BT × Bool := (.eq (.a2 3 (.var 3) (.lit 1)) (.lit 0), b)
theorem ex_walk6 : (bools.all fun b => isEx6 b 1 (funE (cfgW WQ tabEx6) Tryz.f18 [gDen b, gLen 1000 1] [aQ6])) = true := by kernel_rfl
def exN (n : Nat) : IT2 := qop 2 (qI 0) (ptT10 n)
def pwT : List Nat → Con
  | [] => kNoQ
  | n :: ns => kKq (cLitN (n : Int)) (.val true [.int (.lit ((10 : Int) ^ n)) 4, .int (.lit 1) 1]) (pwT ns)
noncomputable def tabEr (m : Nat) : List (Nat × Con) :=
  (14, pwT (List.range 31)) :: (28, kIIb fun x y => .eq x y) :: (29, kFrom) ::
  (41, kKq (cIn (exN m).1 (m : Int)) (.val false [.str (.var 0) 65536]) kNoQ) :: tabT
def gEr (m : Nat) : Asm := (List.range m).map fun k => (.eq (exN k).2 (.lit 1), false)
theorem er_walk : ((List.range 31).all fun m => isEx6 true 0 (funE (cfgOf (tabEr m)) Tryz.f19 ((.eq (exN m).2 (.lit 1), true) :: gLen 1000 0 :: gEr m) [aQ6])) = true := by kernel_rfl
noncomputable def tabMm : List (Nat × Con) :=
  (61, kFI6) :: (39, kKq (cFt (.var 0) 3) (.val false [.str (.var 0) 65536]) kNoQ) :: (60, kKq (cStr 0) (.val false [.str (.var 1) 65536]) kNoQ) :: []
def isStr (i : Nat) : Option Tree → Bool
  | some (.leaf [(false, [.str (.var j) _])]) => j == i
  | _ => false
def gI6 : Asm := [(.le (.lit (-9223372036854775808)) (.var 0), true), (.le (.var 0) (.lit 9223372036854775807), true)]
theorem mm_walk : isStr 1 (funE (cfgW WQ tabMm) Tryz.f21 gI6 [.val false [.n .i64 (.var 0)]]) = true := by kernel_rfl
noncomputable def tabMr : List (Nat × Con) := (19, kKq (c6 [(.a2 7 (.var 0) (.lit 1000), .a2 8 (.var 0) (.lit 1000))]) (.tup [(false, [.str (.var 0) 65536]), (false, [.b (.lit true)])]) kNoQ) :: tabT
theorem mr_walk : isStr 0 (funE (cfgOf tabMr) Tryz.f23 gI6 [.val false [.n .i64 (.var 0)]]) = true := by kernel_rfl
end Go.Proofs.YtnejcdjakjmklaaGreatDoor
end

section
set_option maxRecDepth 100000
namespace Go.Proofs.YtnejcdjakjmklaaGreatDoor
open Go.RowKit Go.Shelf
def RetS (l : List UInt8) (z : Int) (w : World) (e : Ending) (w' : World) : Prop := e = .returned (.tuple #[.string ⟨l.toArray⟩, .int .i64 z]) ∧ Ext w w'
def RetSB (l : List UInt8) (b : Bool) (w : World) (e : Ending) (w' : World) : Prop := e = .returned (.tuple #[.string ⟨l.toArray⟩, .bool b]) ∧ Ext w w'
theorem p10_lim {d : Nat} (hd : d ≤ 30) : LimQ 4 (p10Q d) := by
  refine ⟨?_, ?_⟩
  · show Lim 4 (((10 : Int) ^ d : Int) : Rat).num
    rw [Rat.num_intCast]
    refine limbs_len_le ?_
    rw [Int.natAbs_pow]
    refine Nat.lt_of_le_of_lt (Nat.pow_le_pow_right (by decide) hd) ?_
    decide +kernel
  · show Lim 4 ((((10 : Int) ^ d : Int) : Rat).den : Int)
    rw [Rat.den_intCast]
    exact (lim1 (z := 1) (by decide)).mono (by omega)
theorem ap_lim {a : Rat} {d : Nat} (hd : d ≤ 30) (l : LimQ 6 a) : LimQ 10 (a * p10Q d) := by
  have p := p10_lim hd
  have m := LimQ.mul' l.1 l.2 p.1 p.2
  exact ⟨m.1, m.2⟩
theorem hf_lim : LimQ 1 (Rat.divInt 1 2) := limB_ok (by decide +kernel)
theorem fz_floor (a : Rat) (d : Nat) : fz a d = (fzQ a d).floor := by
  unfold fz
  rw [dq_pos (by have := (fzQ a d).den_pos; omega)]
  exact (Rat.floor_def _).symm
theorem dq_le (x : Int) {y : Int} (hy : 0 < y) : (dq x y).natAbs ≤ x.natAbs := by
  rw [dq_pos hy]
  exact Int.natAbs_ediv_le_natAbs x y
theorem fz_lim {a : Rat} {d : Nat} (hd : d ≤ 30) (l : LimQ 6 a) : Lim 12 (fz a d) := by
  have m := ap_lim hd l
  have s := LimQ.add6 (n := 12) m.1 m.2 hf_lim.1 hf_lim.2 (by omega) (by omega)
  have h := dq_le (fzQ a d).num (y := ((fzQ a d).den : Int)) (by have := (fzQ a d).den_pos; omega)
  exact s.1.natAbs_le h
theorem fs_out {E : Env} {β : Nat → Nat} {w : World} {v : Value} {l : List UInt8} {T : Tree} (h : isFs (some T) = true) (hh : (toAV (T.pick E)).holds E β w v) (hs : E.s 0 = l) : v = .tuple #[.string ⟨l.toArray⟩, .int .i64 0] := by
  unfold isFs at h
  split at h
  · rename_i m e
    cases e
    obtain ⟨vs, rfl, u1, r1, rfl, k1, u2, r2, rfl, k2, hn⟩ := hh
    simp only [tupAll] at hn
    subst hn
    rw [(one_str.1 k1).1, show u2 = _ from one_num.1 k2]
    show Value.tuple #[.string ⟨(E.s 0).toArray⟩, .int .i64 0] = _
    rw [hs]
  · cases h
theorem fe_out {E : Env} {β : Nat → Nat} {w : World} {v : Value} {T : Tree} (h : isFe (some T) = true) (hh : (toAV (T.pick E)).holds E β w v) : v = .tuple #[.string ⟨([] : List UInt8).toArray⟩, .int .i64 1] := by
  unfold isFe at h
  split at h
  · rename_i m e
    cases e
    obtain ⟨vs, rfl, u1, r1, rfl, k1, u2, r2, rfl, k2, hn⟩ := hh
    simp only [tupAll] at hn
    subst hn
    rw [(one_str.1 k1).1, show u2 = _ from one_num.1 k2]
    rfl
  · cases h
theorem two_hb {E : Env} {w : World} {x y : AV} {v u : Value} (h1 : ∀ β, x.holds E β w v) (h2 : ∀ β, y.holds E β w u) : ∀ (i : Nat) (s : AV), [x, y][i]? = some s → ∃ β r, [v, u][i]? = some r ∧ s.holds E β w r := fun i s hs => by
  obtain ⟨r, h3, h4⟩ := two_hold h1 h2 i s hs
  exact ⟨fun _ => 0, r, h3, h4 _⟩
theorem one_hb {E : Env} {w : World} {x : AV} {v : Value} (h1 : ∀ β, x.holds E β w v) : ∀ (i : Nat) (s : AV), [x][i]? = some s → ∃ β r, [v][i]? = some r ∧ s.holds E β w r := fun i s hs => by
  match i, hs with
  | 0, hs => injection hs with hs; subst hs; exact ⟨fun _ => 0, v, rfl, h1 _⟩
theorem a6_holds {E : Env} {w : World} {v : Value} {a : Rat} (ha : RepQ E (qI 0) a) (hv : IsRat w v a) (l : LimQ 6 a) : ∀ β, aQ6.holds E β w v := fun _ => (one_q (A := qI 0) ha).2 ⟨hv, l.1, l.2⟩
theorem dfmtP_calls (w : World) (hW : WQ w) (v : Value) (a : Rat) (d : Nat) (hd : d ≤ 30) (hv : IsRat w v a) (l : LimQ 6 a) : Calls Tryz.prog 9 #[v, .int .i64 (d : Int)] w (RetS (tx (fz a d) d) 0 w) := by
  obtain ⟨E, hE⟩ : ∃ E, E = sQE [tx (fz a d) d] [a, a * p10Q d] [] := ⟨_, rfl⟩
  have hQ : QEnv E := by rw [hE]; exact sQE_ok _ _ _
  have s0 : E.s 0 = tx (fz a d) d := by rw [hE]; rfl
  have ra : RepQ E (qI 0) a := by rw [hE]; exact ⟨rfl, rfl⟩
  have rp : RepQ E (qI 2) (a * p10Q d) := by rw [hE]; exact ⟨rfl, rfl⟩
  have hl := tx_len (fz_lim hd l) hd
  have hfl : flP.den E = fz a d := by
    have r : RepQ E (qop 0 (qI 2) hfT) (fzQ a d) := rep_add rp hf_rep
    show dq ((qop 0 (qI 2) hfT).1.den E) ((qop 0 (qI 2) hfT).2.den E) = _
    rw [r.1, r.2]; rfl
  have hT : TabW Tryz.prog WQ E (tabFp d) :=
    .cons (kKr_ok (scn_known (i := 0) (j := 2) (m := 30) hd ra rp ((ap_lim hd l).mono (by omega))) (kNoQ_ok ⟨_, Tryz.func37, by decide +kernel, by kernel_rfl⟩)).toW <| .cons (kFlQ_ok hQ).toW <| .cons kFmt_ok <|
    .cons (kKr_ok (wp_known hd hfl s0 (by omega)) (kNoQ_ok ⟨_, Tryz.func39, by decide +kernel, by kernel_rfl⟩)).toW (tabT_ok hQ).toW
  have hG : Asm.holds E [gLen 65536 0] := asm_and (by
    show decide ((65536 : Int) < ((E.s 0).length : Int)) = false
    rw [s0, decide_eq_false_iff_not]; omega) asm_nil
  have hWk := List.all_eq_true.1 fp_walk d (List.mem_range.2 (by omega))
  cases hTe : funE (cfgW WQ (tabFp d)) Tryz.f9 [gLen 65536 0] [aQ6, .val false [.n .i64 (.lit (d : Int))]] with
  | none => rw [hTe] at hWk; cases hWk
  | some T =>
    rw [hTe] at hWk
    refine (fun_sound mixed (cfgW_ok hT) hG Tryz.func9 (by decide +kernel) hTe (show 2 ≤ _ by decide +kernel) rfl w [v, .int .i64 (d : Int)] rfl (two_hb (a6_holds ra hv l) (fun β => one_num.2 rfl)) (fun w' e => hW.ext e)).mono ?_
    rintro e w' ⟨β, y, rfl, hh, ex⟩
    rw [fs_out hWk hh s0]
    exact ⟨rfl, ex⟩
theorem dfmtR_calls (w : World) (v : Value) (a : Rat) (d : Nat) (hd : d ≤ 30) (hv : IsRat w v a) (l : LimQ 6 a) : Calls Tryz.prog 10 #[v, .int .i64 (d : Int)] w (RetS (tx (fz a d) d) 0 w) := by
  obtain ⟨E, hE⟩ : ∃ E, E = sQE [tx (fz a d) d] [a] [] := ⟨_, rfl⟩
  have hQ : QEnv E := by rw [hE]; exact sQE_ok _ _ _
  have s0 : E.s 0 = tx (fz a d) d := by rw [hE]; rfl
  have ra : RepQ E (qI 0) a := by rw [hE]; exact ⟨rfl, rfl⟩
  have hl := tx_len (fz_lim hd l) hd
  have hfl : (flR6 d).den E = fz a d := by
    have r : RepQ E (qop 0 (qop 2 (qI 0) (ptT10 d)) hfT) (fzQ a d) := rep_add (rep_mul ra (pt10_rep d)) hf_rep
    show dq ((qop 0 (qop 2 (qI 0) (ptT10 d)) hfT).1.den E) ((qop 0 (qop 2 (qI 0) (ptT10 d)) hfT).2.den E) = _
    rw [r.1, r.2]; rfl
  have hT : TabOK Tryz.prog E (tabFq d) :=
    .cons (kKr_ok (pw_known hd) (kNoQ_ok ⟨_, Tryz.func14, by decide +kernel, by kernel_rfl⟩)) <| .cons (kFlR_ok hQ) <|
    .cons (kKr_ok (shown_known hd hfl s0 (by omega)) (kNoQ_ok ⟨_, Tryz.func41, by decide +kernel, by kernel_rfl⟩)) (tabT_ok hQ)
  have hC : CfgOK Tryz.prog E (cFq d) := cfgI_ok mixed (cfg_ok hT) (cfg_ok hT) (fun _ => trivial) (.cons Tryz.func44 (by decide +kernel) (by kernel_rfl) .nil)
  have hWk := List.all_eq_true.1 fq_walk d (List.mem_range.2 (by omega))
  cases hTe : funE (cFq d) Tryz.f10 [] [aQ6, .val false [.n .i64 (.lit (d : Int))]] with
  | none => rw [hTe] at hWk; cases hWk
  | some T =>
    rw [hTe] at hWk
    refine (fun_sound mixed hC no_asm Tryz.func10 (by decide +kernel) hTe (show 2 ≤ _ by decide +kernel) rfl w [v, .int .i64 (d : Int)] rfl (two_hb (a6_holds ra hv l) (fun β => one_num.2 rfl))).mono ?_
    rintro e w' ⟨β, y, rfl, hh, ex⟩
    rw [fs_out hWk hh s0]
    exact ⟨rfl, ex⟩
theorem dfmtO_calls (f : Bool) (w : World) (v : Value) (a : Rat) (n : Int) (hn : n < 0 ∨ 30 < n) (hv : IsRat w v a) (l : LimQ 6 a) : Calls Tryz.prog (if f then 9 else 10) #[v, .int .i64 n] w (RetS [] 1 w) := by
  obtain ⟨E, hE⟩ : ∃ E : Env, E = ⟨fun i => if i = 5 then n else if i = 0 then a.num else (a.den : Int), fun _ => false, fun _ => (false, []), fun _ => []⟩ := ⟨_, rfl⟩
  have e5 : E.i 5 = n := by rw [hE]; rfl
  have ra : RepQ E (qI 0) a := by rw [hE]; exact ⟨rfl, rfl⟩
  obtain ⟨b, hb⟩ : ∃ b, b = decide (n < 0) := ⟨_, rfl⟩
  have hG : (gOut b).holds E := by
    unfold gOut
    by_cases h : n < 0
    · rw [hb, decide_eq_true h, if_pos rfl]
      exact asm_and (by show decide (E.i 5 < 0) = true; rw [e5, decide_eq_true h]) asm_nil
    · rw [hb, decide_eq_false h, if_neg (by decide)]
      exact asm_and (by show decide (E.i 5 < 0) = false; rw [e5, decide_eq_false h]) (asm_and (by show decide ((30 : Int) < E.i 5) = true; rw [e5, decide_eq_true_iff]; omega) asm_nil)
  have hWk := List.all_eq_true.1 fo_walk b (bools_mem b)
  rw [Bool.and_eq_true] at hWk
  have arg := two_hb (y := .val false [.n .i64 (.var 5)]) (u := .int .i64 n) (a6_holds ra hv l) (fun β => one_num.2 (by show _ = Value.int .i64 (E.i 5); rw [e5]))
  cases f with
  | true =>
    cases hTe : funE (cfgOf []) Tryz.f9 (gOut b) [aQ6, .val false [.n .i64 (.var 5)]] with
    | none => rw [hTe] at hWk; cases hWk.1
    | some T =>
      rw [hTe] at hWk
      refine (fun_sound mixed (cfg_ok .nil) hG Tryz.func9 (by decide +kernel) hTe (show 2 ≤ _ by decide +kernel) rfl w [v, .int .i64 n] rfl arg).mono ?_
      rintro e w' ⟨β, y, rfl, hh, ex⟩
      rw [fe_out hWk.1 hh]
      exact ⟨rfl, ex⟩
  | false =>
    cases hTe : funE (cfgOf []) Tryz.f10 (gOut b) [aQ6, .val false [.n .i64 (.var 5)]] with
    | none => rw [hTe] at hWk; cases hWk.2
    | some T =>
      rw [hTe] at hWk
      refine (fun_sound mixed (cfg_ok .nil) hG Tryz.func10 (by decide +kernel) hTe (show 2 ≤ _ by decide +kernel) rfl w [v, .int .i64 n] rfl arg).mono ?_
      rintro e w' ⟨β, y, rfl, hh, ex⟩
      rw [fe_out hWk.2 hh]
      exact ⟨rfl, ex⟩
def exM (a : Rat) : Option Nat := (List.range 31).find? fun n => decide ((a * p10Q n).den = 1)
def exY (a : Rat) (n : Nat) : Int := (a * p10Q n).num
theorem exM_some {a : Rat} {m : Nat} (h : exM a = some m) : m ≤ 30 ∧ (a * p10Q m).den = 1 ∧ ∀ k, k < m → (a * p10Q k).den ≠ 1 := by
  unfold exM at h
  have h1 := List.find?_some h
  have h2 := List.mem_of_find?_eq_some h
  have hm := List.mem_range.1 h2
  refine ⟨by omega, by simpa using h1, fun k hk => ?_⟩
  obtain ⟨_, i, hi, he, hf⟩ := List.find?_eq_some_iff_getElem.1 h
  have hmi : i = m := by simpa using he
  subst hmi
  have := hf k hk
  simpa using this
theorem exM_none {a : Rat} (h : exM a = none) : ∀ k, k ≤ 30 → (a * p10Q k).den ≠ 1 := by
  intro k hk
  have := List.find?_eq_none.1 h k (List.mem_range.2 (by omega))
  simpa using this
theorem p10_add (m k : Nat) : p10Q (m + k) = p10Q m * p10Q k := by
  unfold p10Q
  rw [Int.pow_add, Rat.intCast_mul]
theorem int_of_den {q : Rat} (h : q.den = 1) : q = ((q.num : Int) : Rat) := by
  exact Rat.ext (Rat.num_intCast _).symm (h.trans (Rat.den_intCast _).symm)
theorem ex_up {a : Rat} {m : Nat} (h : (a * p10Q m).den = 1) (k : Nat) : (a * p10Q (m + k)).den = 1 ∧ exY a (m + k) = exY a m * 10 ^ k := by
  have e : a * p10Q (m + k) = ((exY a m * (10 : Int) ^ k : Int) : Rat) := by
    rw [p10_add, ← Rat.mul_assoc, int_of_den h, Rat.intCast_mul]
    rfl
  constructor
  · rw [e]; exact Rat.den_intCast _
  · unfold exY
    rw [e, Rat.num_intCast]
    rfl
theorem ex_last {a : Rat} {m : Nat} (h : (a * p10Q m).den = 1) (hm : 1 ≤ m) (hk : (a * p10Q (m - 1)).den ≠ 1) : exY a m % 10 ≠ 0 := by
  intro h0
  apply hk
  obtain ⟨k, rfl⟩ : ∃ k, m = k + 1 := ⟨m - 1, by omega⟩
  obtain ⟨y, hy⟩ : ∃ y, exY a (k + 1) = y * 10 := ⟨exY a (k + 1) / 10, by omega⟩
  have e1 : a * p10Q (k + 1) = ((exY a (k + 1) : Int) : Rat) := int_of_den h
  rw [p10_add, hy, Rat.intCast_mul] at e1
  have e10 : p10Q 1 = ((10 : Int) : Rat) := rfl
  rw [e10] at e1
  have hne : ((10 : Int) : Rat) ≠ 0 := by decide
  have e2 : a * p10Q k = ((y : Int) : Rat) := by grind
  show (a * p10Q (k + 1 - 1)).den = 1
  rw [show k + 1 - 1 = k by omega, e2]
  exact Rat.den_intCast _
theorem ex_text {a : Rat} {m D : Nat} (h : (a * p10Q m).den = 1) (hk : ∀ k, k < m → (a * p10Q k).den ≠ 1) (hD : m ≤ D) (hD1 : 1 ≤ D) : shL (tx (exY a D) D) = tx (exY a m) m := by
  obtain ⟨k, rfl⟩ : ∃ k, D = m + k := ⟨D - m, by omega⟩
  rw [(ex_up h k).2]
  exact sh_main k m _ (fun e => by omega) (fun hm => ex_last h hm (hk (m - 1) (by omega)))
theorem shL_len (l : List UInt8) : (shL l).length ≤ l.length := by
  have h1 := trimRight_len l 48
  unfold shL Lib.trimSuffix
  split
  · rw [List.length_take]; omega
  · exact h1
theorem exY_lim {a : Rat} {d : Nat} (hd : d ≤ 30) (l : LimQ 6 a) : Lim 10 (exY a d) := (ap_lim hd l).1
end Go.Proofs.YtnejcdjakjmklaaGreatDoor
end

section
set_option maxRecDepth 100000
namespace Go.Proofs.YtnejcdjakjmklaaGreatDoor
open Go.RowKit Go.Shelf
def exTx (a : Rat) : List UInt8 := match exM a with
  | some m => tx (exY a m) m
  | none => []
theorem ex_iff (a : Rat) : (exM a).isSome = decide ((a * p10Q 30).den = 1) := by
  cases h : exM a with
  | some m =>
    obtain ⟨h1, h2, _⟩ := exM_some h
    have := (ex_up h2 (30 - m)).1
    rw [show m + (30 - m) = 30 by omega] at this
    exact (decide_eq_true this).symm
  | none => exact (decide_eq_false (exM_none h 30 (by omega))).symm
theorem exTx_len {a : Rat} (l : LimQ 6 a) : (exTx a).length ≤ 130 := by
  unfold exTx
  cases h : exM a with
  | some m => exact tx_len (exY_lim (exM_some h).1 l) (exM_some h).1
  | none => exact Nat.zero_le _
theorem ex6_out {E : Env} {β : Nat → Nat} {w : World} {v : Value} {b : Bool} {i : Nat} {t : List UInt8} {T : Tree} (h : isEx6 b i (some T) = true) (hh : (toAV (T.pick E)).holds E β w v) (hs : (if b then E.s i else []) = t) : v = .tuple #[.string ⟨t.toArray⟩, .bool b] := by
  unfold isEx6 at h
  split at h
  · rename_i s m c e
    cases e
    rw [Bool.and_eq_true, beq_iff_eq] at h
    obtain ⟨rfl, h2⟩ := h
    have e1 := ST.eq_of_beq h2
    subst e1
    obtain ⟨vs, rfl, u1, r1, rfl, k1, u2, r2, rfl, k2, hn⟩ := hh
    simp only [tupAll] at hn
    subst hn
    rw [(one_str.1 k1).1, show u2 = _ from one_bool.1 k2, ← hs]
    cases c <;> rfl
  · cases h
theorem dexP_calls (w : World) (hW : WQ w) (v : Value) (a : Rat) (hv : IsRat w v a) (l : LimQ 6 a) : Calls Tryz.prog 18 #[v] w (RetSB (exTx a) (exM a).isSome w) := by
  obtain ⟨E, hE⟩ : ∃ E, E = sQE [tx (exY a 30) 30, shL (tx (exY a 30) 30)] [a, a * p10Q 30] [] := ⟨_, rfl⟩
  have hQ : QEnv E := by rw [hE]; exact sQE_ok _ _ _
  have s0 : E.s 0 = tx (exY a 30) 30 := by rw [hE]; rfl
  have s1 : E.s 1 = shL (tx (exY a 30) 30) := by rw [hE]; rfl
  have ra : RepQ E (qI 0) a := by rw [hE]; exact ⟨rfl, rfl⟩
  have rp : RepQ E (qI 2) (a * p10Q 30) := by rw [hE]; exact ⟨rfl, rfl⟩
  have hl := tx_len (exY_lim (d := 30) (by omega) l) (d := 30) (by omega)
  have hsl := shL_len (tx (exY a 30) 30)
  have hT : TabW Tryz.prog WQ E tabEx6 :=
    .cons (kKr_ok (scn_known (i := 0) (j := 2) (m := 30) (n := 30) (by omega) ra rp ((ap_lim (by omega) l).mono (by omega))) (kNoQ_ok ⟨_, Tryz.func37, by decide +kernel, by kernel_rfl⟩)).toW <| .cons kFmt_ok <|
    .cons (kKr_ok (wp_known (z := exY a 30) (t := .var 2) (d := 30) (by omega) rp.1 s0 (by omega)) (kNoQ_ok ⟨_, Tryz.func39, by decide +kernel, by kernel_rfl⟩)).toW <|
    .cons (kKr_ok (sh_known s0 (by omega) s1 (by omega)) (kNoQ_ok ⟨_, Tryz.func60, by decide +kernel, by kernel_rfl⟩)).toW tabInt_ok.toW
  have hG : Asm.holds E [gDen (exM a).isSome, gLen 1000 1] := asm_and (by
    show (cmpZ (E.i 3) 1 == (0 : Int)) = _
    rw [show E.i 3 = ((a * p10Q 30).den : Int) from rp.2, ex_iff, Bool.eq_iff_iff, beq_iff_eq, decide_eq_true_iff]
    rcases cmpZ_cases ((a * p10Q 30).den : Int) 1 with ⟨h, e⟩ | ⟨h, e⟩ | ⟨h, e⟩ <;> rw [e] <;> omega) <| asm_and (by
    show decide ((1000 : Int) < ((E.s 1).length : Int)) = false
    rw [s1, decide_eq_false_iff_not]; omega) asm_nil
  have hWk := List.all_eq_true.1 ex_walk6 (exM a).isSome (bools_mem _)
  cases hTe : funE (cfgW WQ tabEx6) Tryz.f18 [gDen (exM a).isSome, gLen 1000 1] [aQ6] with
  | none => rw [hTe] at hWk; unfold isEx6 at hWk; cases hWk
  | some T =>
    rw [hTe] at hWk
    refine (fun_sound mixed (cfgW_ok hT) hG Tryz.func18 (by decide +kernel) hTe (show 1 ≤ _ by decide +kernel) rfl w [v] rfl (one_hb (a6_holds ra hv l)) (fun w' e => hW.ext e)).mono ?_
    rintro e w' ⟨β, y, rfl, hh, ex⟩
    rw [ex6_out (t := exTx a) hWk hh ?_]
    · exact ⟨rfl, ex⟩
    · unfold exTx
      cases h : exM a with
      | none => rfl
      | some m =>
        obtain ⟨h1, h2, h3⟩ := exM_some h
        show E.s 1 = _
        rw [s1]
        exact ex_text h2 h3 h1 (by omega)
theorem er_none0 : isEx6 false 0 (funE (cfgOf (tabEr 0)) Tryz.f19 (gEr 31) [aQ6]) = true := by kernel_rfl
theorem pw_ok {E : Env} : ∀ ns : List Nat, (∀ n ∈ ns, n ≤ 30) → ConOK Tryz.prog E 14 (pwT ns)
  | [], _ => kNoQ_ok ⟨_, Tryz.func14, by decide +kernel, by kernel_rfl⟩
  | n :: ns, h => kKr_ok (pw_known (h n (by simp))) (pw_ok ns fun k hk => h k (by simp [hk]))
theorem gEr_ok {E : Env} {a : Rat} (ra : RepQ E (qI 0) a) (m : Nat) (h : ∀ k, k < m → (a * p10Q k).den ≠ 1) : (gEr m).holds E := by
  intro p hp
  unfold gEr at hp
  obtain ⟨k, hk, rfl⟩ := List.mem_map.1 hp
  have := h k (List.mem_range.1 hk)
  have r : RepQ E (exN k) (a * p10Q k) := rep_mul ra (pt10_rep k)
  show ((exN k).2.den E == (1 : Int)) = false
  rw [r.2, beq_eq_false_iff_ne]
  omega
theorem dexR_calls (w : World) (v : Value) (a : Rat) (hv : IsRat w v a) (l : LimQ 6 a) : Calls Tryz.prog 19 #[v] w (RetSB (exTx a) (exM a).isSome w) := by
  have tab : ∀ (E : Env) (m : Nat), QEnv E → m ≤ 30 → RepQ E (qI 0) a → E.s 0 = tx (exY a m) m → TabOK Tryz.prog E (tabEr m) := by
    intro E m hQ hm ra s0
    have r : RepQ E (exN m) (a * p10Q m) := rep_mul ra (pt10_rep m)
    have hl := tx_len (exY_lim hm l) hm
    exact .cons (pw_ok _ fun n hn => by have := List.mem_range.1 hn; omega) <|
      .cons (kIIb_ok (fun x y => x == y) (fun _ _ => rfl) (fun w v1 v2 z1 z2 h1 h2 => (rsame_calls w v1 v2 z1 z2 h1 h2).mono (fun e w' h => ⟨by rw [h.1]; by_cases hz : z1 = z2 <;> simp [hz], h.2⟩)) ⟨_, Tryz.func28, by decide +kernel, by kernel_rfl⟩) <|
      .cons (tabR1_ok.all (29, kFrom) (by simp [tabR1])) <|
      .cons (kKr_ok (shown_known (z := exY a m) hm r.1 s0 (by omega)) (kNoQ_ok ⟨_, Tryz.func41, by decide +kernel, by kernel_rfl⟩)) (tabT_ok hQ)
  cases hm : exM a with
  | some m =>
    obtain ⟨h1, h2, h3⟩ := exM_some hm
    have ht : exTx a = tx (exY a m) m := by unfold exTx; rw [hm]
    obtain ⟨E, hE⟩ : ∃ E, E = sQE [tx (exY a m) m] [a] [] := ⟨_, rfl⟩
    have hQ : QEnv E := by rw [hE]; exact sQE_ok _ _ _
    have s0 : E.s 0 = tx (exY a m) m := by rw [hE]; rfl
    have ra : RepQ E (qI 0) a := by rw [hE]; exact ⟨rfl, rfl⟩
    have r : RepQ E (exN m) (a * p10Q m) := rep_mul ra (pt10_rep m)
    have hl := tx_len (exY_lim h1 l) h1
    have hG : Asm.holds E ((.eq (exN m).2 (.lit 1), true) :: gLen 1000 0 :: gEr m) := asm_and (by
      show ((exN m).2.den E == (1 : Int)) = true
      rw [r.2, h2]; rfl) <| asm_and (by
      show decide ((1000 : Int) < ((E.s 0).length : Int)) = false
      rw [s0, decide_eq_false_iff_not]; omega) (gEr_ok ra m h3)
    have hWk := List.all_eq_true.1 er_walk m (List.mem_range.2 (by omega))
    cases hTe : funE (cfgOf (tabEr m)) Tryz.f19 ((.eq (exN m).2 (.lit 1), true) :: gLen 1000 0 :: gEr m) [aQ6] with
    | none => rw [hTe] at hWk; cases hWk
    | some T =>
      rw [hTe] at hWk
      refine (fun_sound mixed (cfg_ok (tab E m hQ h1 ra s0)) hG Tryz.func19 (by decide +kernel) hTe (show 1 ≤ _ by decide +kernel) rfl w [v] rfl (one_hb (a6_holds ra hv l))).mono ?_
      rintro e w' ⟨β, y, rfl, hh, ex⟩
      rw [ex6_out (t := exTx a) hWk hh (by rw [ht]; exact s0)]
      exact ⟨rfl, ex⟩
  | none =>
    have h3 := exM_none hm
    have ht : exTx a = [] := by unfold exTx; rw [hm]
    obtain ⟨E, hE⟩ : ∃ E, E = sQE [tx (exY a 0) 0] [a] [] := ⟨_, rfl⟩
    have hQ : QEnv E := by rw [hE]; exact sQE_ok _ _ _
    have s0 : E.s 0 = tx (exY a 0) 0 := by rw [hE]; rfl
    have ra : RepQ E (qI 0) a := by rw [hE]; exact ⟨rfl, rfl⟩
    have hWk := er_none0
    cases hTe : funE (cfgOf (tabEr 0)) Tryz.f19 (gEr 31) [aQ6] with
    | none => rw [hTe] at hWk; cases hWk
    | some T =>
      rw [hTe] at hWk
      refine (fun_sound mixed (cfg_ok (tab E 0 hQ (by omega) ra s0)) (gEr_ok ra 31 fun k hk => h3 k (by omega)) Tryz.func19 (by decide +kernel) hTe (show 1 ≤ _ by decide +kernel) rfl w [v] rfl (one_hb (a6_holds ra hv l))).mono ?_
      rintro e w' ⟨β, y, rfl, hh, ex⟩
      rw [ex6_out (t := exTx a) hWk hh (by rw [ht]; rfl)]
      exact ⟨rfl, ex⟩
def mmQ (n : Int) : Rat := Rat.divInt n 1000
def RetT (l : List UInt8) (w : World) (e : Ending) (w' : World) : Prop := e = .returned (.string ⟨l.toArray⟩) ∧ Ext w w'
theorem mm_scale (n : Int) : mmQ n * p10Q 3 = ((n : Int) : Rat) := by
  unfold mmQ p10Q
  rw [show ((10 : Int) ^ 3 : Int) = 1000 by rfl, Rat.divInt_eq_div]
  have : ((1000 : Int) : Rat) ≠ 0 := by decide
  grind
theorem mm_some (n : Int) : ∃ m, exM (mmQ n) = some m ∧ m ≤ 3 := by
  have h3 : (mmQ n * p10Q 3).den = 1 := by rw [mm_scale]; exact Rat.den_intCast _
  cases h : exM (mmQ n) with
  | none => exact absurd h3 (exM_none h 3 (by omega))
  | some m =>
    refine ⟨m, rfl, ?_⟩
    obtain ⟨_, _, k3⟩ := exM_some h
    rcases Nat.lt_or_ge 3 m with h4 | h4
    · exact absurd h3 (k3 3 h4)
    · exact h4
theorem mm_text (n : Int) : shL (tx n 3) = exTx (mmQ n) := by
  obtain ⟨m, h, hm⟩ := mm_some n
  obtain ⟨_, k2, k3⟩ := exM_some h
  have hy : exY (mmQ n) 3 = n := by unfold exY; rw [mm_scale]; exact Rat.num_intCast _
  unfold exTx
  rw [h]
  have := ex_text k2 k3 hm (by omega)
  rw [hy] at this
  exact this
theorem i64_limB {n : Int} (h1 : -9223372036854775808 ≤ n) (h2 : n ≤ 9223372036854775807) : Lim 3 n := limbs_len_le (by omega)
theorem mm_lim {n : Int} (h1 : -9223372036854775808 ≤ n) (h2 : n ≤ 9223372036854775807) : LimQ 6 (mmQ n) := by
  have := divInt_lim (i64_limB h1 h2) (show Lim 2 (1000 : Int) from limbs_len_le (by decide)) (by decide)
  exact ⟨this.1.mono (by omega), this.2.mono (by omega)⟩
theorem gI6_ok {E : Env} {n : Int} (e0 : E.i 0 = n) (h1 : -9223372036854775808 ≤ n) (h2 : n ≤ 9223372036854775807) : gI6.holds E := asm_and (by
    show decide ((-9223372036854775808 : Int) ≤ E.i 0) = true
    rw [e0, decide_eq_true_iff]; exact h1) <| asm_and (by
    show decide (E.i 0 ≤ (9223372036854775807 : Int)) = true
    rw [e0, decide_eq_true_iff]; exact h2) asm_nil
theorem str_out6 {E : Env} {β : Nat → Nat} {w : World} {v : Value} {i : Nat} {t : List UInt8} {T : Tree} (h : isStr i (some T) = true) (hh : (toAV (T.pick E)).holds E β w v) (hs : E.s i = t) : v = .string ⟨t.toArray⟩ := by
  unfold isStr at h
  split at h
  · rename_i j m e
    cases e
    rw [beq_iff_eq] at h
    subst h
    rw [← hs]
    exact (one_str.1 hh).1
  · cases h
theorem mmP_calls (w : World) (hW : WQ w) (n : Int) (h1 : -9223372036854775808 ≤ n) (h2 : n ≤ 9223372036854775807) : Calls Tryz.prog 21 #[.int .i64 n] w (RetT (exTx (mmQ n)) w) := by
  obtain ⟨E, hE⟩ : ∃ E : Env, E = ⟨fun _ => n, fun _ => false, fun _ => (false, []), fun i => if i = 0 then tx n 3 else exTx (mmQ n)⟩ := ⟨_, rfl⟩
  have e0 : E.i 0 = n := by rw [hE]
  have s0 : E.s 0 = tx n 3 := by rw [hE]; rfl
  have s1 : E.s 1 = exTx (mmQ n) := by rw [hE]; rfl
  have hl := tx_len (i64_limB h1 h2) (d := 3) (by omega)
  have hsl := shL_len (tx n 3)
  have hT : TabW Tryz.prog WQ E tabMm := .cons kFI6_ok <|
    .cons (kKr_ok (wp_known (t := .var 0) (d := 3) (by omega) e0 s0 (by omega)) (kNoQ_ok ⟨_, Tryz.func39, by decide +kernel, by kernel_rfl⟩)).toW <|
    .cons (kKr_ok (sh_known s0 (by omega) (s1.trans (mm_text n).symm) (by omega)) (kNoQ_ok ⟨_, Tryz.func60, by decide +kernel, by kernel_rfl⟩)).toW .nil
  have hWk := mm_walk
  cases hTe : funE (cfgW WQ tabMm) Tryz.f21 gI6 [.val false [.n .i64 (.var 0)]] with
  | none => rw [hTe] at hWk; cases hWk
  | some T =>
    rw [hTe] at hWk
    refine (fun_sound mixed (cfgW_ok hT) (gI6_ok e0 h1 h2) Tryz.func21 (by decide +kernel) hTe (show 1 ≤ _ by decide +kernel) rfl w [.int .i64 n] rfl (one_hb (fun β => one_num.2 (by show _ = Value.int .i64 (E.i 0); rw [e0]))) (fun w' e => hW.ext e)).mono ?_
    rintro e w' ⟨β, y, rfl, hh, ex⟩
    rw [str_out6 hWk hh s1]
    exact ⟨rfl, ex⟩
theorem mmR_calls (w : World) (n : Int) (h1 : -9223372036854775808 ≤ n) (h2 : n ≤ 9223372036854775807) : Calls Tryz.prog 23 #[.int .i64 n] w (RetT (exTx (mmQ n)) w) := by
  obtain ⟨E, hE⟩ : ∃ E, E = sQE [exTx (mmQ n)] [((n : Int) : Rat)] [] := ⟨_, rfl⟩
  have hQ : QEnv E := by rw [hE]; exact sQE_ok _ _ _
  have e0 : E.i 0 = n := by rw [hE]; exact qE_int (i := 0) (l := [((n : Int) : Rat)]) rfl
  have s0 : E.s 0 = exTx (mmQ n) := by rw [hE]; rfl
  have lm := mm_lim h1 h2
  have hl := exTx_len lm
  obtain ⟨m, hm, _⟩ := mm_some n
  have rt : Reps E [(.a2 7 (.var 0) (.lit 1000), .a2 8 (.var 0) (.lit 1000))] [mmQ n] := ⟨⟨by show (Rat.divInt (E.i 0) 1000).num = _; rw [e0]; rfl, by show ((Rat.divInt (E.i 0) 1000).den : Int) = _; rw [e0]; rfl⟩, trivial⟩
  have hT : TabOK Tryz.prog E tabMr := .cons (kKr_ok ⟨fun args ha β w vs hv hl' => (by
    unfold c6 at ha
    split at ha
    · obtain ⟨v, rfl, us, rfl, k1⟩ := args1 hv hl'
      refine (dexR_calls w _ (mmQ n) (qs_rat ⟨us, rfl, t6_holds rt ha k1⟩) lm).mono ?_
      rintro e w' ⟨rfl, ex⟩
      refine ⟨_, rfl, fun β => ⟨[_, _], rfl, _, _, rfl, one_str.2 ⟨by show _ = Value.string ⟨(E.s 0).toArray⟩; rw [s0], by show (E.s 0).length ≤ _; rw [s0]; omega⟩, _, _, rfl, one_bool.2 (by rw [hm]; rfl), rfl⟩, ex⟩
    · cases ha), fun x off e => by cases e⟩ (kNoQ_ok ⟨_, Tryz.func19, by decide +kernel, by kernel_rfl⟩)) (tabT_ok hQ)
  have hWk := mr_walk
  cases hTe : funE (cfgOf tabMr) Tryz.f23 gI6 [.val false [.n .i64 (.var 0)]] with
  | none => rw [hTe] at hWk; cases hWk
  | some T =>
    rw [hTe] at hWk
    refine (fun_sound mixed (cfg_ok hT) (gI6_ok e0 h1 h2) Tryz.func23 (by decide +kernel) hTe (show 1 ≤ _ by decide +kernel) rfl w [.int .i64 n] rfl (one_hb (fun β => one_num.2 (by show _ = Value.int .i64 (E.i 0); rw [e0])))).mono ?_
    rintro e w' ⟨β, y, rfl, hh, ex⟩
    rw [str_out6 hWk hh s0]
    exact ⟨rfl, ex⟩
end Go.Proofs.YtnejcdjakjmklaaGreatDoor
end

section
set_option maxRecDepth 100000
namespace Go.Proofs.YtnejcdjakjmklaaGreatDoor
open Go.RowKit Go.Shelf
def rSN (i : Nat) (z : Int) : AV := .tup [(false, [.str (.var i) 65536]), (false, [.n .i64 (.lit z)])]
def rSB (i : Nat) (b : Bool) : AV := .tup [(false, [.str (.var i) 65536]), (false, [.b (.lit b)])]
def rP30 : AV := .tup [(true, [.int (.var 4) 30, .int (.var 5) 30]), (false, [.n .i64 (.lit 0)])]
noncomputable def tabLF (d : Nat) : List (Nat × Con) :=
  (7, kAw6) :: (8, kKq (cTn [qI 0] 6) (rBl true) kNoQ) ::
  (9, kKq (cTn [qI 0] (d : Int)) (rSN 0 0) kNoQ) :: (10, kKq (cTn [qI 0] (d : Int)) (rSN 0 0) kNoQ) ::
  (11, kKq (cStr 0) rP30 kNoQ) :: (14, kKq (cLitN (d : Int)) (.val true [.int (.lit ((10 : Int) ^ d)) 4, .int (.lit 1) 1]) kNoQ) :: tabT
def dfT (d : Nat) : IT2 := qop 2 (qop 1 (qI 4) (qI 0)) (ptT10 d)
def gLFx (d : Nat) : Asm := [(.le (qcmp (dfT d) hfT) (.lit 0), true), (.lt (qcmp (qng (dfT d)) hfT) (.lit 0), true)]
theorem lF_walk : ((List.range 31).all fun d => okL6 (funE (cfgW WQ (tabLF d)) Tryz.f3 (gLFx d) [aQ6, .val false [.n .i64 (.lit (d : Int))]])) = true := by kernel_rfl
def cTv (ts : List IT2) : List AV → Bool
  | [.val true cs, .val false [.n .i64 (.var 5)]] => t6 ts cs
  | _ => false
noncomputable def tabLFo : List (Nat × Con) :=
  (7, kAw6) :: (8, kKq (cTn [qI 0] 6) (rBl true) kNoQ) ::
  (9, kKq (cTv [qI 0]) (rSN 0 1) kNoQ) :: (10, kKq (cTv [qI 0]) (rSN 0 1) kNoQ) :: []
theorem lFo_walk : okL6 (funE (cfgW WQ tabLFo) Tryz.f3 [] [aQ6, .val false [.n .i64 (.var 5)]]) = true := by kernel_rfl
def cR6n : List AV → Bool
  | [.val true [.raw a, .raw b], .val false [.n .i64 (.lit z)]] => (a == 0 && b == 1) && z == 6
  | _ => false
noncomputable def tabL0 : List (Nat × Con) := (7, kAw6) :: (8, kKq cR6n (rBl false) kNoQ) :: []
theorem lF_big : okL6 (funE (cfgW WQ tabL0) Tryz.f3 [] [argRaw 0 1, .val false [.n .i64 (.var 5)]]) = true := by kernel_rfl
noncomputable def tabLE (b : Bool) : List (Nat × Con) :=
  (7, kAw6) :: (8, kKq (cTn [qI 0] 6) (rBl true) kNoQ) ::
  (18, kKq (c6 [qI 0]) (rSB 0 b) kNoQ) :: (19, kKq (c6 [qI 0]) (rSB 0 b) kNoQ) ::
  (11, if b then kKq (cStr 0) (.tup [(true, [.int (.var 0) 30, .int (.var 1) 30]), (false, [.n .i64 (.lit 0)])]) kNoQ else kNoQ) :: (20, kSame) :: []
theorem lE_walk : (bools.all fun b => okL6 (funE (cfgW WQ (tabLE b)) Tryz.f4 [] [aQ6])) = true := by kernel_rfl
theorem lE_big : okL6 (funE (cfgW WQ tabL0) Tryz.f4 [] [argRaw 0 1]) = true := by kernel_rfl
def cV0 : List AV → Bool
  | [.val false [.n .i64 (.var 0)]] => true
  | _ => false
noncomputable def tabLL (k : Bool) : List (Nat × Con) :=
  (7, kAw6) :: (21, kKq cV0 (.val false [.str (.var 0) 65536]) kNoQ) :: (23, kKq cV0 (.val false [.str (.var 0) 65536]) kNoQ) ::
  (22, kKq (cStr 0) (.tup [(false, [.n .i64 (if k then .var 0 else .lit 0)]), (false, [.n .i64 (.lit (if k then 0 else 11))])]) kNoQ) :: []
def gLL (l h : Bool) : Asm := [(.lt (.var 0) (.lit (-10000000)), l), (.le (.lit (-10000000)) (.var 0), !l), (.lt (.lit 10000000) (.var 0), h), (.le (.var 0) (.lit 10000000), !h)]
theorem lL_walk : (bools.all fun l => bools.all fun h => okL6 (funE (cfgW WQ (tabLL (!l && !h))) Tryz.f5 (gLL l h) [.val false [.n .i64 (.var 0)]])) = true := by kernel_rfl
end Go.Proofs.YtnejcdjakjmklaaGreatDoor
end

section
set_option maxRecDepth 100000
namespace Go.Proofs.YtnejcdjakjmklaaGreatDoor
open Go.RowKit Go.Shelf
theorem rsmall6_calls (w : World) (v : Value) (p q : RI) (h : RawQ w v p.1 p.2 q.1 q.2) :
    Calls Tryz.prog 8 #[v, .int .i64 6] w fun e w' => e = .returned (.bool (smN 6 p q)) ∧ Ext w w' := by
  refine (fun_sound (C := cfgOf [(34, kRVN 6)]) (E := bE okQ [p, q]) (args := [argRaw 0 1, .val false [.n .i64 (.lit 6)]])
    (T := .ite (.le (.rlen 0) (.lit 6)) (.ite (.le (.rlen 1) (.lit 6)) (.leaf [(false, [.b (.var 0)])]) (.leaf [(false, [.b (.lit false)])])) (.leaf [(false, [.b (.lit false)])]))
    mixed (cfg_ok (.cons (kRVN_ok (bE_ok _) (fun w v s1 s2 xs1 xs2 h l1 l2 => rvalid_rat_calls w v s1 s2 xs1 xs2 h l1 l2) ⟨_, Tryz.func34, by decide +kernel, by kernel_rfl⟩) .nil)) no_asm Tryz.func8 (by decide +kernel) (by kernel_rfl) (by decide +kernel) rfl w [v, .int .i64 6] rfl ?_).mono ?_
  · intro i x hx
    match i, hx with
    | 0, hx => injection hx with hx; subst hx; exact ⟨fun _ => 0, v, rfl, argRaw_holds h rfl rfl⟩
    | 1, hx => injection hx with hx; subst hx; exact ⟨fun _ => 0, _, rfl, one_num.2 rfl⟩
  · rintro e w' ⟨β, u, rfl, hh, ex⟩
    have t1 : (BT.le (.rlen 0) (.lit 6)).den (bE okQ [p, q]) = decide (p.2.length ≤ 6) := by
      show decide ((p.2.length : Int) ≤ 6) = _
      rw [decide_eq_decide]; omega
    have t2 : (BT.le (.rlen 1) (.lit 6)).den (bE okQ [p, q]) = decide (q.2.length ≤ 6) := by
      show decide ((q.2.length : Int) ≤ 6) = _
      rw [decide_eq_decide]; omega
    simp only [Tree.pick, t1, t2, decide_eq_true_iff] at hh
    unfold smN
    split at hh
    · rename_i c1
      split at hh
      · rename_i c2
        have := one_bool.1 hh
        subst this
        rw [decide_eq_true c1, decide_eq_true c2]
        exact ⟨rfl, ex⟩
      · rename_i c2
        have := one_bool.1 hh
        subst this
        rw [decide_eq_false c2, Bool.and_false]
        exact ⟨rfl, ex⟩
    · rename_i c1
      have := one_bool.1 hh
      subst this
      rw [decide_eq_false c1]
      exact ⟨rfl, ex⟩
theorem sm6_body : ∃ fn, Tryz.prog.funcs[8]? = some fn ∧ fn.name ≠ "runtime.NumGoroutine" ∧ fn.body.isNone = false := ⟨_, Tryz.func8, by decide +kernel, by kernel_rfl⟩
theorem sm6_known {E : Env} {a : Rat} (ra : RepQ E (qI 0) a) (l : LimQ 6 a) : KnownR E 8 (cTn [qI 0] 6) (rBl true) :=
  tn_known (d := 6) ra (fun x off e => by cases e) fun w v hv _ => (rsmall6_calls w v _ _ (rat_raw hv).1).mono (by
    rintro e w' ⟨rfl, ex⟩
    exact ⟨_, rfl, fun β => one_bool.2 (by rw [smN_rawQ hv l]; rfl), ex⟩)
theorem sm6_big {E : Env} (h : smN 6 (E.r 0) (E.r 1) = false) : KnownR E 8 cR6n (rBl false) := by
  refine ⟨fun args ha β w vs hv hl => ?_, fun x off e => by cases e⟩
  unfold cR6n at ha
  split at ha
  · simp only [Bool.and_eq_true, beq_iff_eq] at ha
    obtain ⟨⟨rfl, rfl⟩, rfl⟩ := ha
    obtain ⟨v, u, rfl, h1, h2⟩ := args2 hv hl
    have h2' := one_num.1 h2
    subst h2'
    refine (rsmall6_calls w v _ _ (one_raw2 h1)).mono ?_
    rintro e w' ⟨rfl, ex⟩
    exact ⟨_, rfl, fun β => one_bool.2 (by rw [h]; rfl), ex⟩
  · cases ha
theorem conW_of {E : Env} {f : Nat} {cond : List AV → Bool} {r : AV} (np : ∀ x off, r ≠ .ptr x off) (hb : ∃ fn, Tryz.prog.funcs[f]? = some fn ∧ fn.name ≠ "runtime.NumGoroutine" ∧ fn.body.isNone = false)
    (h : ∀ args, cond args = true → ∀ (β : Nat → Nat) (w : World) (vs : List Value), WQ w → (∀ (i : Nat) (x : AV), args[i]? = some x → ∃ v, vs[i]? = some v ∧ x.holds E β w v) → vs.length = args.length → Calls Tryz.prog f vs.toArray w fun e w' => ∃ x, e = .returned x ∧ (∀ β, r.holds E β w' x) ∧ Ext w w') : ConW Tryz.prog WQ E f (kKq cond r kNoQ) := by
  refine ⟨?_, ?_, hb⟩
  · intro args G s hs hG β w vs hW hv hlen
    unfold kKq at hs
    split at hs
    · rename_i hc
      injection hs with hs
      subst hs
      refine (h args hc β w vs hW hv hlen).mono ?_
      rintro e w' ⟨x, rfl, hx, ex⟩
      exact ⟨x, rfl, hx β, ex⟩
    · cases hs
  · intro args G s hs x off
    unfold kKq at hs
    split at hs
    · injection hs with hs; subst hs; exact np x off
    · cases hs
theorem cTn_args {E : Env} {a : Rat} {d : Int} {args : List AV} {β : Nat → Nat} {w : World} {vs : List Value} (ra : RepQ E (qI 0) a) (ha : cTn [qI 0] d args = true) (hv : ∀ (i : Nat) (x : AV), args[i]? = some x → ∃ v, vs[i]? = some v ∧ x.holds E β w v) (hl : vs.length = args.length) : ∃ v, vs = [v, .int .i64 d] ∧ IsRat w v a := by
  unfold cTn at ha
  split at ha
  · simp only [Bool.and_eq_true, beq_iff_eq] at ha
    obtain ⟨⟨h1, h2⟩, rfl⟩ := ha
    obtain ⟨v, u, rfl, ⟨us, rfl, hu⟩, k2⟩ := args2 hv hl
    have k2' := one_num.1 k2
    subst k2'
    exact ⟨_, rfl, qs_rat ⟨us, rfl, t6_holds (show Reps E [qI 0] [a] from ⟨ra, trivial⟩) h1 hu⟩⟩
  · cases ha
theorem cTv_args {E : Env} {a : Rat} {d : Int} {args : List AV} {β : Nat → Nat} {w : World} {vs : List Value} (ra : RepQ E (qI 0) a) (e5 : E.i 5 = d) (ha : cTv [qI 0] args = true) (hv : ∀ (i : Nat) (x : AV), args[i]? = some x → ∃ v, vs[i]? = some v ∧ x.holds E β w v) (hl : vs.length = args.length) : ∃ v, vs = [v, .int .i64 d] ∧ IsRat w v a := by
  unfold cTv at ha
  split at ha
  · obtain ⟨v, u, rfl, ⟨us, rfl, hu⟩, k2⟩ := args2 hv hl
    have k2' := one_num.1 k2
    subst k2'
    exact ⟨_, by rw [← e5]; rfl, qs_rat ⟨us, rfl, t6_holds (show Reps E [qI 0] [a] from ⟨ra, trivial⟩) ha hu⟩⟩
  · cases ha
theorem c6_args {E : Env} {a : Rat} {args : List AV} {β : Nat → Nat} {w : World} {vs : List Value} (ra : RepQ E (qI 0) a) (ha : c6 [qI 0] args = true) (hv : ∀ (i : Nat) (x : AV), args[i]? = some x → ∃ v, vs[i]? = some v ∧ x.holds E β w v) (hl : vs.length = args.length) : ∃ v, vs = [v] ∧ IsRat w v a := by
  unfold c6 at ha
  split at ha
  · obtain ⟨v, rfl, us, rfl, hu⟩ := args1 hv hl
    exact ⟨_, rfl, qs_rat ⟨us, rfl, t6_holds (show Reps E [qI 0] [a] from ⟨ra, trivial⟩) ha hu⟩⟩
  · cases ha
theorem rSN_holds {E : Env} {w : World} {i : Nat} {l : List UInt8} {z : Int} (hs : E.s i = l) (hl : l.length ≤ 65536) : ∀ β, (rSN i z).holds E β w (.tuple #[.string ⟨l.toArray⟩, .int .i64 z]) := fun β => ⟨[_, _], rfl, _, _, rfl, one_str.2 ⟨by show _ = Value.string ⟨(E.s i).toArray⟩; rw [hs], by show (E.s i).length ≤ _; rw [hs]; exact hl⟩, _, _, rfl, one_num.2 rfl, rfl⟩
theorem rSB_holds {E : Env} {w : World} {i : Nat} {l : List UInt8} {b : Bool} (hs : E.s i = l) (hl : l.length ≤ 65536) : ∀ β, (rSB i b).holds E β w (.tuple #[.string ⟨l.toArray⟩, .bool b]) := fun β => ⟨[_, _], rfl, _, _, rfl, one_str.2 ⟨by show _ = Value.string ⟨(E.s i).toArray⟩; rw [hs], by show (E.s i).length ≤ _; rw [hs]; exact hl⟩, _, _, rfl, one_bool.2 rfl, rfl⟩
theorem ps_known {E : Env} {l : List UInt8} {i j : Nat} {q : Rat} (h65 : l.length ≤ 65536) (hs : E.s i = l) (ho : okD l = true) (hq : qD l = q) (rq : RepQ E (qI j) q) (lq : LimQ 30 q) : ConW Tryz.prog WQ E 11 (kKq (cStr i) (.tup [(true, [.int (.var j) 30, .int (.var (j + 1)) 30]), (false, [.n .i64 (.lit 0)])]) kNoQ) := by
  refine strW_ok (fun x off e => by cases e) ⟨_, Tryz.func11, by decide +kernel, by kernel_rfl⟩ fun w hW => ?_
  rw [hs]
  refine (dparse_calls w hW l h65).mono ?_
  rintro e w' ⟨v, rfl, hv, ex⟩
  rw [ho, if_pos rfl, hq] at hv
  rw [ho]
  obtain ⟨us, rfl, hu⟩ := (one_q (A := qI j) rq).2 ⟨hv, lq.1, lq.2⟩
  exact ⟨_, rfl, fun β => ⟨[.agg us.toArray, .int .i64 0], rfl, _, _, rfl, ⟨us, rfl, hu⟩, _, _, rfl, one_num.2 rfl, rfl⟩, ex⟩
theorem p10_ne (d : Nat) : ((10 : Int) ^ d) ≠ 0 := Int.ne_of_gt (Int.pow_pos (by decide))
theorem p10Q_pos (d : Nat) : (0 : Rat) < p10Q d := by
  unfold p10Q
  exact_mod_cast (Int.pow_pos (by decide) : (0 : Int) < (10 : Int) ^ d)
theorem mul_can {x y p : Rat} (hp : 0 < p) (h : x * p = y * p) : x = y := by
  have hne : p ≠ 0 := by grind
  have h1 := Rat.mul_inv_cancel p hne
  have h2 : x * p * p⁻¹ = y * p * p⁻¹ := by rw [h]
  rw [Rat.mul_assoc, Rat.mul_assoc, h1, Rat.mul_one, Rat.mul_one] at h2
  exact h2
theorem tx_val (y : Int) (d : Nat) : Rat.divInt y ((10 : Int) ^ d) * p10Q d = (y : Rat) := by
  rw [Rat.divInt_eq_div]
  have h := p10Q_pos d
  unfold p10Q at h ⊢
  grind
theorem txq_lim {y : Int} {d : Nat} (hd : d ≤ 30) (l : Lim 12 y) : LimQ 30 (Rat.divInt y ((10 : Int) ^ d)) := by
  have p : Lim 4 ((10 : Int) ^ d) := by
    refine limbs_len_le ?_
    rw [Int.natAbs_pow]
    refine Nat.lt_of_le_of_lt (Nat.pow_le_pow_right (by decide) hd) ?_
    decide +kernel
  have := divInt_lim l p (p10_ne d)
  exact ⟨this.1.mono (by omega), this.2.mono (by omega)⟩
theorem i64_two {E : Env} {w : World} {v : Value} {x : AV} {n : Int} {i : Nat} (e : E.i i = n) (h : ∀ β, x.holds E β w v) : ∀ (j : Nat) (s : AV), [x, .val false [.n .i64 (.var i)]][j]? = some s → ∃ r, [v, Value.int .i64 n][j]? = some r ∧ ∀ β, s.holds E β w r :=
  two_hold h fun β => one_num.2 (by show _ = Value.int .i64 (E.i i); rw [e])
theorem fmt_half (a : Rat) (d : Nat) : ((Rat.divInt (fz a d) ((10 : Int) ^ d) - a) * p10Q d ≤ Rat.divInt 1 2) ∧ (-((Rat.divInt (fz a d) ((10 : Int) ^ d) - a) * p10Q d) < Rat.divInt 1 2) := by
  have h1 := Rat.floor_le (fzQ a d)
  have h2 := Rat.lt_floor_add_one (fzQ a d)
  rw [← fz_floor] at h1 h2
  have e : (Rat.divInt (fz a d) ((10 : Int) ^ d) - a) * p10Q d = (fz a d : Rat) - a * p10Q d := by
    have e1 : ∀ x y p : Rat, (x - y) * p = x * p - y * p := fun x y p => by grind
    rw [e1, tx_val]
  have h3 : ((fz a d + 1 : Int) : Rat) = (fz a d : Rat) + 1 := by rw [Rat.intCast_add]; rfl
  rw [h3] at h2
  rw [e]
  unfold fzQ at h1 h2
  have hh : Rat.divInt 1 2 + Rat.divInt 1 2 = 1 := by decide +kernel
  constructor <;> grind
theorem formatV_calls (w : World) (hw : WQ w) (v : Value) (a : Rat) (n : Int) (hv : IsRat w v a) (l : LimQ 6 a) : Calls Tryz.prog 3 #[v, .int .i64 n] w (IsT w) := by
  by_cases hn : n < 0 ∨ 30 < n
  · obtain ⟨E, hE⟩ : ∃ E : Env, E = ⟨fun i => if i = 5 then n else if i = 0 then a.num else (a.den : Int), fun _ => false, fun _ => (false, []), fun _ => []⟩ := ⟨_, rfl⟩
    have e5 : E.i 5 = n := by rw [hE]; rfl
    have s0 : E.s 0 = [] := by rw [hE]
    have ra : RepQ E (qI 0) a := by rw [hE]; exact ⟨rfl, rfl⟩
    have hT : TabW Tryz.prog WQ E tabLFo := .cons kAw6_ok <| .cons (kKr_ok (sm6_known ra l) (kNoQ_ok sm6_body)).toW <|
      .cons (conW_of (fun x off e => by cases e) ⟨_, Tryz.func9, by decide +kernel, by kernel_rfl⟩ fun args ha β w vs hW hv hl => by
        obtain ⟨v, rfl, h1⟩ := cTv_args ra e5 ha hv hl
        refine (dfmtO_calls true w v a n hn h1 l).mono ?_
        rintro e w' ⟨rfl, ex⟩
        exact ⟨_, rfl, rSN_holds s0 (by simp), ex⟩) <|
      .cons (conW_of (fun x off e => by cases e) ⟨_, Tryz.func10, by decide +kernel, by kernel_rfl⟩ fun args ha β w vs hW hv hl => by
        obtain ⟨v, rfl, h1⟩ := cTv_args ra e5 ha hv hl
        refine (dfmtO_calls false w v a n hn h1 l).mono ?_
        rintro e w' ⟨rfl, ex⟩
        exact ⟨_, rfl, rSN_holds s0 (by simp), ex⟩) .nil
    exact law6_calls hT no_asm Tryz.func3 (by decide +kernel) lFo_walk (show 2 ≤ _ by decide +kernel) rfl w hw [v, .int .i64 n] rfl (i64_two e5 (a6_holds ra hv l))
  · obtain ⟨d, rfl⟩ : ∃ d : Nat, n = (d : Int) := ⟨n.toNat, by omega⟩
    have hd : d ≤ 30 := by omega
    have lz := fz_lim hd l
    have hl := tx_len lz hd
    obtain ⟨o1, o2, _⟩ := tx_parse (fz a d) d hd (by omega)
    obtain ⟨q, hq⟩ : ∃ q, q = Rat.divInt (fz a d) ((10 : Int) ^ d) := ⟨_, rfl⟩
    obtain ⟨f1, f2⟩ := fmt_half a d
    have lq := txq_lim hd lz
    rw [← hq] at o2 f1 f2 lq
    obtain ⟨E, hE⟩ : ∃ E, E = sQE [tx (fz a d) d] [a, 0, q] [] := ⟨_, rfl⟩
    have hQ : QEnv E := by rw [hE]; exact sQE_ok _ _ _
    have s0 : E.s 0 = tx (fz a d) d := by rw [hE]; rfl
    have ra : RepQ E (qI 0) a := by rw [hE]; exact ⟨rfl, rfl⟩
    have rq : RepQ E (qI 4) q := by rw [hE]; exact ⟨rfl, rfl⟩
    have rd : RepQ E (dfT d) ((q - a) * p10Q d) := rep_mul (rep_sub rq ra) (pt10_rep d)
    have rn : RepQ E (qng (dfT d)) (-((q - a) * p10Q d)) := rep_ng rd
    have hT : TabW Tryz.prog WQ E (tabLF d) := .cons kAw6_ok <| .cons (kKr_ok (sm6_known ra l) (kNoQ_ok sm6_body)).toW <|
      .cons (conW_of (fun x off e => by cases e) ⟨_, Tryz.func9, by decide +kernel, by kernel_rfl⟩ fun args ha β w vs hW hv hl' => by
        obtain ⟨v, rfl, h1⟩ := cTn_args ra ha hv hl'
        refine (dfmtP_calls w hW v a d hd h1 l).mono ?_
        rintro e w' ⟨rfl, ex⟩
        exact ⟨_, rfl, rSN_holds s0 (by omega), ex⟩) <|
      .cons (conW_of (fun x off e => by cases e) ⟨_, Tryz.func10, by decide +kernel, by kernel_rfl⟩ fun args ha β w vs hW hv hl' => by
        obtain ⟨v, rfl, h1⟩ := cTn_args ra ha hv hl'
        refine (dfmtR_calls w v a d hd h1 l).mono ?_
        rintro e w' ⟨rfl, ex⟩
        exact ⟨_, rfl, rSN_holds s0 (by omega), ex⟩) <|
      .cons (ps_known (by omega) s0 o1 o2 rq lq) <|
      .cons (kKr_ok (pw_known hd) (kNoQ_ok ⟨_, Tryz.func14, by decide +kernel, by kernel_rfl⟩)).toW (tabT_ok hQ).toW
    have hG : (gLFx d).holds E := asm_and (by
      show decide ((qcmp (dfT d) hfT).den E ≤ 0) = true
      rw [rep_cmp rd hf_rep, decide_eq_true_iff]
      rcases sgQ_cases ((q - a) * p10Q d - Rat.divInt 1 2) with ⟨h, e⟩ | ⟨h, e⟩ | ⟨h, e⟩
      · rw [e]; decide
      · rw [e]; decide
      · exfalso; grind) <| asm_and (by
      show decide ((qcmp (qng (dfT d)) hfT).den E < 0) = true
      rw [rep_cmp rn hf_rep, decide_eq_true_iff]
      rcases sgQ_cases (-((q - a) * p10Q d) - Rat.divInt 1 2) with ⟨h, e⟩ | ⟨h, e⟩ | ⟨h, e⟩
      · rw [e]; decide
      · exfalso; grind
      · exfalso; grind) asm_nil
    exact law6_calls hT hG Tryz.func3 (by decide +kernel) (List.all_eq_true.1 lF_walk d (List.mem_range.2 (by omega))) (show 2 ≤ _ by decide +kernel) rfl w hw [v, .int .i64 (d : Int)] rfl (two_hold (a6_holds ra hv l) fun β => one_num.2 rfl)
theorem tabL0_ok {E : Env} (h : smN 6 (E.r 0) (E.r 1) = false) : TabW Tryz.prog WQ E tabL0 := .cons kAw6_ok <| .cons (kKr_ok (sm6_big h) (kNoQ_ok sm6_body)).toW .nil
theorem decimalFormat_calls (w : World) (hw : WQ w) (v : Value) (s1 : Bool) (xs1 : List Nat) (s2 : Bool) (xs2 : List Nat) (h : RawQ w v s1 xs1 s2 xs2) (n : Int) : Calls Tryz.prog 3 #[v, .int .i64 n] w (IsT w) := by
  cases hs : smN 6 (s1, xs1) (s2, xs2) with
  | true =>
    obtain ⟨k1, k2⟩ := smN_rat (p := (s1, xs1)) (q := (s2, xs2)) h hs
    exact formatV_calls w hw v _ n k1 k2
  | false =>
    obtain ⟨E, hE⟩ : ∃ E : Env, E = ⟨fun _ => n, fun _ => false, fun i => if i = 0 then (s1, xs1) else (s2, xs2), fun _ => []⟩ := ⟨_, rfl⟩
    have e5 : E.i 5 = n := by rw [hE]
    have r0 : E.r 0 = (s1, xs1) := by rw [hE]; rfl
    have r1 : E.r 1 = (s2, xs2) := by rw [hE]; rfl
    exact law6_calls (tabL0_ok (by rw [r0, r1]; exact hs)) no_asm Tryz.func3 (by decide +kernel) lF_big (show 2 ≤ _ by decide +kernel) rfl w hw [v, .int .i64 n] rfl (i64_two e5 fun β => argRaw_holds h r0 r1)
theorem exactV_calls (w : World) (hw : WQ w) (v : Value) (a : Rat) (hv : IsRat w v a) (l : LimQ 6 a) : Calls Tryz.prog 4 #[v] w (IsT w) := by
  obtain ⟨E, hE⟩ : ∃ E, E = sQE [exTx a] [a] [] := ⟨_, rfl⟩
  have s0 : E.s 0 = exTx a := by rw [hE]; rfl
  have ra : RepQ E (qI 0) a := by rw [hE]; exact ⟨rfl, rfl⟩
  have hl := exTx_len l
  have hT : TabW Tryz.prog WQ E (tabLE (exM a).isSome) := .cons kAw6_ok <| .cons (kKr_ok (sm6_known ra l) (kNoQ_ok sm6_body)).toW <|
    .cons (conW_of (fun x off e => by cases e) ⟨_, Tryz.func18, by decide +kernel, by kernel_rfl⟩ fun args ha β w vs hW hv hl' => by
      obtain ⟨v, rfl, h1⟩ := c6_args ra ha hv hl'
      refine (dexP_calls w hW v a h1 l).mono ?_
      rintro e w' ⟨rfl, ex⟩
      exact ⟨_, rfl, rSB_holds s0 (by omega), ex⟩) <|
    .cons (conW_of (fun x off e => by cases e) ⟨_, Tryz.func19, by decide +kernel, by kernel_rfl⟩ fun args ha β w vs hW hv hl' => by
      obtain ⟨v, rfl, h1⟩ := c6_args ra ha hv hl'
      refine (dexR_calls w v a h1 l).mono ?_
      rintro e w' ⟨rfl, ex⟩
      exact ⟨_, rfl, rSB_holds s0 (by omega), ex⟩) <|
    .cons (by
      cases hm : exM a with
      | none => exact (kNoQ_ok ⟨_, Tryz.func11, by decide +kernel, by kernel_rfl⟩ : ConOK Tryz.prog E 11 kNoQ).toW
      | some m =>
        obtain ⟨h1, h2, h3⟩ := exM_some hm
        have ht : exTx a = tx (exY a m) m := by unfold exTx; rw [hm]
        rw [ht] at s0 hl
        obtain ⟨o1, o2, _⟩ := tx_parse (exY a m) m h1 (by omega)
        have e := tx_val (exY a m) m
        have e2 := int_of_den h2
        have hp := p10Q_pos m
        have ea : Rat.divInt (exY a m) ((10 : Int) ^ m) = a := by
          exact mul_can hp (e.trans e2.symm)
        rw [ea] at o2
        exact ps_known (by omega) s0 o1 o2 ra (l.mono (by omega))) <| .cons kSame_ok.toW .nil
  exact law6_calls hT no_asm Tryz.func4 (by decide +kernel) (List.all_eq_true.1 lE_walk _ (bools_mem _)) (show 1 ≤ _ by decide +kernel) rfl w hw [v] rfl (one_arg rfl rfl (a6_holds ra hv l))
theorem decimalExact_calls (w : World) (hw : WQ w) (v : Value) (s1 : Bool) (xs1 : List Nat) (s2 : Bool) (xs2 : List Nat) (h : RawQ w v s1 xs1 s2 xs2) : Calls Tryz.prog 4 #[v] w (IsT w) := by
  cases hs : smN 6 (s1, xs1) (s2, xs2) with
  | true =>
    obtain ⟨k1, k2⟩ := smN_rat (p := (s1, xs1)) (q := (s2, xs2)) h hs
    exact exactV_calls w hw v _ k1 k2
  | false =>
    obtain ⟨E, hE⟩ : ∃ E : Env, E = ⟨fun _ => 0, fun _ => false, fun i => if i = 0 then (s1, xs1) else (s2, xs2), fun _ => []⟩ := ⟨_, rfl⟩
    have r0 : E.r 0 = (s1, xs1) := by rw [hE]; rfl
    have r1 : E.r 1 = (s2, xs2) := by rw [hE]; rfl
    exact law6_calls (tabL0_ok (by rw [r0, r1]; exact hs)) no_asm Tryz.func4 (by decide +kernel) lE_big (show 1 ≤ _ by decide +kernel) rfl w hw [v] rfl (one_arg rfl rfl fun β => argRaw_holds h r0 r1)
theorem i64_wfN {n : Int} (h : (Lit.int .i64 n).wf = true) : -9223372036854775808 ≤ n ∧ n ≤ 9223372036854775807 := by
  simp only [Lit.wf, Bool.and_eq_true, decide_eq_true_iff] at h
  exact h
theorem decimalLengths_calls (w : World) (hw : WQ w) (n : Int) (hn : (Lit.int .i64 n).wf = true) : Calls Tryz.prog 5 #[.int .i64 n] w (IsT w) := by
  obtain ⟨h1, h2⟩ : -9223372036854775808 ≤ n ∧ n ≤ 9223372036854775807 := i64_wfN hn
  have lm := mm_lim h1 h2
  have hl := exTx_len lm
  obtain ⟨E, hE⟩ : ∃ E : Env, E = ⟨fun _ => n, fun _ => false, fun _ => (false, []), fun _ => exTx (mmQ n)⟩ := ⟨_, rfl⟩
  have e0 : E.i 0 = n := by rw [hE]
  have s0 : E.s 0 = exTx (mmQ n) := by rw [hE]
  obtain ⟨m, hm, hm3⟩ := mm_some n
  obtain ⟨k1, k2, k3⟩ := exM_some hm
  have ht : exTx (mmQ n) = tx (exY (mmQ n) m) m := by unfold exTx; rw [hm]
  obtain ⟨o1, o2, o3⟩ := tx_parse (exY (mmQ n) m) m k1 (by rw [← ht]; omega)
  rw [← ht] at o1 o2 o3
  have ea : Rat.divInt (exY (mmQ n) m) ((10 : Int) ^ m) = mmQ n := by
    exact mul_can (p10Q_pos m) ((tx_val _ _).trans (int_of_den k2).symm)
  rw [ea] at o2
  have hz : zD (exTx (mmQ n)) = n := by
    unfold zD
    rw [o2]
    show (mmQ n * p10Q 3).num = n
    rw [mm_scale]; exact Rat.num_intCast _
  have hg : g3D (exTx (mmQ n)) = true := by
    unfold g3D
    rw [o3]; exact decide_eq_true hm3
  have hT : TabW Tryz.prog WQ E (tabLL (!decide (n < -10000000) && !decide (10000000 < n))) := .cons kAw6_ok <|
    .cons (conW_of (fun x off e => by cases e) ⟨_, Tryz.func21, by decide +kernel, by kernel_rfl⟩ fun args ha β w vs hW hv hl' => by
      unfold cV0 at ha
      split at ha
      · obtain ⟨v, rfl, j1⟩ := args1 hv hl'
        have j1' : v = .int .i64 n := by rw [← e0]; exact one_num.1 j1
        subst j1'
        refine (mmP_calls w hW n h1 h2).mono ?_
        rintro e w' ⟨rfl, ex⟩
        exact ⟨_, rfl, fun β => one_str.2 ⟨by show _ = Value.string ⟨(E.s 0).toArray⟩; rw [s0], by show (E.s 0).length ≤ _; rw [s0]; omega⟩, ex⟩
      · cases ha) <|
    .cons (conW_of (fun x off e => by cases e) ⟨_, Tryz.func23, by decide +kernel, by kernel_rfl⟩ fun args ha β w vs hW hv hl' => by
      unfold cV0 at ha
      split at ha
      · obtain ⟨v, rfl, j1⟩ := args1 hv hl'
        have j1' : v = .int .i64 n := by rw [← e0]; exact one_num.1 j1
        subst j1'
        refine (mmR_calls w n h1 h2).mono ?_
        rintro e w' ⟨rfl, ex⟩
        exact ⟨_, rfl, fun β => one_str.2 ⟨by show _ = Value.string ⟨(E.s 0).toArray⟩; rw [s0], by show (E.s 0).length ≤ _; rw [s0]; omega⟩, ex⟩
      · cases ha) <|
    .cons (strW_ok (fun x off e => by cases e) ⟨_, Tryz.func22, by decide +kernel, by kernel_rfl⟩ fun w hW => by
      rw [s0]
      refine (fromM_calls w hW _ (by omega)).mono ?_
      rintro e w' ⟨rfl, ex⟩
      refine ⟨_, rfl, fun β => ?_, ex⟩
      have hgr : gridB n = (!decide (n < -10000000) && !decide (10000000 < n)) := by
        unfold gridB
        rw [Bool.eq_iff_iff]
        simp
      unfold fmV
      rw [o1, hg, hz, hgr]
      cases (!decide (n < -10000000) && !decide (10000000 < n)) with
      | true => exact ⟨[_, _], rfl, _, _, rfl, one_num.2 (by show _ = Value.int .i64 (E.i 0); rw [e0]; rfl), _, _, rfl, one_num.2 rfl, rfl⟩
      | false => exact ⟨[_, _], rfl, _, _, rfl, one_num.2 rfl, _, _, rfl, one_num.2 rfl, rfl⟩) .nil
  have hG : (gLL (decide (n < -10000000)) (decide (10000000 < n))).holds E := by
    refine asm_and ?_ <| asm_and ?_ <| asm_and ?_ <| asm_and ?_ asm_nil
    · show decide (E.i 0 < -10000000) = _; rw [e0]
    · show decide ((-10000000 : Int) ≤ E.i 0) = !decide (n < -10000000)
      rw [e0, Bool.eq_iff_iff]; simp
    · show decide ((10000000 : Int) < E.i 0) = _; rw [e0]
    · show decide (E.i 0 ≤ 10000000) = !decide (10000000 < n)
      rw [e0, Bool.eq_iff_iff]; simp
  exact law6_calls hT hG Tryz.func5 (by decide +kernel) (List.all_eq_true.1 (List.all_eq_true.1 lL_walk _ (bools_mem _)) _ (bools_mem _)) (show 1 ≤ _ by decide +kernel) rfl w hw [.int .i64 n] rfl (one_arg rfl rfl fun β => one_num.2 (by show _ = Value.int .i64 (E.i 0); rw [e0]))
end Go.Proofs.YtnejcdjakjmklaaGreatDoor
end
