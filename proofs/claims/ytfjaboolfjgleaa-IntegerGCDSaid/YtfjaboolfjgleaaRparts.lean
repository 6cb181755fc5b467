/-
  parts, of the reference: quotient and remainder.
-/
import Derived.Test.YtfjaboolfjgleaaRdm
import Derived.Deep.DeepCutAuto
import Derived.Deep.CutBlock
namespace Go.Proofs.Ytfjaboolfjgleaa
open Go.RowKit

/-- The reference divides these numbers rightly. -/
def PartsOK (m n : Nat) : Prop := ∀ (w : World) (ax ay : Option Addr) (cx cy : Nat), (limbs m).length ≤ cx → (limbs n).length ≤ cy → cx ≤ 9223372036854775807 → cy ≤ 9223372036854775807 → Cells w ax (limbs m) → Cells w ay (limbs n) →
  Calls Try.prog 62 #[.slice ax (limbs m).length cx, .slice ay (limbs n).length cy] w (Ret2 (IsLimbs (m / n)) (IsLimbs (m % n)) w)

set_option maxRecDepth 100000 in
set_option maxHeartbeats 800000 in
theorem partsOK_small (m n : Nat) (h1 : (limbs m).length ≤ 2) (h2 : (limbs n).length ≤ 2) (hn : n ≠ 0) : PartsOK m n := by
  intro w ax ay cx cy kx ky bx by_ hx hy
  have bm : m < 1000000000000000000 := by have := lt_of_limbs_len h1; omega
  have bn : n < 1000000000000000000 := by have := lt_of_limbs_len h2; omega
  have hvx := short_calls w ax (limbs m) cx kx bx hx (by rw [val_limbs]; omega)
  have hvy := short_calls w ay (limbs n) cy ky by_ hy (by rw [val_limbs]; omega)
  rw [val_limbs] at hvx hvy
  have HX := Lib.hid hvx
  have HY := Lib.hid hvy
  have hq1 : m / n ≤ m := Nat.div_le_self _ _
  have hr1 : m % n < n := Nat.mod_lt _ (by omega)
  obtain ⟨q, hq⟩ : ∃ q, q = m / n := ⟨_, rfl⟩
  obtain ⟨r, hr⟩ : ∃ r, r = m % n := ⟨_, rfl⟩
  have HF := Lib.hid (And.intro (wrap_quo m n q (by omega) hq) (And.intro (rem_nat m n r hr) hn))
  rw [← hq, ← hr]
  rw [← hq] at hq1
  rw [← hr] at hr1
  have HA := Lib.hid (fun W => rlimbs_calls W q (by omega))
  have HC := Lib.hid (fun W => rlimbs_calls W r (by omega))
  have l1 : decide (((limbs m).length : Int) ≤ 2) = true := decide_eq_true (by omega)
  have l2 : decide (((limbs n).length : Int) ≤ 2) = true := decide_eq_true (by omega)
  clear hvx hvy hq hr hq1 hr1 bm bn h1 h2 kx ky bx by_ hn
  go_enter Try.func62, Try.ntmps62
  go_wp2_with fail
  refine HX.out.mono ?_
  rintro e w' ⟨rfl, rfl⟩
  go_wp2_with fail
  refine HY.out.mono ?_
  rintro e w' ⟨rfl, rfl⟩
  obtain ⟨b1, ⟨b2, b3⟩, b4⟩ := HF.out
  clear l1 l2
  go_wp2_with fail
  go_region_held3 (fun _ => True) (exact True.intro) ((first
    | (go_at_call 47; ((with_reducible refine (HA.out _).mono ?_)); rintro e w1 ⟨v1, rfl, hv1, e1⟩)
    | (go_at_call 47; ((with_reducible refine (HC.out _).mono ?_)); rintro e w2 ⟨v2, rfl, hv2, e2⟩)))
  go_wp2
  go_ret2
  exact ⟨v1, v2, rfl, hv1.ext e2, hv2, e1.of_drew.trans e2⟩

theorem top_limb {n l : Nat} (h : (limbs n).length = l + 1) : val ((limbs n).drop l) = (limbs n).getD l 0 ∧ 0 < (limbs n).getD l 0 := by
  have h1 := limbs_last n (by intro e; rw [e] at h; simp at h)
  rw [h, Nat.add_sub_cancel] at h1
  refine ⟨?_, by omega⟩
  rw [val_drop _ l (by omega), List.drop_of_length_le (by omega)]
  simp [val]

/-- The rest, between two rounds: in a block of its own. -/
def RestAt (g : Nat) (R : Nat) (v : Value) (wr : World) : Prop :=
  ∃ ao cap, v = .slice ao (limbs R).length cap ∧ (limbs R).length ≤ cap ∧ cap ≤ 9223372036854775807 ∧ (limbs R = [] ∨ ∃ gr, ao = some ⟨gr, 0, none⟩ ∧ gr ≠ g ∧ Blk wr gr (limbs R))
theorem RestAt.cells {g R : Nat} {ao : Option Addr} {n cap : Nat} {wr : World} (h : RestAt g R (.slice ao n cap) wr) : n = (limbs R).length ∧ (limbs R).length ≤ cap ∧ cap ≤ 9223372036854775807 ∧ Cells wr ao (limbs R) := by
  obtain ⟨ao', cap', he, h1, h2, h3⟩ := h
  injection he with e1 e2 e3
  subst e1 e2 e3
  refine ⟨rfl, h1, h2, ?_⟩
  rcases h3 with h3 | ⟨gr, rfl, _, hb⟩
  · rw [h3]; exact Cells.nil _ _
  · exact hb.cells
theorem RestAt.set {g R : Nat} {v : Value} {wr : World} (h : RestAt g R v wr) (i : Nat) (u : Value) : RestAt g R v (wr.setCell ⟨g, i, none⟩ u) := by
  obtain ⟨ao, cap, rfl, h1, h2, h3⟩ := h
  refine ⟨ao, cap, rfl, h1, h2, h3.imp id ?_⟩
  rintro ⟨gr, rfl, hne, hb⟩
  exact ⟨gr, rfl, hne, hb.far (p := ⟨g, i, none⟩) hne u⟩

set_option maxRecDepth 100000 in
set_option maxHeartbeats 3200000 in
theorem partsOK_long (m n : Nat) (lx : (limbs m).length ≤ 1048576) (ly : (limbs n).length ≤ 1048576) (hn : 0 < n) (hbig : 2 < (limbs m).length ∨ 2 < (limbs n).length) : PartsOK m n := by
  intro w ax ay cx cy kx ky bx by_ hx hy
  obtain ⟨l0, hl0⟩ : ∃ l0, (limbs n).length = l0 + 1 := ⟨(limbs n).length - 1, by have := limbs_pos hn; omega⟩
  obtain ⟨b', off', rfl, hy1⟩ := hy.at_ (by omega)
  have hct := hy1 l0 (by omega)
  obtain ⟨ht1, ht2⟩ := top_limb hl0
  have ht3 := dig_limbs n l0
  obtain ⟨t, ht⟩ : ∃ t, t = (limbs n).getD l0 0 := ⟨_, rfl⟩
  rw [← ht] at hct ht2 ht3
  obtain ⟨T1, hT1⟩ : ∃ T1, T1 = t + 1 := ⟨_, rfl⟩
  obtain ⟨s, hs⟩ : ∃ s, s = 1000000000 / T1 := ⟨_, rfl⟩
  have hs0 : 0 < s := by rw [hs]; exact Nat.div_pos (by omega) (by omega)
  have hs1 : s ≤ 500000000 := by rw [hs]; exact Nat.div_le_of_le_mul (by omega)
  have f1 : (t : Int) + 1 = (T1 : Int) := by omega
  have f2 : (1000000000 : Int) / (T1 : Int) = (s : Int) := by rw [hs]; simp
  have f3 : (s : Int) % 4294967296 = (s : Int) := by omega
  obtain ⟨V, hV⟩ : ∃ V, V = n * s := ⟨_, rfl⟩
  obtain ⟨U, hU⟩ : ∃ U, U = m * s := ⟨_, rfl⟩
  have hV0 : 0 < V := by rw [hV]; exact Nat.mul_pos hn hs0
  obtain ⟨L, hL⟩ : ∃ L, (limbs V).length = L + 1 := ⟨(limbs V).length - 1, by have := limbs_pos hV0; omega⟩
  have hVl : (limbs V).length ≤ (limbs n).length + 1 := by
    refine limbs_len_le ?_
    have := lt_of_limbs_len (n := n) (Nat.le_refl _)
    rw [hV, Nat.pow_succ]
    exact Nat.mul_lt_mul'' this (by omega)
  have hUl : (limbs U).length ≤ (limbs m).length + 1 := by
    refine limbs_len_le ?_
    have := lt_of_limbs_len (n := m) (Nat.le_refl _)
    rw [hU, Nat.pow_succ]
    exact Nat.mul_lt_mul'' this (by omega)
  have hby1 := fun W (e : Ext w W) => rby_fresh W (some ⟨b', off', none⟩) n s cy (by omega) (by omega) (hy.ext e)
  have hby2 := fun W (e : Ext w W) => rby_fresh W ax m s cx (by omega) (by omega) (hx.ext e)
  rw [← hV] at hby1
  rw [← hU] at hby2
  rw [hl0] at hby1 ⊢
  have HB1 := Lib.hid hby1
  have HB2 := Lib.hid hby2
  have HVU := Lib.hid (And.intro hV (And.intro hU (And.intro hs0 hV0)))
  have HLL := Lib.hid (And.intro hL (And.intro hUl (show L + 1 ≤ 1048577 by omega)))
  have ht4 : (t : Int) < 1000000000 := by omega
  have hT0 : ¬ T1 = 0 := by omega
  have hsI : (s : Int) ≤ 500000001 := by omega
  have hl0I : (l0 : Int) ≤ 1048577 := by omega
  have hmI : ((limbs m).length : Int) ≤ 1048578 := by omega
  have hmk := run_mk ((limbs m).length + 1) (by omega) (↑(limbs m).length + 1) (by omega)
  have hguard : decide (((limbs m).length : Int) ≤ 2) = false ∨ (decide (((limbs m).length : Int) ≤ 2) = true ∧ decide (((l0 : Int) + 1) ≤ 2) = false) := by
    by_cases h : (limbs m).length ≤ 2
    · exact .inr ⟨decide_eq_true (by omega), decide_eq_false (by omega)⟩
    · exact .inl (decide_eq_false (by omega))
  have HG := Lib.hid hguard
  clear hguard ht1 hy1 hx hy kx ky bx by_ hn hbig ly hs hT1 hs1 hs0 hV hU hV0 hVl hUl hby1 hby2 ht3 ht ht2
  go_enter Try.func62, Try.ntmps62
  go_upto_region 1 with fail
  go_cut [28] (fun t wx => t = .bool false ∧ w = wx)
  case first =>
    clear hmk f1 f2 f3 hct
    rcases HG.out with g | ⟨g1, g2⟩
    · go_wp2_with fail
      go_meet
      exact ⟨rfl, rfl⟩
    · go_wp2_with fail
      go_meet
      exact ⟨rfl, rfl⟩
  case rest =>
    obtain ⟨rfl, rfl⟩ := hcut
    clear HG
    go_upto_region 5 with fail
    clear f1 f2 f3 hct hT0
    go_wp2_with fail
    refine (HB1.out _ (Ext.refl w)).mono ?_
    rintro e w1 ⟨v1, rfl, ⟨gv, cv, rfl, hgv, k1, k2, hbv⟩, e1⟩
    have hctop := hbv.cell L (by rw [HLL.out.1]; omega)
    obtain ⟨T, hT⟩ : ∃ T, T = (limbs V).getD L 0 := ⟨_, rfl⟩
    rw [← hT] at hctop
    have HT := Lib.hid hT
    have hTl : T < 1000000000 := by rw [hT]; exact dig_limbs V L
    have hTI : (T : Int) < 1000000000 := by omega
    have hcapI : ((L : Int) + 1) ≤ (cv : Int) := by have := HLL.out.1; omega
    have hLI : (L : Int) ≤ 9223372036854775806 := by have := HLL.out.1; omega
    rw [HLL.out.1]
    have HK := Lib.hid (And.intro k1 k2)
    clear hT hTl k1 k2
    go_upto_region 9 with fail
    clear hmk hctop
    have hbo := Blk.new w1 (List.replicate ((limbs m).length + 1) 0)
    have eo : Ext w1 (w1.alloc (.cells (u32s (List.replicate ((limbs m).length + 1) 0)) 46)) := (Ext.refl w1).alloc _
    have hgo : (w1.alloc (.cells (u32s (List.replicate ((limbs m).length + 1) 0)) 46)).heap.size = w1.heap.size + 1 := by simp
    have HGO := Lib.hid hgo
    clear hgo
    go_wp2_with fail
    refine (HB2.out _ (e1.trans eo)).mono ?_
    rintro e w3 ⟨v2, rfl, ⟨gu, cu, rfl, hgu, j1, j2, hbu⟩, e3⟩
    rw [HGO.out] at hgu
    have hgv2 := hbv.lt
    replace hbo := hbo.ext e3
    replace hbv := hbv.ext (eo.trans e3)
    have eB := (e1.trans eo).trans e3
    have HJ := Lib.hid (And.intro j1 j2)
    have HUl : ((limbs U).length : Int) ≤ ((limbs m).length : Int) + 1 := by have := HLL.out.2.1; omega
    have HUl2 : ((limbs U).length : Int) ≤ 1048580 := by omega
    clear HGO eo e3 j1 j2 hcapI hLI
    go_wp2_with fail
    have hlu : (limbs U).length ≤ (limbs m).length + 1 := HLL.out.2.1
    have h0 : PartRel w w1.heap.size (limbs U) V (limbs U).length 0 (List.replicate (limbs U).length 0) w3 := by
      have ht := hbo.take (limbs U).length
      rw [List.take_replicate, Nat.min_eq_left hlu] at ht
      exact ⟨by simp, Dig.replicate _, ht, eB, by rw [val_drop_len, List.drop_of_length_le (by simp)]; simp [val], HVU.out.2.2.2⟩
    have r0 : RestAt w1.heap.size 0 (.slice none 0 0) w3 := ⟨none, 0, rfl, by simp [limbs_zero], by omega, .inl limbs_zero⟩
    have HS := Lib.hid (And.intro h0 (And.intro r0 (And.intro hbu hbv)))
    have HGE := Lib.hid (And.intro e1.size (And.intro hgv2 hgu))
    have HSI := Lib.hid hsI
    have HLX := Lib.hid (And.intro lx (And.intro HUl (And.intro HUl2 hTI)))
    clear h0 r0 hbu hbv hbo hgu hgv2 hlu ht4 hl0I hl0 hL hsI lx HUl HUl2 hmI hTI
    go_loopw [11, 14, 15, 16, 17] (fun rv i _ _ _ wr => ∃ (k R : Nat) (qs : List Nat), k ≤ (limbs U).length ∧ i = .int .i64 ((k : Int) - 1) ∧ RestAt w1.heap.size R rv wr ∧ PartRel w w1.heap.size (limbs U) V k R qs wr ∧ Blk wr gu (limbs U) ∧ Blk wr gv (limbs V)) (fun _ i _ _ _ _ => (intOf i + 1).toNat)
    case atStart => exact ⟨(limbs U).length, 0, _, Nat.le_refl _, by go_num, HS.out.2.1, HS.out.1, HS.out.2.2⟩
    case round =>
      obtain ⟨k, R, qs, hk, rfl, hRest, hP, hbu, hbv⟩ := hrel
      clear HS eB
      rcases k with _ | k
      · obtain ⟨hq, hR⟩ := hP.done
        rw [val_limbs, HVU.out.1, HVU.out.2.1, (scaled HVU.out.2.2.1).1] at hq
        rw [val_limbs, HVU.out.1, HVU.out.2.1] at hR
        have hRs : R / s = m % n := by rw [hR]; exact (scaled HVU.out.2.2.1).2
        have hRV := hP.2.2.2.2.2
        have hRl : (limbs R).length ≤ 1048577 := by
          have h1 := limbs_len_mono (Nat.le_of_lt hRV)
          rw [HLL.out.1] at h1
          have := HLL.out.2.2
          omega
        obtain ⟨ar, cr, rfl, hr1, hr2, hr3⟩ := hRest
        have hRc : Cells wr ar (limbs R) := by
          rcases hr3 with h | ⟨gr, rfl, _, hb⟩
          · rw [h]; exact Cells.nil _ _
          · exact hb.cells
        have hmk := run_mk (limbs R).length (by omega) ↑(limbs R).length (by omega)
        have HQ := Lib.hid (And.intro hq hRs)
        have HP := Lib.hid hP
        have HRC := Lib.hid hRc
        have hRlI : ((limbs R).length : Int) ≤ 1048583 := by omega
        obtain ⟨wo, hwo⟩ : ∃ wo : World, wo = wr := ⟨_, rfl⟩
        subst hwo
        have h0 : ShortRel wo wo.heap.size (limbs R) s (limbs R).length 0 (List.replicate (limbs R).length 0) (wo.alloc (.cells (u32s (List.replicate (limbs R).length 0)) 46)) :=
          ⟨by simp, Dig.replicate _, Blk.new _ _, (Ext.refl _).alloc _, by rw [val_drop_len]; simp [val], HVU.out.2.2.1⟩
        have HS := Lib.hid h0
        clear hq hR hRs hRV hr1 hr2 hr3 hRc hP h0 hbu hbv hk hRl
        go_wp2
        clear hmk
        go_loopw [18, 20] (fun c i wr => ∃ (k rr : Nat) (ls : List Nat), k ≤ (limbs R).length ∧ i = .int .i64 ((k : Int) - 1) ∧ c = .int .u64 rr ∧ ShortRel wo wo.heap.size (limbs R) s k rr ls wr) (fun _ i _ => (intOf i + 1).toNat)
        case atStart => exact ⟨(limbs R).length, 0, _, Nat.le_refl _, by go_num, rfl, HS.out⟩
        case round =>
          obtain ⟨k, rr, ls, hk, rfl, rfl, hS⟩ := hrel
          clear HS
          rcases k with _ | k
          · obtain ⟨g1, g2, g3, g4, g5, g6⟩ := hS
            have hv : val ls = m % n := by
              have h := (Nat.div_mod_unique (a := val (limbs R)) (d := val ls) (c := rr) HVU.out.2.2.1).2 ⟨by rw [List.drop_zero, List.drop_zero] at g5; omega, g6⟩
              rw [val_limbs] at h
              rw [← h.1]; exact HQ.out.2
            have t1 := fun W (e : Ext wo W) => rtrim_calls W (some ⟨w1.heap.size, 0, none⟩) qs ((limbs m).length + 1) (by rw [HP.out.1]; exact HLL.out.2.1) (by have := HLX.out.1; omega) (HP.out.2.2.1.ext e).cells HP.out.2.1
            have f1 := HP.out.2.2.1.cells.trim HP.out.2.1
            have f2 : (limbs (val qs)).length ≤ qs.length := by rw [← trimN_length HP.out.2.1]; exact trimN_le _ _
            rw [HQ.out.1, HP.out.1] at t1
            rw [HQ.out.1] at f1
            rw [HQ.out.1, HP.out.1] at f2
            have t2 := rtrim_calls wr (some ⟨wo.heap.size, 0, none⟩) ls ls.length (Nat.le_refl _) (by rw [g1]; omega) g3.cells g2
            have f3 := g3.cells.trim g2
            have f4 : (limbs (val ls)).length ≤ ls.length := by rw [← trimN_length g2]; exact trimN_le _ _
            rw [hv, g1] at t2
            rw [hv] at f3
            rw [hv, g1] at f4
            have T1 := Lib.hid t1
            have T2 := Lib.hid t2
            have F := Lib.hid (And.intro f1 (And.intro f2 (And.intro f3 f4)))
            have HRl := Lib.hid (show (limbs R).length ≤ 1048583 by omega)
            have eW := HP.out.2.2.2.1
            clear t1 t2 f1 f2 f3 f4 g1 g2 g3 g5 g6 hv hk hRlI
            go_wp2_with fail
            refine (T1.out wr g4).mono ?_
            rintro e w' ⟨rfl, rfl⟩
            go_wp2_with fail
            refine T2.out.mono ?_
            rintro e w' ⟨rfl, rfl⟩
            go_wp2
            go_ret2
            exact ⟨_, _, rfl, ⟨_, _, rfl, Nat.le_trans F.out.2.1 HLL.out.2.1, by have := HLX.out.1; omega, F.out.1.ext g4⟩, ⟨_, _, rfl, F.out.2.2.2, by have := HRl.out; omega, F.out.2.2.1⟩, eW.trans g4⟩
          · have hk2 : k < (limbs R).length := by omega
            have hzc := hS.2.2.1.cell k (by have := hS.1; omega)
            have hzf := hS.2.2.1.frozen k
            obtain ⟨b2, o2, rfl, hx1⟩ := HRC.out.at_ (by omega)
            have hcx := hS.2.2.2.1.cell (hx1 k hk2)
            have bx0 := dig_limbs R k
            have br0 := hS.2.2.2.2.2
            have hst := fun cur q r hc hq hr V hV => hS.step (Nat.le_refl _) hk2 (dig_limbs R) cur q r hc hq hr (V := V) hV
            have hs9 : s ≤ 500000001 := by have := HSI.out; omega
            generalize (limbs R).getD k 0 = x at *
            have bx : (x : Int) < 1000000000 := by omega
            have br : (rr : Int) < 500000003 := by omega
            obtain ⟨cur, hc⟩ : ∃ cur, cur = rr * 1000000000 + x := ⟨_, rfl⟩
            obtain ⟨q, hq⟩ : ∃ q, q = cur / s := ⟨_, rfl⟩
            obtain ⟨r, hr⟩ : ∃ r, r = cur % s := ⟨_, rfl⟩
            have HST2 := Lib.hid (hst cur q r hc hq hr q rfl)
            have hcI : (rr : Int) * 1000000000 + (x : Int) = (cur : Int) := by omega
            have f0 := wrap_quo cur s q (by omega) hq
            obtain ⟨f1, f2⟩ := rem_nat cur s r hr
            have f3 : ¬ s = 0 := by omega
            have f4 : (q : Int) < 1000000001 := by have := HST2.out.2.1; omega
            have hsI : (s : Int) ≤ 500000002 := by omega
            have ek : ((k + 1 : Nat) : Int) - 1 = (k : Int) := by omega
            rw [ek]
            have HKK := Lib.hid hk2
            have hkl : (k : Int) < ((limbs R).length : Int) := by omega
            clear hst hx1 bx0 br0 hc hq hr ek hs9 hS hk2 hk
            go_wp2
            go_roundw
            case rel => exact ⟨k, r, _, by have := HKK.out; omega, by go_num, by go_num, HST2.out.1⟩
            case measure => simp [intOf]
      · have ek : ((k + 1 : Nat) : Int) - 1 = (k : Int) := by omega
        rw [ek]
        obtain ⟨ar, cr, rfl, hr1, hr2, hr3⟩ := hRest
        have hRc : Cells wr ar (limbs R) := by
          rcases hr3 with h | ⟨gr, rfl, _, hb⟩
          · rw [h]; exact Cells.nil _ _
          · exact hb.cells
        have hcx := hbu.cell k (by omega)
        obtain ⟨x, hx⟩ : ∃ x, x = (limbs U).getD k 0 := ⟨_, rfl⟩
        rw [← hx] at hcx
        have hxb : x < 1000000000 := by rw [hx]; exact dig_limbs U k
        have hRV := hP.2.2.2.2.2
        have hRl : (limbs R).length ≤ L + 1 := by rw [← HLL.out.1]; exact limbs_len_mono (Nat.le_of_lt hRV)
        obtain ⟨R', hR'⟩ : ∃ R', R' = x + 1000000000 * R := ⟨_, rfl⟩
        have hL1 : L + 1 ≤ 1048577 := HLL.out.2.2
        obtain ⟨ao4, cap4, w4, hrun, y1, y2, e4, y3⟩ := run_append_cons wr 22 x (x : Int) rfl ar (limbs R) cr (by omega) hRc
        have hdx : Dig (x :: limbs R) := Dig.cons hxb (dig_limbs R)
        have htr := rtrim_calls w4 ao4 (x :: limbs R) cap4 (by simpa using y1) y2 y3 hdx
        have hcc := y3.trim hdx
        have hvx : val (x :: limbs R) = R' := by rw [hR']; simp only [val, val_limbs]
        rw [hvx] at htr hcc
        rw [List.length_cons] at htr
        have HTR := Lib.hid htr
        obtain ⟨est1, est2, est3, est4, est5⟩ := ref_est (R' := R') HLL.out.1 (by omega)
        rw [(top_limb HLL.out.1).1, ← HT.out] at est1 est3 est4
        have hcl : (limbs R').length ≤ cap4 := by
          have := limbs_len_mono (m := R') (n := R'); 
          have h2 : (limbs (val (x :: limbs R))).length ≤ (x :: limbs R).length := by rw [← trimN_length hdx]; exact trimN_le _ _
          rw [hvx, List.length_cons] at h2
          omega
        have HP := Lib.hid hP
        have HBU := Lib.hid (And.intro hbu hbv)
        have HR' := Lib.hid (And.intro hR' hx)
        have HE := Lib.hid (And.intro est1 (And.intro est2 est5))
        have HC4 := Lib.hid (And.intro hcc (And.intro hcl y2))
        have hkI : (k : Int) < ((limbs U).length : Int) := by omega
        have hkb : (k : Int) ≤ 1048581 := by have := HLX.out.2.2.1; omega
        have HK1 := Lib.hid (show k < (limbs U).length by omega)
        have hxI : (x : Int) < 1000000001 := by omega
        have hT0 : ¬ T = 0 := by omega
        clear est3 est4
        clear htr hcc hvx hdx y1 y2 y3 hP hbu hbv hR' hx est1 est2 est5 hcl hxb hr1 hr2 hr3 hRc hRV ek hk hRl hL1
        have HRUN := Lib.hid hrun
        clear hrun
        go_wp2_with (at_builtin; refine wpList_append_run rfl _ _ 22 rfl rfl rfl HRUN.out ?_)
        refine HTR.out.mono ?_
        rintro e w' ⟨rfl, rfl⟩
        clear hxI
        have hhigh := ref_high (R' := R') HE.out.2.2
        obtain ⟨r1, hr1⟩ : ∃ r1, r1 = (limbs R').getD (L + 1) 0 := ⟨_, rfl⟩
        obtain ⟨r0, hr0⟩ : ∃ r0, r0 = (limbs R').getD L 0 := ⟨_, rfl⟩
        have hb1 : r1 < 1000000000 := by rw [hr1]; exact dig_limbs R' _
        have hb0 : r0 < 1000000000 := by rw [hr0]; exact dig_limbs R' _
        obtain ⟨H2, hH2⟩ : ∃ H2, H2 = val ((limbs R').drop L) := ⟨_, rfl⟩
        obtain ⟨H1, hH1⟩ : ∃ H1, H1 = (if L + 1 < (limbs R').length then r1 * 1000000000 else 0) := ⟨_, rfl⟩
        rw [← hH2, ← hr1, ← hr0, ← hH1] at hhigh
        have hH1b : H1 ≤ 999999999000000000 := by rw [hH1]; split <;> omega
        have hH2b : H2 ≤ 999999999999999999 := by rw [hhigh]; split <;> omega
        have HHI := Lib.hid (And.intro hhigh (And.intro hH1 (And.intro hr1 hr0)))
        have HEST := Lib.hid (show R' / V ≤ H2 / T by rw [hH2]; exact HE.out.1)
        have HB := Lib.hid (And.intro hb1 (And.intro hb0 (And.intro hH1b hH2b)))
        clear hhigh hr1 hr0 hb1 hb0 hH2 hH1 hH1b hH2b
        go_upto_if 91 with fail
        go_cut [15] (fun t wx => t = .int .u64 (H1 : Int) ∧ w4 = wx)
        case first =>
          by_cases hl1 : L + 1 < (limbs R').length
          · obtain ⟨bb, oo, rfl, hcc⟩ := HC4.out.1.at_ (by omega)
            have hc1 := hcc (L + 1) hl1
            rw [← HHI.out.2.2.1] at hc1
            have hlI : ((L : Int) + 1) < ((limbs R').length : Int) := by omega
            have hb1 : (r1 : Int) ≤ 999999999 := by have := HB.out.1; omega
            have hH : (r1 : Int) * 1000000000 = (H1 : Int) := by have := HHI.out.2.1; rw [if_pos hl1] at this; omega
            have hHb : (H1 : Int) ≤ 999999999000000001 := by have := HB.out.2.2.1; omega
            clear hcc hl1
            go_wp2_with fail
            go_meet
            exact ⟨rfl, rfl⟩
          · have hlI : ¬ (((L : Int) + 1) < ((limbs R').length : Int)) := by omega
            have HH : Hid (H1 = 0) := by have := HHI.out.2.1; rw [if_neg hl1] at this; exact this
            clear hl1
            go_wp2_with fail
            go_meet
            exact ⟨by rw [HH.out]; rfl, rfl⟩
        case rest =>
          obtain ⟨rfl, rfl⟩ := hcut
          go_upto_if 103 with fail
          go_cut [15] (fun t wx => t = .int .u64 (H2 : Int) ∧ w4 = wx)
          case first =>
            by_cases hl1 : L + 1 ≤ (limbs R').length
            · obtain ⟨bb, oo, rfl, hcc⟩ := HC4.out.1.at_ (by omega)
              have hc1 := hcc L (by omega)
              rw [← HHI.out.2.2.2] at hc1
              have hlI : ((L : Int) + 1) ≤ ((limbs R').length : Int) := by omega
              have hlI2 : (L : Int) < ((limbs R').length : Int) := by omega
              have hLb : (L : Int) ≤ 1048582 := by have := HLL.out.2.2; omega
              have hb1 : (r0 : Int) ≤ 999999999 := by have := HB.out.2.1; omega
              have hH : (H1 : Int) + (r0 : Int) = (H2 : Int) := by have := HHI.out.1; rw [if_pos hl1] at this; omega
              have hHb : (H2 : Int) ≤ 1000000000000000001 := by have := HB.out.2.2.2; omega
              have hHc : (H1 : Int) ≤ 999999999000000002 := by have := HB.out.2.2.1; omega
              clear hcc hl1
              go_wp2_with fail
              go_meet
              exact ⟨rfl, rfl⟩
            · have hlI : ¬ (((L : Int) + 1) ≤ ((limbs R').length : Int)) := by omega
              have HH : Hid (H2 = H1) := by have := HHI.out.1; rw [if_neg hl1] at this; exact this
              clear hl1
              go_wp2_with fail
              go_meet
              exact ⟨by rw [HH.out], rfl⟩
          case rest =>
            obtain ⟨rfl, rfl⟩ := hcut
            obtain ⟨D, hD⟩ : ∃ D, D = H2 / T := ⟨_, rfl⟩
            obtain ⟨d0, hd0⟩ : ∃ d0, d0 = (if 999999999 < D then 999999999 else D) := ⟨_, rfl⟩
            have hd1 : R' / V ≤ d0 := by
              have h1 := HEST.out
              have h2 := HE.out.2.1
              rw [← hD] at h1
              rw [hd0]; split <;> omega
            have hd2 : d0 ≤ 999999999 := by rw [hd0]; split <;> omega
            have hDI : (H2 : Int) / (T : Int) = (D : Int) := by rw [hD]; simp
            have hDb : D ≤ 999999999999999999 := by have := Nat.div_le_self H2 T; have := HB.out.2.2.2; omega
            have HDD := Lib.hid (And.intro hd0 (And.intro hd1 hd2))
            have hHb : (H2 : Int) ≤ 1000000000000000003 := by have := HB.out.2.2.2; omega
            have hDIb : (D : Int) ≤ 1000000000000000004 := by omega
            have HDb := Lib.hid hDb
            clear hD hd0 hd1 hd2 hDb
            go_upto_if 117 with fail
            clear hDI hHb
            go_cut [16] (fun t wx => t = .int .u64 (d0 : Int) ∧ w4 = wx)
            case first =>
              generalize hDv : (D : Int) = Dv at *
              have HDv := Lib.hid hDv
              clear hDv
              by_cases hg : 999999999 < D
              · have hgI : (999999999 : Int) < Dv := by have := HDv.out; omega
                have HH : Hid (d0 = 999999999) := by have := HDD.out.1; rw [if_pos hg] at this; exact this
                clear hg hDIb
                go_wp2_with fail
                go_meet
                exact ⟨by rw [HH.out]; rfl, rfl⟩
              · have hgI : ¬ (999999999 : Int) < Dv := by have := HDv.out; omega
                have HH : Hid (d0 = D) := by have := HDD.out.1; rw [if_neg hg] at this; exact this
                clear hg hDIb
                go_wp2_with fail
                go_meet
                exact ⟨by rw [HH.out, HDv.out], rfl⟩
            case rest =>
              obtain ⟨rfl, rfl⟩ := hcut
              clear hDIb
              have hcv := (HBU.out.2.ext e4)
              have hby := rby_fresh w4 (some ⟨gv, 0, none⟩) V d0 cv (by rw [HLL.out.1]; have := HLL.out.2.2; omega) (by have := HDD.out.2.2; omega) hcv.cells
              rw [HLL.out.1] at hby
              have HBY := Lib.hid hby
              have hd0I : (d0 : Int) ≤ 999999999 := by have := HDD.out.2.2; omega
              clear hby hcv
              go_wp2_with fail
              refine HBY.out.mono ?_
              rintro e w5 ⟨v5, rfl, hv5, e5⟩
              obtain ⟨ap, cp, rfl, p1, p2, p3⟩ := hv5.is
              have HP5 := Lib.hid (And.intro p1 (And.intro p2 p3))
              clear hv5 p1 p2 p3 hd0I
              go_wp2_with fail
              obtain ⟨wo, rfl⟩ : ∃ wo : World, wo = wr := ⟨_, rfl⟩
              have hVd : (limbs (V * d0)).length ≤ L + 2 := by
                refine limbs_len_le ?_
                have h1 := lt_of_limbs_len (n := V) (k := L + 1) (by rw [HLL.out.1]; exact Nat.le_refl _)
                rw [Nat.pow_succ]
                exact Nat.mul_lt_mul'' h1 (by have := HDD.out.2.2; omega)
              have HVd := Lib.hid (fun d (h : d ≤ d0) => Nat.le_trans (limbs_len_mono (Nat.mul_le_mul_left V h)) hVd)
              clear hVd
              go_loopw [16, 17] (fun dv pv wl => ∃ (d : Nat) (ap : Option Addr) (cp : Nat), dv = .int .u64 (d : Int) ∧ pv = .slice ap (limbs (V * d)).length cp ∧ Hid (R' / V ≤ d ∧ d ≤ d0 ∧ (limbs (V * d)).length ≤ cp ∧ cp ≤ 9223372036854775807) ∧ Cells wl ap (limbs (V * d)) ∧ Ext w5 wl) (fun dv _ _ => (intOf dv).toNat)
              case atStart => exact ⟨d0, ap, cp, rfl, rfl, ⟨HDD.out.2.1, Nat.le_refl _, HP5.out.1, HP5.out.2.1⟩, HP5.out.2.2, Ext.refl _⟩
              case round =>
                obtain ⟨d, ap, cp, rfl, rfl, HD, hcp, hE5⟩ := hrel
                have hV0 := HVU.out.2.2.2
                have hLd := HVd.out d HD.out.2.1
                have hcmp := rcompare_calls wr ap ao4 (V * d) R' cp cap4 (by have := HLL.out.2.2; omega) (by have := HE.out.2.2; have := HLL.out.2.2; omega) hcp (HC4.out.1.ext (e5.trans hE5))
                have HCP := Lib.hid hcp
                by_cases hlt : R' < V * d
                · have hc : cmpZ ((V * d : Nat) : Int) (R' : Int) = 1 := cmpZ_gt (by omega)
                  rw [hc] at hcmp
                  have HCMP := Lib.hid hcmp
                  have hdq := (low_digit hV0).1 hlt
                  obtain ⟨d1, hd1⟩ : ∃ d1, d1 = d - 1 := ⟨_, rfl⟩
                  have hd2 : 1 ≤ d := by
                    rcases Nat.eq_zero_or_pos d with h | h
                    · rw [h, Nat.mul_zero] at hlt; omega
                    · exact h
                  have hVV : V * d - V = V * d1 := by rw [hd1, Nat.mul_sub, Nat.mul_one]
                  have hVle : V ≤ V * d := by have := Nat.mul_le_mul_left V hd2; omega
                  have hmin := fun W (e : Ext w4 W) (hc : Cells W ap (limbs (V * d))) => minus_fresh W ap (some ⟨gv, 0, none⟩) (V * d) V cp cv (by have := HLL.out.2.2; omega) hVle hc ((HBU.out.2.ext (e4.trans e)).cells)
                  rw [hVV, HLL.out.1] at hmin
                  have HMIN := Lib.hid hmin
                  have hd1I : (d : Int) - 1 = (d1 : Int) := by omega
                  have hdI : (1 : Int) ≤ (d : Int) := by omega
                  have hdI2 : (d : Int) ≤ 999999999 := by have := HDD.out.2.2; have := HD.out.2.1; omega
                  have HQ := Lib.hid (show R' / V ≤ d1 ∧ d1 ≤ d0 by have := HD.out.2.1; omega)
                  have HM := Lib.hid (show d1 < d by omega)
                  clear hcmp hc hdq hd1 hd2 hVV hVle hmin hlt hV0 hLd hcp
                  go_wp2_with fail
                  refine HCMP.out.mono ?_
                  rintro e w6 ⟨rfl, j, rfl⟩
                  have e6 : Ext wr (wr.drewN j) := (Ext.refl wr).drewN j
                  generalize wr.drewN j = w6 at *
                  go_wp2_with fail
                  refine (HMIN.out w6 (e5.trans (hE5.trans e6)) (HCP.out.ext e6)).mono ?_
                  rintro e w7 ⟨v7, rfl, hv7, e7⟩
                  obtain ⟨a7, c7, rfl, m1, m2, m3⟩ := hv7.is
                  have HM7 := Lib.hid (And.intro m1 (And.intro m2 m3))
                  clear hv7 m1 m2 m3
                  go_wp2_with fail
                  go_roundw
                  case rel => exact ⟨d1, a7, c7, rfl, rfl, ⟨HQ.out.1, HQ.out.2, HM7.out.1, HM7.out.2.1⟩, HM7.out.2.2, hE5.trans (e6.trans e7)⟩
                  case measure => have := HM.out; simp [intOf]; omega
                · have hdq : d = R' / V := by
                    have h1 := mt (low_digit hV0).2 hlt
                    have := HD.out.1
                    omega
                  have hcz : cmpZ ((V * d : Nat) : Int) (R' : Int) ≤ 0 := by
                    rcases cmpZ_cases ((V * d : Nat) : Int) (R' : Int) with ⟨_, h⟩ | ⟨_, h⟩ | ⟨h, _⟩
                    · rw [h]; omega
                    · rw [h]; omega
                    · omega
                  obtain ⟨cz, hcz1⟩ : ∃ cz, cz = cmpZ ((V * d : Nat) : Int) (R' : Int) := ⟨_, rfl⟩
                  rw [← hcz1] at hcmp hcz
                  have HCMP := Lib.hid hcmp
                  have hczn : ¬ 0 < cz := by omega
                  obtain ⟨R2, hR2⟩ : ∃ R2, R2 = R' % V := ⟨_, rfl⟩
                  have hsub : R' - V * d = R2 := by
                    have := Nat.div_add_mod R' V
                    rw [hdq, hR2]; omega
                  have hmin := fun W (e : Ext w4 W) (hc : Cells W ap (limbs (V * d))) => minus_fresh W ao4 ap R' (V * d) cap4 cp (by have := HE.out.2.2; have := HLL.out.2.2; omega) (by omega) (HC4.out.1.ext e) hc
                  rw [hsub] at hmin
                  have HMIN := Lib.hid hmin
                  have HQQ := Lib.hid (And.intro hdq hR2)
                  have hdI2 : (d : Int) ≤ 999999999 := by have := HDD.out.2.2; have := HD.out.2.1; omega
                  clear hcmp hcz hcz1 hdq hsub hmin hlt hV0 hLd hcp hR2
                  go_wp2_with fail
                  refine HCMP.out.mono ?_
                  rintro e w6 ⟨rfl, j, rfl⟩
                  have e6 : Ext wr (wr.drewN j) := (Ext.refl wr).drewN j
                  generalize wr.drewN j = w6 at *
                  go_wp2_with fail
                  refine (HMIN.out w6 (e5.trans (hE5.trans e6)) (HCP.out.ext e6)).mono ?_
                  rintro e w7 ⟨v7, rfl, ⟨g7, c7, rfl, m0, m1, m2, m3⟩, e7⟩
                  have eA := e4.trans (e5.trans (hE5.trans (e6.trans e7)))
                  have hgw : w1.heap.size < w6.heap.size := by
                    have h1 := (HP.out.2.2.1).lt
                    have h2 := (e4.trans (e5.trans (hE5.trans e6))).size
                    omega
                  have hres : RestAt w1.heap.size R2 (.slice (some ⟨g7, 0, none⟩) (limbs R2).length c7) w7 := ⟨_, c7, rfl, m1, m2, .inr ⟨g7, rfl, by omega, m3⟩⟩
                  have hstep := (HP.out.step HGE.out.1 HK1.out (dig_limbs U) eA R' d R2 (by rw [HR'.out.1, HR'.out.2]) HQQ.out.1 HQQ.out.2 (Y := (d : Int)) rfl).1
                  have hbq := HP.out.2.2.1.ext eA
                  have hzc := hbq.cell k (by rw [HP.out.1]; exact HK1.out)
                  have hzf := hbq.frozen k
                  have hne1 : gu ≠ w1.heap.size := by have := HGE.out.2.2; omega
                  have hne2 : gv ≠ w1.heap.size := by have := HGE.out.2.1; omega
                  have HST := Lib.hid (And.intro (hres.set k (.int .u32 (d : Int))) (And.intro hstep (And.intro ((HBU.out.1.ext eA).far (p := ⟨w1.heap.size, k, none⟩) hne1 (.int .u32 (d : Int))) ((HBU.out.2.ext eA).far (p := ⟨w1.heap.size, k, none⟩) hne2 (.int .u32 (d : Int))))))
                  clear hres hstep hbq hne1 hne2 m0 m1 m2 m3 hgw
                  go_wp2
                  go_roundw
                  case rel => exact ⟨k, R2, _, by have := HK1.out; omega, by go_num, HST.out.1, HST.out.2.1, HST.out.2.2⟩
                  case measure => simp [intOf]

end Go.Proofs.Ytfjaboolfjgleaa
