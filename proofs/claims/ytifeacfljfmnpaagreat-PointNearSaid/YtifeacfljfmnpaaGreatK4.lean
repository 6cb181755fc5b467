/-
  Texts of this seat, joined.
-/
import Derived.Test.YtifeacfljfmnpaaGreatK3
import Derived.Deep.DeepCutAuto
import Derived.Deep.CutBlock
import Derived.Deep.LoopGhost
import Derived.Shelf.LaysM
import Derived.Shelf.Strings.Cut
import Derived.Shelf.Strconv.AppendUint10
import Derived.Laws.IdiomStrings
import Derived.Lib.LaidTab
import Derived.Shelf.Small.Wraps
section
set_option maxRecDepth 100000
namespace Go.Proofs.YtifeacfljfmnpaaGreat
open Go.RowKit
def PartsOK (m n : Nat) : Prop := ∀ (w : World) (ax ay : Option Addr) (cx cy : Nat), (limbs m).length ≤ cx → (limbs n).length ≤ cy → cx ≤ 9223372036854775807 → cy ≤ 9223372036854775807 → Cells w ax (limbs m) → Cells w ay (limbs n) →
  Calls Tryz.prog 161 #[.slice ax (limbs m).length cx, .slice ay (limbs n).length cy] w (Ret2 (IsLimbs (m / n)) (IsLimbs (m % n)) w)

set_option maxRecDepth 100000 in
set_option maxHeartbeats 800000 in
theorem partsOK_small (m n : Nat) (h1 : (limbs m).length ≤ 2) (h2 : (limbs n).length ≤ 2) (hn : n ≠ 0) : PartsOK m n := by
  intro w ax ay cx cy kx ky bx by_ hx hy
  have bm : m < 1000000000000000000 := by have := z4q h1; omega
  have bn : n < 1000000000000000000 := by have := z4q h2; omega
  have hvx := short_calls w ax (limbs m) cx kx bx hx (by rw [z1q]; omega)
  have hvy := short_calls w ay (limbs n) cy ky by_ hy (by rw [z1q]; omega)
  rw [z1q] at hvx hvy
  have HX := Lib.hid hvx
  have HY := Lib.hid hvy
  have hq1 : m / n ≤ m := Nat.div_le_self _ _
  have hr1 : m % n < n := Nat.mod_lt _ (by omega)
  obtain ⟨q, hq⟩ : ∃ q, q = m / n := ⟨_, rfl⟩
  obtain ⟨r, hr⟩ : ∃ r, r = m % n := ⟨_, rfl⟩
  have HF := Lib.hid (And.intro (wrap_quo m n q (by omega) hq) (And.intro (rem_nat m n r hr) hn))
  rw [← hq, ← hr]
  rw [← hq] at hq1
  rw [← hr] at hr1
  have HA := Lib.hid (fun W => rlimbs_calls W q (by omega))
  have HC := Lib.hid (fun W => rlimbs_calls W r (by omega))
  have l1 : decide (((limbs m).length : Int) ≤ 2) = true := decide_eq_true (by omega)
  have l2 : decide (((limbs n).length : Int) ≤ 2) = true := decide_eq_true (by omega)
  clear hvx hvy hq hr hq1 hr1 bm bn h1 h2 kx ky bx by_ hn
  go_enter Tryz.func161, Tryz.ntmps161
  go_wp2_with fail
  refine HX.out.mono ?_
  rintro e w' ⟨rfl, rfl⟩
  go_wp2_with fail
  refine HY.out.mono ?_
  rintro e w' ⟨rfl, rfl⟩
  obtain ⟨b1, ⟨b2, b3⟩, b4⟩ := HF.out
  clear l1 l2
  go_wp2_with fail
  go_region_held3 (fun _ => True) (exact True.intro) ((first
    | (go_at_call 163; ((with_reducible refine (HA.out _).mono ?_)); rintro e w1 ⟨v1, rfl, hv1, e1⟩)
    | (go_at_call 163; ((with_reducible refine (HC.out _).mono ?_)); rintro e w2 ⟨v2, rfl, hv2, e2⟩)))
  go_wp2
  go_ret2
  exact ⟨v1, v2, rfl, hv1.ext e2, hv2, e1.of_drew.trans e2⟩

theorem top_limb {n l : Nat} (h : (limbs n).length = l + 1) : val ((limbs n).drop l) = (limbs n).getD l 0 ∧ 0 < (limbs n).getD l 0 := by
  have h1 := limbs_last n (by intro e; rw [e] at h; simp at h)
  rw [h, Nat.add_sub_cancel] at h1
  refine ⟨?_, by omega⟩
  rw [val_drop _ l (by omega), List.drop_of_length_le (by omega)]
  simp [val]

def RestAt (g : Nat) (R : Nat) (v : Value) (wr : World) : Prop :=
  ∃ ao cap, v = .slice ao (limbs R).length cap ∧ (limbs R).length ≤ cap ∧ cap ≤ 9223372036854775807 ∧ (limbs R = [] ∨ ∃ gr, ao = some ⟨gr, 0, none⟩ ∧ gr ≠ g ∧ Blk wr gr (limbs R))
theorem RestAt.set {g R : Nat} {v : Value} {wr : World} (h : RestAt g R v wr) (i : Nat) (u : Value) : RestAt g R v (wr.setCell ⟨g, i, none⟩ u) := by
  obtain ⟨ao, cap, rfl, h1, h2, h3⟩ := h
  refine ⟨ao, cap, rfl, h1, h2, h3.imp id ?_⟩
  rintro ⟨gr, rfl, hne, hb⟩
  exact ⟨gr, rfl, hne, hb.far (p := ⟨g, i, none⟩) hne u⟩

set_option maxRecDepth 100000 in
set_option maxHeartbeats 3200000 in
theorem partsOK_long (m n : Nat) (lx : (limbs m).length ≤ 1048576) (ly : (limbs n).length ≤ 1048576) (hn : 0 < n) (hbig : 2 < (limbs m).length ∨ 2 < (limbs n).length) : PartsOK m n := by
  intro w ax ay cx cy kx ky bx by_ hx hy
  obtain ⟨l0, hl0⟩ : ∃ l0, (limbs n).length = l0 + 1 := ⟨(limbs n).length - 1, by have := limbs_pos hn; omega⟩
  obtain ⟨b', off', rfl, hy1⟩ := hy.at_ (by omega)
  have hct := hy1 l0 (by omega)
  obtain ⟨ht1, ht2⟩ := top_limb hl0
  have ht3 := z6q n l0
  obtain ⟨t, ht⟩ : ∃ t, t = (limbs n).getD l0 0 := ⟨_, rfl⟩
  rw [← ht] at hct ht2 ht3
  obtain ⟨T1, hT1⟩ : ∃ T1, T1 = t + 1 := ⟨_, rfl⟩
  obtain ⟨s, hs⟩ : ∃ s, s = 1000000000 / T1 := ⟨_, rfl⟩
  have hs0 : 0 < s := by rw [hs]; exact Nat.div_pos (by omega) (by omega)
  have hs1 : s ≤ 500000000 := by rw [hs]; exact Nat.div_le_of_le_mul (by omega)
  have f1 : (t : Int) + 1 = (T1 : Int) := by omega
  have f2 : (1000000000 : Int) / (T1 : Int) = (s : Int) := by rw [hs]; simp
  have f3 : (s : Int) % 4294967296 = (s : Int) := by omega
  obtain ⟨V, hV⟩ : ∃ V, V = n * s := ⟨_, rfl⟩
  obtain ⟨U, hU⟩ : ∃ U, U = m * s := ⟨_, rfl⟩
  have hV0 : 0 < V := by rw [hV]; exact Nat.mul_pos hn hs0
  obtain ⟨L, hL⟩ : ∃ L, (limbs V).length = L + 1 := ⟨(limbs V).length - 1, by have := limbs_pos hV0; omega⟩
  have hVl : (limbs V).length ≤ (limbs n).length + 1 := by
    refine limbs_len_le ?_
    have := z4q (n := n) (Nat.le_refl _)
    rw [hV, Nat.pow_succ]
    exact Nat.mul_lt_mul'' this (by omega)
  have hUl : (limbs U).length ≤ (limbs m).length + 1 := by
    refine limbs_len_le ?_
    have := z4q (n := m) (Nat.le_refl _)
    rw [hU, Nat.pow_succ]
    exact Nat.mul_lt_mul'' this (by omega)
  have hby1 := fun W (e : Ext w W) => rby_fresh W (some ⟨b', off', none⟩) n s cy (by omega) (by omega) (hy.ext e)
  have hby2 := fun W (e : Ext w W) => rby_fresh W ax m s cx (by omega) (by omega) (hx.ext e)
  rw [← hV] at hby1
  rw [← hU] at hby2
  rw [hl0] at hby1 ⊢
  have HB1 := Lib.hid hby1
  have HB2 := Lib.hid hby2
  have HVU := Lib.hid (And.intro hV (And.intro hU (And.intro hs0 hV0)))
  have HLL := Lib.hid (And.intro hL (And.intro hUl (show L + 1 ≤ 1048577 by omega)))
  have ht4 : (t : Int) < 1000000000 := by omega
  have hT0 : ¬ T1 = 0 := by omega
  have hsI : (s : Int) ≤ 500000001 := by omega
  have hl0I : (l0 : Int) ≤ 1048577 := by omega
  have hmI : ((limbs m).length : Int) ≤ 1048578 := by omega
  have hmk := run_mk ((limbs m).length + 1) (by omega) (↑(limbs m).length + 1) (by omega)
  have hguard : decide (((limbs m).length : Int) ≤ 2) = false ∨ (decide (((limbs m).length : Int) ≤ 2) = true ∧ decide (((l0 : Int) + 1) ≤ 2) = false) := by
    by_cases h : (limbs m).length ≤ 2
    · exact .inr ⟨decide_eq_true (by omega), decide_eq_false (by omega)⟩
    · exact .inl (decide_eq_false (by omega))
  have HG := Lib.hid hguard
  clear hguard ht1 hy1 hx hy kx ky bx by_ hn hbig ly hs hT1 hs1 hs0 hV hU hV0 hVl hUl hby1 hby2 ht3 ht ht2
  go_enter Tryz.func161, Tryz.ntmps161
  go_upto_region 1 with fail
  go_cut [28] (fun t wx => t = .bool false ∧ w = wx)
  case first =>
    clear hmk f1 f2 f3 hct
    rcases HG.out with g | ⟨g1, g2⟩
    · go_wp2_with fail
      go_meet
      exact ⟨rfl, rfl⟩
    · go_wp2_with fail
      go_meet
      exact ⟨rfl, rfl⟩
  case rest =>
    obtain ⟨rfl, rfl⟩ := hcut
    clear HG
    go_upto_region 5 with fail
    clear f1 f2 f3 hct hT0
    go_wp2_with fail
    refine (HB1.out _ (Ext.refl w)).mono ?_
    rintro e w1 ⟨v1, rfl, ⟨gv, cv, rfl, hgv, k1, k2, hbv⟩, e1⟩
    have hctop := hbv.cell L (by rw [HLL.out.1]; omega)
    obtain ⟨T, hT⟩ : ∃ T, T = (limbs V).getD L 0 := ⟨_, rfl⟩
    rw [← hT] at hctop
    have HT := Lib.hid hT
    have hTl : T < 1000000000 := by rw [hT]; exact z6q V L
    have hTI : (T : Int) < 1000000000 := by omega
    have hcapI : ((L : Int) + 1) ≤ (cv : Int) := by have := HLL.out.1; omega
    have hLI : (L : Int) ≤ 9223372036854775806 := by have := HLL.out.1; omega
    rw [HLL.out.1]
    have HK := Lib.hid (And.intro k1 k2)
    clear hT hTl k1 k2
    go_upto_region 9 with fail
    clear hmk hctop
    have hbo := Blk.new w1 (List.replicate ((limbs m).length + 1) 0)
    have eo : Ext w1 (w1.alloc (.cells (u32s (List.replicate ((limbs m).length + 1) 0)) 149)) := (Ext.refl w1).alloc _
    have hgo : (w1.alloc (.cells (u32s (List.replicate ((limbs m).length + 1) 0)) 149)).heap.size = w1.heap.size + 1 := by simp
    have HGO := Lib.hid hgo
    clear hgo
    go_wp2_with fail
    refine (HB2.out _ (e1.trans eo)).mono ?_
    rintro e w3 ⟨v2, rfl, ⟨gu, cu, rfl, hgu, j1, j2, hbu⟩, e3⟩
    rw [HGO.out] at hgu
    have hgv2 := hbv.lt
    replace hbo := hbo.ext e3
    replace hbv := hbv.ext (eo.trans e3)
    have eB := (e1.trans eo).trans e3
    have HJ := Lib.hid (And.intro j1 j2)
    have HUl : ((limbs U).length : Int) ≤ ((limbs m).length : Int) + 1 := by have := HLL.out.2.1; omega
    have HUl2 : ((limbs U).length : Int) ≤ 1048580 := by omega
    clear HGO eo e3 j1 j2 hcapI hLI
    go_wp2_with fail
    have hlu : (limbs U).length ≤ (limbs m).length + 1 := HLL.out.2.1
    have h0 : PartRel w w1.heap.size (limbs U) V (limbs U).length 0 (List.replicate (limbs U).length 0) w3 := by
      have ht := hbo.take (limbs U).length
      rw [List.take_replicate, Nat.min_eq_left hlu] at ht
      exact ⟨by simp, Dig.replicate _, ht, eB, by rw [val_drop_len, List.drop_of_length_le (by simp)]; simp [val], HVU.out.2.2.2⟩
    have r0 : RestAt w1.heap.size 0 (.slice none 0 0) w3 := ⟨none, 0, rfl, by simp [limbs_zero], by omega, .inl limbs_zero⟩
    have HS := Lib.hid (And.intro h0 (And.intro r0 (And.intro hbu hbv)))
    have HGE := Lib.hid (And.intro e1.size (And.intro hgv2 hgu))
    have HSI := Lib.hid hsI
    have HLX := Lib.hid (And.intro lx (And.intro HUl (And.intro HUl2 hTI)))
    clear h0 r0 hbu hbv hbo hgu hgv2 hlu ht4 hl0I hl0 hL hsI lx HUl HUl2 hmI hTI
    go_loopw [11, 14, 15, 16, 17] (fun rv i _ _ _ wr => ∃ (k R : Nat) (qs : List Nat), k ≤ (limbs U).length ∧ i = .int .i64 ((k : Int) - 1) ∧ RestAt w1.heap.size R rv wr ∧ PartRel w w1.heap.size (limbs U) V k R qs wr ∧ Blk wr gu (limbs U) ∧ Blk wr gv (limbs V)) (fun _ i _ _ _ _ => (intOf i + 1).toNat)
    case atStart => exact ⟨(limbs U).length, 0, _, Nat.le_refl _, by go_num, HS.out.2.1, HS.out.1, HS.out.2.2⟩
    case round =>
      obtain ⟨k, R, qs, hk, rfl, hRest, hP, hbu, hbv⟩ := hrel
      clear HS eB
      rcases k with _ | k
      · obtain ⟨hq, hR⟩ := hP.done
        rw [z1q, HVU.out.1, HVU.out.2.1, (scaled HVU.out.2.2.1).1] at hq
        rw [z1q, HVU.out.1, HVU.out.2.1] at hR
        have hRs : R / s = m % n := by rw [hR]; exact (scaled HVU.out.2.2.1).2
        have hRV := hP.2.2.2.2.2
        have hRl : (limbs R).length ≤ 1048577 := by
          have h1 := z12q (Nat.le_of_lt hRV)
          rw [HLL.out.1] at h1
          have := HLL.out.2.2
          omega
        obtain ⟨ar, cr, rfl, hr1, hr2, hr3⟩ := hRest
        have hRc : Cells wr ar (limbs R) := by
          rcases hr3 with h | ⟨gr, rfl, _, hb⟩
          · rw [h]; exact Cells.nil _ _
          · exact hb.cells
        have hmk := run_mk (limbs R).length (by omega) ↑(limbs R).length (by omega)
        have HQ := Lib.hid (And.intro hq hRs)
        have HP := Lib.hid hP
        have HRC := Lib.hid hRc
        have hRlI : ((limbs R).length : Int) ≤ 1048583 := by omega
        obtain ⟨wo, hwo⟩ : ∃ wo : World, wo = wr := ⟨_, rfl⟩
        subst hwo
        have h0 : ShortRel wo wo.heap.size (limbs R) s (limbs R).length 0 (List.replicate (limbs R).length 0) (wo.alloc (.cells (u32s (List.replicate (limbs R).length 0)) 149)) :=
          ⟨by simp, Dig.replicate _, Blk.new _ _, (Ext.refl _).alloc _, by rw [val_drop_len]; simp [val], HVU.out.2.2.1⟩
        have HS := Lib.hid h0
        clear hq hR hRs hRV hr1 hr2 hr3 hRc hP h0 hbu hbv hk hRl
        go_wp2
        clear hmk
        go_loopw [18, 20] (fun c i wr => ∃ (k rr : Nat) (ls : List Nat), k ≤ (limbs R).length ∧ i = .int .i64 ((k : Int) - 1) ∧ c = .int .u64 rr ∧ ShortRel wo wo.heap.size (limbs R) s k rr ls wr) (fun _ i _ => (intOf i + 1).toNat)
        case atStart => exact ⟨(limbs R).length, 0, _, Nat.le_refl _, by go_num, rfl, HS.out⟩
        case round =>
          obtain ⟨k, rr, ls, hk, rfl, rfl, hS⟩ := hrel
          clear HS
          rcases k with _ | k
          · obtain ⟨g1, g2, g3, g4, g5, g6⟩ := hS
            have hv : val ls = m % n := by
              have h := (Nat.div_mod_unique (a := val (limbs R)) (d := val ls) (c := rr) HVU.out.2.2.1).2 ⟨by rw [List.drop_zero, List.drop_zero] at g5; omega, g6⟩
              rw [z1q] at h
              rw [← h.1]; exact HQ.out.2
            have t1 := fun W (e : Ext wo W) => rtrim_calls W (some ⟨w1.heap.size, 0, none⟩) qs ((limbs m).length + 1) (by rw [HP.out.1]; exact HLL.out.2.1) (by have := HLX.out.1; omega) (HP.out.2.2.1.ext e).cells HP.out.2.1
            have f1 := HP.out.2.2.1.cells.trim HP.out.2.1
            have f2 : (limbs (val qs)).length ≤ qs.length := by rw [← trimN_length HP.out.2.1]; exact trimN_le _ _
            rw [HQ.out.1, HP.out.1] at t1
            rw [HQ.out.1] at f1
            rw [HQ.out.1, HP.out.1] at f2
            have t2 := rtrim_calls wr (some ⟨wo.heap.size, 0, none⟩) ls ls.length (Nat.le_refl _) (by rw [g1]; omega) g3.cells g2
            have f3 := g3.cells.trim g2
            have f4 : (limbs (val ls)).length ≤ ls.length := by rw [← trimN_length g2]; exact trimN_le _ _
            rw [hv, g1] at t2
            rw [hv] at f3
            rw [hv, g1] at f4
            have T1 := Lib.hid t1
            have T2 := Lib.hid t2
            have F := Lib.hid (And.intro f1 (And.intro f2 (And.intro f3 f4)))
            have HRl := Lib.hid (show (limbs R).length ≤ 1048583 by omega)
            have eW := HP.out.2.2.2.1
            clear t1 t2 f1 f2 f3 f4 g1 g2 g3 g5 g6 hv hk hRlI
            go_wp2_with fail
            refine (T1.out wr g4).mono ?_
            rintro e w' ⟨rfl, rfl⟩
            go_wp2_with fail
            refine T2.out.mono ?_
            rintro e w' ⟨rfl, rfl⟩
            go_wp2
            go_ret2
            exact ⟨_, _, rfl, ⟨_, _, rfl, Nat.le_trans F.out.2.1 HLL.out.2.1, by have := HLX.out.1; omega, F.out.1.ext g4⟩, ⟨_, _, rfl, F.out.2.2.2, by have := HRl.out; omega, F.out.2.2.1⟩, eW.trans g4⟩
          · have hk2 : k < (limbs R).length := by omega
            have hzc := hS.2.2.1.cell k (by have := hS.1; omega)
            have hzf := hS.2.2.1.frozen k
            obtain ⟨b2, o2, rfl, hx1⟩ := HRC.out.at_ (by omega)
            have hcx := hS.2.2.2.1.cell (hx1 k hk2)
            have bx0 := z6q R k
            have br0 := hS.2.2.2.2.2
            have hst := fun cur q r hc hq hr V hV => hS.step (Nat.le_refl _) hk2 (z6q R) cur q r hc hq hr (V := V) hV
            have hs9 : s ≤ 500000001 := by have := HSI.out; omega
            generalize (limbs R).getD k 0 = x at *
            have bx : (x : Int) < 1000000000 := by omega
            have br : (rr : Int) < 500000003 := by omega
            obtain ⟨cur, hc⟩ : ∃ cur, cur = rr * 1000000000 + x := ⟨_, rfl⟩
            obtain ⟨q, hq⟩ : ∃ q, q = cur / s := ⟨_, rfl⟩
            obtain ⟨r, hr⟩ : ∃ r, r = cur % s := ⟨_, rfl⟩
            have HST2 := Lib.hid (hst cur q r hc hq hr q rfl)
            have hcI : (rr : Int) * 1000000000 + (x : Int) = (cur : Int) := by omega
            have f0 := wrap_quo cur s q (by omega) hq
            obtain ⟨f1, f2⟩ := rem_nat cur s r hr
            have f3 : ¬ s = 0 := by omega
            have f4 : (q : Int) < 1000000001 := by have := HST2.out.2.1; omega
            have hsI : (s : Int) ≤ 500000002 := by omega
            have ek : ((k + 1 : Nat) : Int) - 1 = (k : Int) := by omega
            rw [ek]
            have HKK := Lib.hid hk2
            have hkl : (k : Int) < ((limbs R).length : Int) := by omega
            clear hst hx1 bx0 br0 hc hq hr ek hs9 hS hk2 hk
            go_wp2
            go_roundw
            case rel => exact ⟨k, r, _, by have := HKK.out; omega, by go_num, by go_num, HST2.out.1⟩
            case measure => simp [intOf]
      · have ek : ((k + 1 : Nat) : Int) - 1 = (k : Int) := by omega
        rw [ek]
        obtain ⟨ar, cr, rfl, hr1, hr2, hr3⟩ := hRest
        have hRc : Cells wr ar (limbs R) := by
          rcases hr3 with h | ⟨gr, rfl, _, hb⟩
          · rw [h]; exact Cells.nil _ _
          · exact hb.cells
        have hcx := hbu.cell k (by omega)
        obtain ⟨x, hx⟩ : ∃ x, x = (limbs U).getD k 0 := ⟨_, rfl⟩
        rw [← hx] at hcx
        have hxb : x < 1000000000 := by rw [hx]; exact z6q U k
        have hRV := hP.2.2.2.2.2
        have hRl : (limbs R).length ≤ L + 1 := by rw [← HLL.out.1]; exact z12q (Nat.le_of_lt hRV)
        obtain ⟨R', hR'⟩ : ∃ R', R' = x + 1000000000 * R := ⟨_, rfl⟩
        have hL1 : L + 1 ≤ 1048577 := HLL.out.2.2
        obtain ⟨ao4, cap4, w4, hrun, y1, y2, e4, y3⟩ := run_append_cons wr 22 x (x : Int) rfl ar (limbs R) cr (by omega) hRc
        have hdx : Dig (x :: limbs R) := Dig.cons hxb (z6q R)
        have htr := rtrim_calls w4 ao4 (x :: limbs R) cap4 (by simpa using y1) y2 y3 hdx
        have hcc := y3.trim hdx
        have hvx : val (x :: limbs R) = R' := by rw [hR']; simp only [val, z1q]
        rw [hvx] at htr hcc
        rw [List.length_cons] at htr
        have HTR := Lib.hid htr
        obtain ⟨est1, est2, est3, est4, est5⟩ := ref_est (R' := R') HLL.out.1 (by omega)
        rw [(top_limb HLL.out.1).1, ← HT.out] at est1 est3 est4
        have hcl : (limbs R').length ≤ cap4 := by
          have := z12q (m := R') (n := R'); 
          have h2 : (limbs (val (x :: limbs R))).length ≤ (x :: limbs R).length := by rw [← trimN_length hdx]; exact trimN_le _ _
          rw [hvx, List.length_cons] at h2
          omega
        have HP := Lib.hid hP
        have HBU := Lib.hid (And.intro hbu hbv)
        have HR' := Lib.hid (And.intro hR' hx)
        have HE := Lib.hid (And.intro est1 (And.intro est2 est5))
        have HC4 := Lib.hid (And.intro hcc (And.intro hcl y2))
        have hkI : (k : Int) < ((limbs U).length : Int) := by omega
        have hkb : (k : Int) ≤ 1048581 := by have := HLX.out.2.2.1; omega
        have HK1 := Lib.hid (show k < (limbs U).length by omega)
        have hxI : (x : Int) < 1000000001 := by omega
        have hT0 : ¬ T = 0 := by omega
        clear est3 est4
        clear htr hcc hvx hdx y1 y2 y3 hP hbu hbv hR' hx est1 est2 est5 hcl hxb hr1 hr2 hr3 hRc hRV ek hk hRl hL1
        have HRUN := Lib.hid hrun
        clear hrun
        go_wp2_with (at_builtin; refine wpList_append_run rfl _ _ 22 rfl rfl rfl HRUN.out ?_)
        refine HTR.out.mono ?_
        rintro e w' ⟨rfl, rfl⟩
        clear hxI
        have hhigh := ref_high (R' := R') HE.out.2.2
        obtain ⟨r1, hr1⟩ : ∃ r1, r1 = (limbs R').getD (L + 1) 0 := ⟨_, rfl⟩
        obtain ⟨r0, hr0⟩ : ∃ r0, r0 = (limbs R').getD L 0 := ⟨_, rfl⟩
        have hb1 : r1 < 1000000000 := by rw [hr1]; exact z6q R' _
        have hb0 : r0 < 1000000000 := by rw [hr0]; exact z6q R' _
        obtain ⟨H2, hH2⟩ : ∃ H2, H2 = val ((limbs R').drop L) := ⟨_, rfl⟩
        obtain ⟨H1, hH1⟩ : ∃ H1, H1 = (if L + 1 < (limbs R').length then r1 * 1000000000 else 0) := ⟨_, rfl⟩
        rw [← hH2, ← hr1, ← hr0, ← hH1] at hhigh
        have hH1b : H1 ≤ 999999999000000000 := by rw [hH1]; split <;> omega
        have hH2b : H2 ≤ 999999999999999999 := by rw [hhigh]; split <;> omega
        have HHI := Lib.hid (And.intro hhigh (And.intro hH1 (And.intro hr1 hr0)))
        have HEST := Lib.hid (show R' / V ≤ H2 / T by rw [hH2]; exact HE.out.1)
        have HB := Lib.hid (And.intro hb1 (And.intro hb0 (And.intro hH1b hH2b)))
        clear hhigh hr1 hr0 hb1 hb0 hH2 hH1 hH1b hH2b
        go_upto_if 91 with fail
        go_cut [15] (fun t wx => t = .int .u64 (H1 : Int) ∧ w4 = wx)
        case first =>
          by_cases hl1 : L + 1 < (limbs R').length
          · obtain ⟨bb, oo, rfl, hcc⟩ := HC4.out.1.at_ (by omega)
            have hc1 := hcc (L + 1) hl1
            rw [← HHI.out.2.2.1] at hc1
            have hlI : ((L : Int) + 1) < ((limbs R').length : Int) := by omega
            have hb1 : (r1 : Int) ≤ 999999999 := by have := HB.out.1; omega
            have hH : (r1 : Int) * 1000000000 = (H1 : Int) := by have := HHI.out.2.1; rw [if_pos hl1] at this; omega
            have hHb : (H1 : Int) ≤ 999999999000000001 := by have := HB.out.2.2.1; omega
            clear hcc hl1
            go_wp2_with fail
            go_meet
            exact ⟨rfl, rfl⟩
          · have hlI : ¬ (((L : Int) + 1) < ((limbs R').length : Int)) := by omega
            have HH : Hid (H1 = 0) := by have := HHI.out.2.1; rw [if_neg hl1] at this; exact this
            clear hl1
            go_wp2_with fail
            go_meet
            exact ⟨by rw [HH.out]; rfl, rfl⟩
        case rest =>
          obtain ⟨rfl, rfl⟩ := hcut
          go_upto_if 103 with fail
          go_cut [15] (fun t wx => t = .int .u64 (H2 : Int) ∧ w4 = wx)
          case first =>
            by_cases hl1 : L + 1 ≤ (limbs R').length
            · obtain ⟨bb, oo, rfl, hcc⟩ := HC4.out.1.at_ (by omega)
              have hc1 := hcc L (by omega)
              rw [← HHI.out.2.2.2] at hc1
              have hlI : ((L : Int) + 1) ≤ ((limbs R').length : Int) := by omega
              have hlI2 : (L : Int) < ((limbs R').length : Int) := by omega
              have hLb : (L : Int) ≤ 1048582 := by have := HLL.out.2.2; omega
              have hb1 : (r0 : Int) ≤ 999999999 := by have := HB.out.2.1; omega
              have hH : (H1 : Int) + (r0 : Int) = (H2 : Int) := by have := HHI.out.1; rw [if_pos hl1] at this; omega
              have hHb : (H2 : Int) ≤ 1000000000000000001 := by have := HB.out.2.2.2; omega
              have hHc : (H1 : Int) ≤ 999999999000000002 := by have := HB.out.2.2.1; omega
              clear hcc hl1
              go_wp2_with fail
              go_meet
              exact ⟨rfl, rfl⟩
            · have hlI : ¬ (((L : Int) + 1) ≤ ((limbs R').length : Int)) := by omega
              have HH : Hid (H2 = H1) := by have := HHI.out.1; rw [if_neg hl1] at this; exact this
              clear hl1
              go_wp2_with fail
              go_meet
              exact ⟨by rw [HH.out], rfl⟩
          case rest =>
            obtain ⟨rfl, rfl⟩ := hcut
            obtain ⟨D, hD⟩ : ∃ D, D = H2 / T := ⟨_, rfl⟩
            obtain ⟨d0, hd0⟩ : ∃ d0, d0 = (if 999999999 < D then 999999999 else D) := ⟨_, rfl⟩
            have hd1 : R' / V ≤ d0 := by
              have h1 := HEST.out
              have h2 := HE.out.2.1
              rw [← hD] at h1
              rw [hd0]; split <;> omega
            have hd2 : d0 ≤ 999999999 := by rw [hd0]; split <;> omega
            have hDI : (H2 : Int) / (T : Int) = (D : Int) := by rw [hD]; simp
            have hDb : D ≤ 999999999999999999 := by have := Nat.div_le_self H2 T; have := HB.out.2.2.2; omega
            have HDD := Lib.hid (And.intro hd0 (And.intro hd1 hd2))
            have hHb : (H2 : Int) ≤ 1000000000000000003 := by have := HB.out.2.2.2; omega
            have hDIb : (D : Int) ≤ 1000000000000000004 := by omega
            have HDb := Lib.hid hDb
            clear hD hd0 hd1 hd2 hDb
            go_upto_if 117 with fail
            clear hDI hHb
            go_cut [16] (fun t wx => t = .int .u64 (d0 : Int) ∧ w4 = wx)
            case first =>
              generalize hDv : (D : Int) = Dv at *
              have HDv := Lib.hid hDv
              clear hDv
              by_cases hg : 999999999 < D
              · have hgI : (999999999 : Int) < Dv := by have := HDv.out; omega
                have HH : Hid (d0 = 999999999) := by have := HDD.out.1; rw [if_pos hg] at this; exact this
                clear hg hDIb
                go_wp2_with fail
                go_meet
                exact ⟨by rw [HH.out]; rfl, rfl⟩
              · have hgI : ¬ (999999999 : Int) < Dv := by have := HDv.out; omega
                have HH : Hid (d0 = D) := by have := HDD.out.1; rw [if_neg hg] at this; exact this
                clear hg hDIb
                go_wp2_with fail
                go_meet
                exact ⟨by rw [HH.out, HDv.out], rfl⟩
            case rest =>
              obtain ⟨rfl, rfl⟩ := hcut
              clear hDIb
              have hcv := (HBU.out.2.ext e4)
              have hby := rby_fresh w4 (some ⟨gv, 0, none⟩) V d0 cv (by rw [HLL.out.1]; have := HLL.out.2.2; omega) (by have := HDD.out.2.2; omega) hcv.cells
              rw [HLL.out.1] at hby
              have HBY := Lib.hid hby
              have hd0I : (d0 : Int) ≤ 999999999 := by have := HDD.out.2.2; omega
              clear hby hcv
              go_wp2_with fail
              refine HBY.out.mono ?_
              rintro e w5 ⟨v5, rfl, hv5, e5⟩
              obtain ⟨ap, cp, rfl, p1, p2, p3⟩ := hv5.is
              have HP5 := Lib.hid (And.intro p1 (And.intro p2 p3))
              clear hv5 p1 p2 p3 hd0I
              go_wp2_with fail
              obtain ⟨wo, rfl⟩ : ∃ wo : World, wo = wr := ⟨_, rfl⟩
              have hVd : (limbs (V * d0)).length ≤ L + 2 := by
                refine limbs_len_le ?_
                have h1 := z4q (n := V) (k := L + 1) (by rw [HLL.out.1]; exact Nat.le_refl _)
                rw [Nat.pow_succ]
                exact Nat.mul_lt_mul'' h1 (by have := HDD.out.2.2; omega)
              have HVd := Lib.hid (fun d (h : d ≤ d0) => Nat.le_trans (z12q (Nat.mul_le_mul_left V h)) hVd)
              clear hVd
              go_loopw [16, 17] (fun dv pv wl => ∃ (d : Nat) (ap : Option Addr) (cp : Nat), dv = .int .u64 (d : Int) ∧ pv = .slice ap (limbs (V * d)).length cp ∧ Hid (R' / V ≤ d ∧ d ≤ d0 ∧ (limbs (V * d)).length ≤ cp ∧ cp ≤ 9223372036854775807) ∧ Cells wl ap (limbs (V * d)) ∧ Ext w5 wl) (fun dv _ _ => (intOf dv).toNat)
              case atStart => exact ⟨d0, ap, cp, rfl, rfl, ⟨HDD.out.2.1, Nat.le_refl _, HP5.out.1, HP5.out.2.1⟩, HP5.out.2.2, Ext.refl _⟩
              case round =>
                obtain ⟨d, ap, cp, rfl, rfl, HD, hcp, hE5⟩ := hrel
                have hV0 := HVU.out.2.2.2
                have hLd := HVd.out d HD.out.2.1
                have hcmp := rcompare_calls wr ap ao4 (V * d) R' cp cap4 (by have := HLL.out.2.2; omega) (by have := HE.out.2.2; have := HLL.out.2.2; omega) hcp (HC4.out.1.ext (e5.trans hE5))
                have HCP := Lib.hid hcp
                by_cases hlt : R' < V * d
                · have hc : cmpZ ((V * d : Nat) : Int) (R' : Int) = 1 := cmpZ_gt (by omega)
                  rw [hc] at hcmp
                  have HCMP := Lib.hid hcmp
                  have hdq := (low_digit hV0).1 hlt
                  obtain ⟨d1, hd1⟩ : ∃ d1, d1 = d - 1 := ⟨_, rfl⟩
                  have hd2 : 1 ≤ d := by
                    rcases Nat.eq_zero_or_pos d with h | h
                    · rw [h, Nat.mul_zero] at hlt; omega
                    · exact h
                  have hVV : V * d - V = V * d1 := by rw [hd1, Nat.mul_sub, Nat.mul_one]
                  have hVle : V ≤ V * d := by have := Nat.mul_le_mul_left V hd2; omega
                  have hmin := fun W (e : Ext w4 W) (hc : Cells W ap (limbs (V * d))) => minus_fresh W ap (some ⟨gv, 0, none⟩) (V * d) V cp cv (by have := HLL.out.2.2; omega) hVle hc ((HBU.out.2.ext (e4.trans e)).cells)
                  rw [hVV, HLL.out.1] at hmin
                  have HMIN := Lib.hid hmin
                  have hd1I : (d : Int) - 1 = (d1 : Int) := by omega
                  have hdI : (1 : Int) ≤ (d : Int) := by omega
                  have hdI2 : (d : Int) ≤ 999999999 := by have := HDD.out.2.2; have := HD.out.2.1; omega
                  have HQ := Lib.hid (show R' / V ≤ d1 ∧ d1 ≤ d0 by have := HD.out.2.1; omega)
                  have HM := Lib.hid (show d1 < d by omega)
                  clear hcmp hc hdq hd1 hd2 hVV hVle hmin hlt hV0 hLd hcp
                  go_wp2_with fail
                  refine HCMP.out.mono ?_
                  rintro e w6 ⟨rfl, j, rfl⟩
                  have e6 : Ext wr (wr.drewN j) := (Ext.refl wr).drewN j
                  generalize wr.drewN j = w6 at *
                  go_wp2_with fail
                  refine (HMIN.out w6 (e5.trans (hE5.trans e6)) (HCP.out.ext e6)).mono ?_
                  rintro e w7 ⟨v7, rfl, hv7, e7⟩
                  obtain ⟨a7, c7, rfl, m1, m2, m3⟩ := hv7.is
                  have HM7 := Lib.hid (And.intro m1 (And.intro m2 m3))
                  clear hv7 m1 m2 m3
                  go_wp2_with fail
                  go_roundw
                  case rel => exact ⟨d1, a7, c7, rfl, rfl, ⟨HQ.out.1, HQ.out.2, HM7.out.1, HM7.out.2.1⟩, HM7.out.2.2, hE5.trans (e6.trans e7)⟩
                  case measure => have := HM.out; simp [intOf]; omega
                · have hdq : d = R' / V := by
                    have h1 := mt (low_digit hV0).2 hlt
                    have := HD.out.1
                    omega
                  have hcz : cmpZ ((V * d : Nat) : Int) (R' : Int) ≤ 0 := by
                    rcases z2q ((V * d : Nat) : Int) (R' : Int) with ⟨_, h⟩ | ⟨_, h⟩ | ⟨h, _⟩
                    · rw [h]; omega
                    · rw [h]; omega
                    · omega
                  obtain ⟨cz, hcz1⟩ : ∃ cz, cz = cmpZ ((V * d : Nat) : Int) (R' : Int) := ⟨_, rfl⟩
                  rw [← hcz1] at hcmp hcz
                  have HCMP := Lib.hid hcmp
                  have hczn : ¬ 0 < cz := by omega
                  obtain ⟨R2, hR2⟩ : ∃ R2, R2 = R' % V := ⟨_, rfl⟩
                  have hsub : R' - V * d = R2 := by
                    have := Nat.div_add_mod R' V
                    rw [hdq, hR2]; omega
                  have hmin := fun W (e : Ext w4 W) (hc : Cells W ap (limbs (V * d))) => minus_fresh W ao4 ap R' (V * d) cap4 cp (by have := HE.out.2.2; have := HLL.out.2.2; omega) (by omega) (HC4.out.1.ext e) hc
                  rw [hsub] at hmin
                  have HMIN := Lib.hid hmin
                  have HQQ := Lib.hid (And.intro hdq hR2)
                  have hdI2 : (d : Int) ≤ 999999999 := by have := HDD.out.2.2; have := HD.out.2.1; omega
                  clear hcmp hcz hcz1 hdq hsub hmin hlt hV0 hLd hcp hR2
                  go_wp2_with fail
                  refine HCMP.out.mono ?_
                  rintro e w6 ⟨rfl, j, rfl⟩
                  have e6 : Ext wr (wr.drewN j) := (Ext.refl wr).drewN j
                  generalize wr.drewN j = w6 at *
                  go_wp2_with fail
                  refine (HMIN.out w6 (e5.trans (hE5.trans e6)) (HCP.out.ext e6)).mono ?_
                  rintro e w7 ⟨v7, rfl, ⟨g7, c7, rfl, m0, m1, m2, m3⟩, e7⟩
                  have eA := e4.trans (e5.trans (hE5.trans (e6.trans e7)))
                  have hgw : w1.heap.size < w6.heap.size := by
                    have h1 := (HP.out.2.2.1).lt
                    have h2 := (e4.trans (e5.trans (hE5.trans e6))).size
                    omega
                  have hres : RestAt w1.heap.size R2 (.slice (some ⟨g7, 0, none⟩) (limbs R2).length c7) w7 := ⟨_, c7, rfl, m1, m2, .inr ⟨g7, rfl, by omega, m3⟩⟩
                  have hstep := (HP.out.step HGE.out.1 HK1.out (z6q U) eA R' d R2 (by rw [HR'.out.1, HR'.out.2]) HQQ.out.1 HQQ.out.2 (Y := (d : Int)) rfl).1
                  have hbq := HP.out.2.2.1.ext eA
                  have hzc := hbq.cell k (by rw [HP.out.1]; exact HK1.out)
                  have hzf := hbq.frozen k
                  have hne1 : gu ≠ w1.heap.size := by have := HGE.out.2.2; omega
                  have hne2 : gv ≠ w1.heap.size := by have := HGE.out.2.1; omega
                  have HST := Lib.hid (And.intro (hres.set k (.int .u32 (d : Int))) (And.intro hstep (And.intro ((HBU.out.1.ext eA).far (p := ⟨w1.heap.size, k, none⟩) hne1 (.int .u32 (d : Int))) ((HBU.out.2.ext eA).far (p := ⟨w1.heap.size, k, none⟩) hne2 (.int .u32 (d : Int))))))
                  clear hres hstep hbq hne1 hne2 m0 m1 m2 m3 hgw
                  go_wp2
                  go_roundw
                  case rel => exact ⟨k, R2, _, by have := HK1.out; omega, by go_num, HST.out.1, HST.out.2.1, HST.out.2.2⟩
                  case measure => simp [intOf]

end Go.Proofs.YtifeacfljfmnpaaGreat
end

section
set_option maxRecDepth 100000
namespace Go.Proofs.YtifeacfljfmnpaaGreat
open Go.RowKit
theorem partsOK (m n : Nat) (lx : (limbs m).length ≤ 1048576) (ly : (limbs n).length ≤ 1048576) (hn : 0 < n) : PartsOK m n := by
  by_cases h : (limbs m).length ≤ 2 ∧ (limbs n).length ≤ 2
  · exact partsOK_small m n h.1 h.2 (by omega)
  · exact partsOK_long m n lx ly hn (by omega)

def RGcdRel (w0 : World) (G n : Nat) (x y : Value) (wr : World) : Prop :=
  ∃ m ax cx ay cy, x = .slice ax (limbs m).length cx ∧ y = .slice ay (limbs n).length cy ∧ Hid (Nat.gcd m n = G ∧ (limbs m).length ≤ 1048576 ∧ (limbs n).length ≤ 1048576 ∧ (limbs m).length ≤ cx ∧ (limbs n).length ≤ cy ∧ cx ≤ 9223372036854775807 ∧ cy ≤ 9223372036854775807) ∧
    Cells wr ax (limbs m) ∧ Cells wr ay (limbs n) ∧ Ext w0 wr

set_option maxRecDepth 100000 in
set_option maxHeartbeats 6400000 in
theorem rgcd_calls (w : World) (v1 v2 : Value) (z1 z2 : Int) (h : IsInt w v1 z1) (k : IsInt w v2 z2) (l1 : Sm z1) (l2 : Sm z2) :
    Calls Tryz.prog 88 #[v1, v2] w (Ret (fun v w' => IsInt w' v ((Nat.gcd z1.natAbs z2.natAbs : Nat) : Int)) w) := by
  obtain ⟨ao, cap, s, n, rfl, h1, h2, h3, H4, H5, H6⟩ := h.open_
  obtain ⟨ao', cap', s', n', rfl, k1, k2, k3, K4, K5, K6⟩ := k.open_
  unfold Sm at l1 l2
  rw [← H4.out] at l1
  rw [← K4.out] at l2
  rw [← H4.out, ← K4.out]
  obtain ⟨G, hG⟩ : ∃ G, G = Nat.gcd n n' := ⟨_, rfl⟩
  rw [← hG]
  obtain ⟨W, hW, eW, c0, c1, d0, d1, r0, r1, f0, f1⟩ := boxes2r w (.bool s) (.slice ao (limbs n).length cap) (.bool s') (.slice ao' (limbs n').length cap') 24
  have hd0 : RGcdRel W G n' (.slice ao (limbs n).length cap) (.slice ao' (limbs n').length cap') W := ⟨n, ao, cap, ao', cap', rfl, rfl, ⟨hG.symm, l1, l2, h1, k1, h2, k2⟩, h3.ext eW, k3.ext eW, Ext.refl _⟩
  have HD0 := Lib.hid hd0
  have RR := Lib.hid (And.intro r0 r1)
  clear H5 K5 h k H4 H6 K4 K6 hG hd0 h1 h2 h3 k1 k2 k3 l1 l2
  go_enter Tryz.func88, Tryz.ntmps88
  go_wp2_with fail
  clear hW
  go_quiet (fail)
  have hEq : Ext W (W.drewN nq) := (Ext.refl W).drewN nq
  have HD : Hid (RGcdRel W G n' (.slice ao (limbs n).length cap) (.slice ao' (limbs n').length cap') (W.drewN nq)) := by
    obtain ⟨m, ax, cx, ay, cy, e1, e2, e3, e4, e5, e6⟩ := HD0.out
    exact ⟨m, ax, cx, ay, cy, e1, e2, e3, e4.ext hEq, e5.ext hEq, e6.trans hEq⟩
  clear HD0 hEq c0 c1 d0 d1
  go_wp2_with fail
  go_loopg [5, 6, 7, 8] n' (fun k x y _ _ wr => RGcdRel W G k x y wr)
  case atStart => exact HD.out
  case round =>
    obtain ⟨m, ax, cx, ay, cy, rfl, rfl, H, hx, hy, hE⟩ := hrel
    clear HD
    have HX := Lib.hid (And.intro hx hy)
    clear hx hy
    rcases Nat.eq_zero_or_pos gk with h0 | h0
    · have HG : Hid (m = G) := by have := H.out.1; rw [h0, Nat.gcd_zero_right] at this; exact this
      have hl0 : (limbs gk).length = 0 := by rw [h0]; rfl
      have hsg := rsignedL_calls wr false ax m cx H.out.2.2.2.1 H.out.2.2.2.2.2.1 HX.out.1
      have HSG := Lib.hid hsg
      clear h0 hsg
      go_wp2_with fail
      refine HSG.out.mono ?_
      rintro e w6 ⟨v4, rfl, hI, e4⟩
      have hI2 : IsInt w6 v4 ((G : Nat) : Int) := by rw [← HG.out]; exact hI
      have eA := hE.trans e4
      clear hI
      obtain ⟨ao4, cap4, s4, n4, rfl, _⟩ := IsInt.open_ hI2
      have r02 := eA.cell r0
      have r12 := eA.cell r1
      have f02 := eA.frozen (z0q r0) f0
      have f12 := eA.frozen (z0q r1) f1
      clear r0 r1 f0 f1
      go_wp2
      exact bodyPost_ret (v := .agg #[.bool s4, .slice ao4 (limbs n4).length cap4]) (by simp [results, Tryz.results88, go_sem, r02, r12]) rfl (fin_int hI2 r02 r12 (by omega) (eW.trans eA))
    · by_cases hbig : 2 < (limbs m).length ∨ 2 < (limbs gk).length
      · skip
        have hpar := partsOK m gk H.out.2.1 H.out.2.2.1 h0 wr ax ay cx cy H.out.2.2.2.1 H.out.2.2.2.2.1 H.out.2.2.2.2.2.1 H.out.2.2.2.2.2.2 HX.out.1 HX.out.2
        have HPAR := Lib.hid hpar
        have HN := Lib.hid h0
        have hp0 : 0 < (limbs gk).length := limbs_pos h0
        clear hpar h0
        by_cases hm : 2 < (limbs m).length
        · have hp1 : decide ((2 : Int) < ((limbs m).length : Int)) = true := decide_eq_true (by omega)
          clear hm hbig
          go_wp2_with fail
          refine HPAR.out.mono ?_
          rintro e w5 ⟨v1, v2, rfl, _, ⟨a2, c2, rfl, q1, q2, q3⟩, e5⟩
          have HP := Lib.hid (And.intro q1 (And.intro q2 q3))
          clear q1 q2 q3
          go_wp2_with fail
          go_roundg (m % gk)
          case measure => exact Nat.mod_lt _ HN.out
          case rel => exact ⟨gk, ay, cy, a2, c2, rfl, rfl, ⟨by rw [← H.out.1, Nat.gcd_comm gk, ← Nat.gcd_rec, Nat.gcd_comm], H.out.2.2.1, Nat.le_trans (z12q (Nat.le_of_lt (Nat.mod_lt _ HN.out))) H.out.2.2.1, H.out.2.2.2.2.1, HP.out.1, H.out.2.2.2.2.2.2, HP.out.2.1⟩, HX.out.2.ext e5, HP.out.2.2, hE.trans e5⟩
        · have hp1 : decide ((2 : Int) < ((limbs m).length : Int)) = false := decide_eq_false (by omega)
          have hp2 : decide ((2 : Int) < ((limbs gk).length : Int)) = true := decide_eq_true (by omega)
          clear hm hbig
          go_wp2_with fail
          refine HPAR.out.mono ?_
          rintro e w5 ⟨v1, v2, rfl, _, ⟨a2, c2, rfl, q1, q2, q3⟩, e5⟩
          have HP := Lib.hid (And.intro q1 (And.intro q2 q3))
          clear q1 q2 q3
          go_wp2_with fail
          go_roundg (m % gk)
          case measure => exact Nat.mod_lt _ HN.out
          case rel => exact ⟨gk, ay, cy, a2, c2, rfl, rfl, ⟨by rw [← H.out.1, Nat.gcd_comm gk, ← Nat.gcd_rec, Nat.gcd_comm], H.out.2.2.1, Nat.le_trans (z12q (Nat.le_of_lt (Nat.mod_lt _ HN.out))) H.out.2.2.1, H.out.2.2.2.2.1, HP.out.1, H.out.2.2.2.2.2.2, HP.out.2.1⟩, HX.out.2.ext e5, HP.out.2.2, hE.trans e5⟩
      · skip
        have hm1 : m < 1000000000000000000 := by have := z4q (n := m) (k := 2) (by omega); omega
        have hg1 : gk < 1000000000000000000 := by have := z4q (n := gk) (k := 2) (by omega); omega
        have hvx := short_calls wr ax (limbs m) cx H.out.2.2.2.1 H.out.2.2.2.2.2.1 HX.out.1 (by rw [z1q]; omega)
        have hvy := short_calls wr ay (limbs gk) cy H.out.2.2.2.2.1 H.out.2.2.2.2.2.2 HX.out.2 (by rw [z1q]; omega)
        rw [z1q] at hvx hvy
        have HVX := Lib.hid hvx
        have HVY := Lib.hid hvy
        have hp0 : 0 < (limbs gk).length := limbs_pos h0
        have hp1 : decide ((2 : Int) < ((limbs m).length : Int)) = false := decide_eq_false (by omega)
        have hp2 : decide ((2 : Int) < ((limbs gk).length : Int)) = false := decide_eq_false (by omega)
        have hp3 : (((limbs gk).length : Int) == 0) = false := by have := limbs_pos h0; rw [beq_eq_false_iff_ne]; omega
        have HB := Lib.hid (And.intro (show m ≤ 18446744073709551615 by omega) (show gk ≤ 18446744073709551615 by omega))
        have HGl := Lib.hid (show G ≤ 18446744073709551615 by rw [← H.out.1]; have := Nat.gcd_le_right m h0; omega)
        clear hm1 hg1 hvx hvy h0 hbig
        go_wp2_with fail
        refine HVX.out.mono ?_
        rintro e w' ⟨rfl, rfl⟩
        go_wp2_with fail
        refine HVY.out.mono ?_
        rintro e w' ⟨rfl, rfl⟩
        clear hp0 hp1 hp2 hp3
        go_wp2_with fail
        obtain ⟨wo, hwo⟩ : ∃ wo : World, wo = wr := ⟨_, rfl⟩
        subst hwo
        go_loopw [9, 10] (fun x y wr => ∃ a b : Nat, x = .int .u64 a ∧ y = .int .u64 b ∧ Hid (a ≤ 18446744073709551615 ∧ b ≤ 18446744073709551615) ∧ Hid (Nat.gcd a b = G) ∧ Ext wo wr) (fun _ y _ => (intOf y).toNat)
        case atStart => exact ⟨m, gk, rfl, rfl, HB, H.out.1, Ext.refl _⟩
        case round =>
          obtain ⟨a, b, rfl, rfl, HAB, HG2, hE2⟩ := hrel
          rcases Nat.eq_zero_or_pos b with h0 | h0
          · have HG3 : Hid (a = G) := by have := HG2.out; rw [h0, Nat.gcd_zero_right] at this; exact this
            have hb0 : ¬ (0 : Int) < (b : Int) := by omega
            have HL := Lib.hid (rlimbs_calls wr a HAB.out.1)
            clear h0
            go_wp2_with fail
            refine HL.out.mono ?_
            rintro e w5 ⟨v5, rfl, ⟨a5, c5, rfl, x1, x2, x3⟩, e5⟩
            go_wp2_with fail
            refine (rsignedL_calls _ false a5 a c5 x1 x2 x3).mono ?_
            rintro e w6 ⟨v6, rfl, hI, e6⟩
            have hI2 : IsInt w6 v6 ((G : Nat) : Int) := by rw [← HG3.out]; exact hI
            have eA := ((hE.trans hE2).trans e5).trans e6
            clear hI
            obtain ⟨ao4, cap4, s4, n4, rfl, _⟩ := IsInt.open_ hI2
            have r02 := eA.cell r0
            have r12 := eA.cell r1
            have f02 := eA.frozen (z0q r0) f0
            have f12 := eA.frozen (z0q r1) f1
            clear r0 r1 f0 f1
            go_wp2
            exact bodyPost_ret (v := .agg #[.bool s4, .slice ao4 (limbs n4).length cap4]) (by simp [results, Tryz.results88, go_sem, r02, r12]) rfl (fin_int hI2 r02 r12 (by omega) (eW.trans eA))
          · have hb0 : (0 : Int) < (b : Int) := by omega
            obtain ⟨r, hr⟩ : ∃ r, r = a % b := ⟨_, rfl⟩
            have hrb := Nat.mod_lt a h0
            obtain ⟨t1, t2⟩ := rem_nat a b r hr
            have hb1 : ¬ b = 0 := by omega
            have HR := Lib.hid (show r < b ∧ Nat.gcd b r = G by
              rw [hr]
              refine ⟨hrb, ?_⟩
              rw [← HG2.out, Nat.gcd_comm a b, Nat.gcd_rec b a, Nat.gcd_comm])
            clear hr hrb h0
            go_wp2
            go_quiet (fail)
            go_wp2
            go_roundw
            case rel => exact ⟨b, r, rfl, by first | rfl | exact vint t1, ⟨HAB.out.2, by have := HR.out.1; have := HAB.out.2; omega⟩, HR.out.2, hE2.drewN _⟩
            case measure => have := HR.out.1; simp [intOf]; omega

end Go.Proofs.YtifeacfljfmnpaaGreat
end

section
set_option maxRecDepth 100000
namespace Go.Proofs.YtifeacfljfmnpaaGreat
open Go.RowKit
def kParts : Con
  | [.val false [.mag x l], .val false [.mag y m]], G => if lo l && (lo m && (G.find (.eq (.a1 4 y) (.lit 0)) == some false)) then some (.tup [(false, [.mag (.a2 9 x y) l]), (false, [.mag (.a2 10 x y) m])]) else none
  | _, _ => none
theorem kParts_ok {E : Env} : ConOK Tryz.prog E 161 kParts := by
  refine ⟨?_, ?_, ⟨_, Tryz.func161, by decide +kernel, by kernel_rfl⟩⟩
  · intro args As r h hG β w vs hv hlen
    unfold kParts at h
    split at h
    · rename_i x l y m
      split at h
      · rename_i hlo
        injection h with h
        subst h
        simp only [lo, Bool.and_eq_true, decide_eq_true_iff, beq_iff_eq] at hlo
        obtain ⟨b1, b2, b3⟩ := hlo
        have hy := Asm.find_spec hG b3
        obtain ⟨v, u, rfl, h1, h2⟩ := args2 hv hlen
        obtain ⟨⟨ao, cap, rfl, k1, k2, k3⟩, hl⟩ := one_mag.1 h1
        obtain ⟨⟨ao', cap', rfl, j1, j2, j3⟩, hm⟩ := one_mag.1 h2
        have hpos : 0 < (y.den E).natAbs := by
          rcases Nat.eq_zero_or_pos (y.den E).natAbs with h0 | h0
          · simp [BT.den, IT.den, fn1, h0, limbs_zero] at hy
          · exact h0
        refine (partsOK _ _ (by unfold Lim at hl; omega) (by unfold Lim at hm; omega) hpos w ao ao' cap cap' k1 j1 k2 j2 k3 j3).mono ?_
        rintro e w' ⟨v1, v2, rfl, i1, i2, ex⟩
        have d1 : ((IT.a2 9 x y).den E).natAbs = (x.den E).natAbs / (y.den E).natAbs := rfl
        have d2 : ((IT.a2 10 x y).den E).natAbs = (x.den E).natAbs % (y.den E).natAbs := rfl
        refine ⟨_, rfl, ⟨[v1, v2], rfl, v1, _, rfl, one_mag.2 ⟨by rw [d1]; exact i1, ?_⟩, v2, _, rfl, one_mag.2 ⟨by rw [d2]; exact i2, ?_⟩, rfl⟩, ex⟩
        · exact hl.natAbs_le (by rw [d1]; exact Nat.div_le_self _ _)
        · exact hm.natAbs_le (by rw [d2]; exact Nat.le_of_lt (Nat.mod_lt _ hpos))
      · cases h
    · cases h
  · intro args As r h x off
    unfold kParts at h
    split at h
    · split at h
      · injection h with h; subst h; intro e; cases e
      · cases h
    · cases h
def kSigned : Con
  | [.val false [.b s], .val false [.mag x l]], G => if lo l then match s.ev G with
      | some true => some (.val true [.int (.a1 0 (.a1 5 x)) l])
      | some false => some (.val true [.int (.a1 5 x) l])
      | none => none
    else none
  | _, _ => none
theorem kSigned_ok {E : Env} : ConOK Tryz.prog E 162 kSigned := by
  refine ⟨?_, ?_, ⟨_, Tryz.func162, by decide +kernel, by kernel_rfl⟩⟩
  · intro args As r h hG β w vs hv hlen
    unfold kSigned at h
    split at h
    · rename_i s x l
      split at h
      · obtain ⟨v, u, rfl, h1, h2⟩ := args2 hv hlen
        have e1 := z11q.1 h1
        subst e1
        obtain ⟨⟨ao, cap, rfl, k1, k2, k3⟩, hl⟩ := one_mag.1 h2
        have hc := rsignedL_calls w (s.den E) ao (x.den E).natAbs cap k1 k2 k3
        split at h
        · rename_i hs
          injection h with h
          subst h
          refine hc.mono ?_
          rintro e w' ⟨v', rfl, hI, ex⟩
          rw [BT.ev_spec hG hs] at hI
          exact ⟨v', rfl, z10q.2 ⟨hI, by unfold Lim at *; simpa [IT.den, fn1] using hl⟩, ex⟩
        · rename_i hs
          injection h with h
          subst h
          refine hc.mono ?_
          rintro e w' ⟨v', rfl, hI, ex⟩
          rw [BT.ev_spec hG hs] at hI
          exact ⟨v', rfl, z10q.2 ⟨hI, by unfold Lim at *; simpa [IT.den, fn1] using hl⟩, ex⟩
        · cases h
      · cases h
    · cases h
  · intro args As r h x off
    unfold kSigned at h
    split at h
    · split at h
      · split at h
        · injection h with h; subst h; intro e; cases e
        · injection h with h; subst h; intro e; cases e
        · cases h
      · cases h
    · cases h
def tabR1 : List (Nat × Con) := [(161, kParts), (162, kSigned), (94, kFrom), (100, kII (.a2 0) (fun l m => max l m + 1)), (215, kII (.a2 1) (fun l m => max l m + 1)),
  (99, kII (.a2 2) (· + ·)), (103, kI (.a1 0) id), (86, kIn fun x => .a2 3 x (.lit 0)), (88, kII (.a2 6) max)]
theorem tabR1_ok {E : Env} : TabOK Tryz.prog E tabR1 := by
  refine .cons kParts_ok (.cons kSigned_ok ?_)
  refine .cons (kFrom_ok (fun w n h1 h2 => rfromInt64_calls w n h1 h2) ⟨_, Tryz.func94, by decide +kernel, by kernel_rfl⟩) ?_
  refine .cons (kII_ok (· + ·) (fun _ _ => rfl) (fun w v1 v2 z1 z2 l m h1 h2 l1 l2 b1 b2 => radd_calls w v1 v2 z1 z2 h1 h2 (l1.sm (by omega)) (l2.sm (by omega))) (fun _ _ _ _ h k => h.add2 k) ⟨_, Tryz.func100, by decide +kernel, by kernel_rfl⟩) ?_
  refine .cons (kII_ok (· - ·) (fun _ _ => rfl) (fun w v1 v2 z1 z2 l m h1 h2 l1 l2 b1 b2 => rsub_calls w v1 v2 z1 z2 h1 h2 (l1.sm (by omega)) (l2.sm (by omega))) (fun _ _ _ _ h k => h.sub2 k) ⟨_, Tryz.func215, by decide +kernel, by kernel_rfl⟩) ?_
  refine .cons (kII_ok (· * ·) (fun _ _ => rfl) (fun w v1 v2 z1 z2 l m h1 h2 l1 l2 b1 b2 => rmul_calls w v1 v2 z1 z2 h1 h2 (l1.sm (by omega)) (l2.sm (by omega))) (fun _ _ _ _ h k => h.mul k) ⟨_, Tryz.func99, by decide +kernel, by kernel_rfl⟩) ?_
  refine .cons (kI_ok (- ·) (fun _ => rfl) (fun w v1 z1 l h1 l1 b1 => rneg_calls w v1 z1 h1) (fun _ _ h => h.neg) ⟨_, Tryz.func103, by decide +kernel, by kernel_rfl⟩) ?_
  refine .cons (kIn_ok (cmpZ · 0) (fun _ => rfl) (fun w v1 z1 h1 => rsign_calls w v1 z1 h1) ⟨_, Tryz.func86, by decide +kernel, by kernel_rfl⟩) ?_
  exact .cons (kII_ok (fun x y => ((Nat.gcd x.natAbs y.natAbs : Nat) : Int)) (fun _ _ => rfl) (fun w v1 v2 z1 z2 l m h1 h2 l1 l2 b1 b2 => rgcd_calls w v1 v2 z1 z2 h1 h2 (l1.sm (by omega)) (l2.sm (by omega))) (fun _ _ _ _ h k => gcd_lim h k) ⟨_, Tryz.func88, by decide +kernel, by kernel_rfl⟩) .nil

end Go.Proofs.YtifeacfljfmnpaaGreat
end

section
set_option maxRecDepth 100000
namespace Go.Proofs.YtifeacfljfmnpaaGreat
open Go.RowKit
def tDM : Tree := .ite (.eq (.a1 4 (.var 1)) (.lit 0)) (.leaf [(true, [.int (.lit 0) 0]), (true, [.int (.lit 0) 0]), (false, [.n .i64 (.lit 6)])]) (.ite (.lt (.var 0) (.lit 0)) (.ite (.lt (.var 1) (.lit 0)) (.ite (.lt (.lit 0) (.a1 4 (.a2 10 (.var 0) (.var 1)))) (.leaf [(true, [.int (.a1 5 (.a2 9 (.var 0) (.var 1))) 400000]), (true, [.int (.a1 0 (.a1 5 (.a2 10 (.var 0) (.var 1)))) 400000]), (false, [.n .i64 (.lit 0)])]) (.leaf [(true, [.int (.a1 5 (.a2 9 (.var 0) (.var 1))) 400000]), (true, [.int (.a1 0 (.a1 5 (.a2 10 (.var 0) (.var 1)))) 400000]), (false, [.n .i64 (.lit 0)])])) (.ite (.lt (.lit 0) (.a1 4 (.a2 10 (.var 0) (.var 1)))) (.leaf [(true, [.int (.a2 1 (.a1 0 (.a1 5 (.a2 9 (.var 0) (.var 1)))) (.lit 1)) 400001]), (true, [.int (.a2 0 (.a1 0 (.a1 5 (.a2 10 (.var 0) (.var 1)))) (.var 1)) 400001]), (false, [.n .i64 (.lit 0)])]) (.leaf [(true, [.int (.a1 0 (.a1 5 (.a2 9 (.var 0) (.var 1)))) 400000]), (true, [.int (.a1 0 (.a1 5 (.a2 10 (.var 0) (.var 1)))) 400000]), (false, [.n .i64 (.lit 0)])]))) (.ite (.lt (.var 1) (.lit 0)) (.ite (.lt (.lit 0) (.a1 4 (.a2 10 (.var 0) (.var 1)))) (.leaf [(true, [.int (.a2 1 (.a1 0 (.a1 5 (.a2 9 (.var 0) (.var 1)))) (.lit 1)) 400001]), (true, [.int (.a2 0 (.a1 5 (.a2 10 (.var 0) (.var 1))) (.var 1)) 400001]), (false, [.n .i64 (.lit 0)])]) (.leaf [(true, [.int (.a1 0 (.a1 5 (.a2 9 (.var 0) (.var 1)))) 400000]), (true, [.int (.a1 5 (.a2 10 (.var 0) (.var 1))) 400000]), (false, [.n .i64 (.lit 0)])])) (.ite (.lt (.lit 0) (.a1 4 (.a2 10 (.var 0) (.var 1)))) (.leaf [(true, [.int (.a1 5 (.a2 9 (.var 0) (.var 1))) 400000]), (true, [.int (.a1 5 (.a2 10 (.var 0) (.var 1))) 400000]), (false, [.n .i64 (.lit 0)])]) (.leaf [(true, [.int (.a1 5 (.a2 9 (.var 0) (.var 1))) 400000]), (true, [.int (.a1 5 (.a2 10 (.var 0) (.var 1))) 400000]), (false, [.n .i64 (.lit 0)])]))))
theorem dmZ {a b q r : Int} (hb : b ≠ 0) (h1 : a = q * b + r) (h2 : 0 ≤ r ∧ r < b ∨ b < r ∧ r ≤ 0) : q = dq a b ∧ r = dr a b := by
  obtain ⟨k1, k2⟩ := dq_dr (a := a) hb
  exact quo_unique h1 k1.symm h2 k2
theorem parts_eq (a b : Int) (hb : b ≠ 0) : (b.natAbs : Int) * ((a.natAbs / b.natAbs : Nat) : Int) + ((a.natAbs % b.natAbs : Nat) : Int) = (a.natAbs : Int) ∧ ((a.natAbs % b.natAbs : Nat) : Int) < (b.natAbs : Int) := by
  have e := Nat.div_add_mod a.natAbs b.natAbs
  have hlt := Nat.mod_lt a.natAbs (show 0 < b.natAbs by omega)
  refine ⟨?_, by omega⟩
  rw [← Int.natCast_mul, ← Int.natCast_add, e]
theorem rdm_same {a b : Int} (hb : b ≠ 0) (h : 0 ≤ a ∧ 0 < b) : ((a.natAbs / b.natAbs : Nat) : Int) = dq a b ∧ ((a.natAbs % b.natAbs : Nat) : Int) = dr a b := by
  obtain ⟨e, hlt⟩ := parts_eq a b hb
  generalize ((a.natAbs / b.natAbs : Nat) : Int) = Q at *
  have h0 : 0 ≤ ((a.natAbs % b.natAbs : Nat) : Int) := by omega
  generalize ((a.natAbs % b.natAbs : Nat) : Int) = R at *
  have hN : (b.natAbs : Int) = b := by omega
  rw [hN] at e hlt
  exact dmZ hb (by rw [Int.mul_comm]; omega) (by omega)
theorem rdm_neg {a b : Int} (hb : b ≠ 0) (h : a < 0 ∧ b < 0) : ((a.natAbs / b.natAbs : Nat) : Int) = dq a b ∧ -((a.natAbs % b.natAbs : Nat) : Int) = dr a b := by
  obtain ⟨e, hlt⟩ := parts_eq a b hb
  generalize ((a.natAbs / b.natAbs : Nat) : Int) = Q at *
  have h0 : 0 ≤ ((a.natAbs % b.natAbs : Nat) : Int) := by omega
  generalize ((a.natAbs % b.natAbs : Nat) : Int) = R at *
  have hN : (b.natAbs : Int) = -b := by omega
  rw [hN] at e hlt
  rw [Int.neg_mul] at e
  exact dmZ hb (by rw [Int.mul_comm]; omega) (by omega)
theorem rdm_np {a b : Int} (hb : b ≠ 0) (h : a < 0 ∧ 0 < b) (hr : 0 < ((a.natAbs % b.natAbs : Nat) : Int)) : -((a.natAbs / b.natAbs : Nat) : Int) - 1 = dq a b ∧ -((a.natAbs % b.natAbs : Nat) : Int) + b = dr a b := by
  obtain ⟨e, hlt⟩ := parts_eq a b hb
  generalize ((a.natAbs / b.natAbs : Nat) : Int) = Q at *
  generalize ((a.natAbs % b.natAbs : Nat) : Int) = R at *
  have hN : (b.natAbs : Int) = b := by omega
  rw [hN] at e hlt
  exact dmZ hb (by rw [Int.mul_comm, Int.mul_sub, Int.mul_neg]; omega) (by omega)
theorem rdm_np0 {a b : Int} (hb : b ≠ 0) (h : a < 0 ∧ 0 < b) (hr : ((a.natAbs % b.natAbs : Nat) : Int) = 0) : -((a.natAbs / b.natAbs : Nat) : Int) = dq a b ∧ -((a.natAbs % b.natAbs : Nat) : Int) = dr a b := by
  obtain ⟨e, hlt⟩ := parts_eq a b hb
  generalize ((a.natAbs / b.natAbs : Nat) : Int) = Q at *
  generalize ((a.natAbs % b.natAbs : Nat) : Int) = R at *
  have hN : (b.natAbs : Int) = b := by omega
  rw [hN] at e hlt
  exact dmZ hb (by rw [Int.mul_comm, Int.mul_neg]; omega) (by omega)
theorem rdm_pn {a b : Int} (hb : b ≠ 0) (h : 0 ≤ a ∧ b < 0) (hr : 0 < ((a.natAbs % b.natAbs : Nat) : Int)) : -((a.natAbs / b.natAbs : Nat) : Int) - 1 = dq a b ∧ ((a.natAbs % b.natAbs : Nat) : Int) + b = dr a b := by
  obtain ⟨e, hlt⟩ := parts_eq a b hb
  generalize ((a.natAbs / b.natAbs : Nat) : Int) = Q at *
  generalize ((a.natAbs % b.natAbs : Nat) : Int) = R at *
  have hN : (b.natAbs : Int) = -b := by omega
  rw [hN] at e hlt
  rw [Int.neg_mul] at e
  exact dmZ hb (by rw [Int.mul_comm, Int.mul_sub, Int.mul_neg]; omega) (by omega)
theorem rdm_pn0 {a b : Int} (hb : b ≠ 0) (h : 0 ≤ a ∧ b < 0) (hr : ((a.natAbs % b.natAbs : Nat) : Int) = 0) : -((a.natAbs / b.natAbs : Nat) : Int) = dq a b ∧ ((a.natAbs % b.natAbs : Nat) : Int) = dr a b := by
  obtain ⟨e, hlt⟩ := parts_eq a b hb
  generalize ((a.natAbs / b.natAbs : Nat) : Int) = Q at *
  generalize ((a.natAbs % b.natAbs : Nat) : Int) = R at *
  have hN : (b.natAbs : Int) = -b := by omega
  rw [hN] at e hlt
  rw [Int.neg_mul] at e
  exact dmZ hb (by rw [Int.mul_comm, Int.mul_neg]; omega) (by omega)
theorem len_pos_iff (n : Nat) : (0 : Int) < ((limbs n).length : Int) ↔ 0 < (n : Int) := by
  rcases Nat.eq_zero_or_pos n with h | h
  · subst h; simp [limbs_zero]
  · have := limbs_pos h; omega
theorem rdivMod_fn (w : World) (v1 v2 : Value) (a b : Int) (h : IsInt w v1 a) (k : IsInt w v2 b) (l1 : Lim 400000 a) (l2 : Lim 400000 b) :
    Calls Tryz.prog 164 #[v1, v2] w (RetDMF a b w) := by
  refine (walkZ2 (T := tDM) tabR1_ok Tryz.func164 (by kernel_rfl) (by decide +kernel) (by decide +kernel) h k l1 l2).mono ?_
  rintro e w' ⟨β, v, rfl, hh, ex⟩
  have fin : ∀ (x y : IT) (l m : Nat), (AV.tup [(true, [.int x l]), (true, [.int y m]), (false, [.n .i64 (.lit 0)])]).holds (zE [a, b]) β w' v → b ≠ 0 → (x.den (zE [a, b]) = dq a b ∧ y.den (zE [a, b]) = dr a b) → RetDMF a b w (.returned v) w' := by
    intro x y l m hx hb hq
    obtain ⟨vs, rfl, u1, r1, rfl, k1, u2, r2, rfl, k2, u3, r3, rfl, k3, hn⟩ := hx
    simp only [tupAll] at hn
    subst hn
    have e3 := z9q.1 k3
    subst e3
    refine ⟨u1, u2, ?_, ?_, ?_, ex⟩
    · unfold de; rw [if_neg hb]; rfl
    · rw [← hq.1]; exact (z10q.1 k1).1
    · rw [← hq.2]; exact (z10q.1 k2).1
  have t1 : (BT.eq (.a1 4 (.var 1)) (.lit 0)).den (zE [a, b]) = decide (b = 0) := by
    show (((limbs b.natAbs).length : Int) == 0) = _
    have := len_pos_iff b.natAbs
    by_cases hb : b = 0
    · rw [decide_eq_true hb, beq_iff_eq]; omega
    · rw [decide_eq_false hb, beq_eq_false_iff_ne]; omega
  have t2 : (BT.lt (.var 0) (.lit 0)).den (zE [a, b]) = decide (a < 0) := rfl
  have t3 : (BT.lt (.var 1) (.lit 0)).den (zE [a, b]) = decide (b < 0) := rfl
  have t4 : (BT.lt (.lit 0) (.a1 4 (.a2 10 (.var 0) (.var 1)))).den (zE [a, b]) = decide (0 < ((a.natAbs % b.natAbs : Nat) : Int)) := by
    show decide ((0 : Int) < ((limbs (a.natAbs % b.natAbs)).length : Int)) = _
    rw [decide_eq_decide]
    exact len_pos_iff _
  have h0 : 0 ≤ ((a.natAbs % b.natAbs : Nat) : Int) := Int.natCast_nonneg _
  simp only [tDM, Tree.pick, t1, t2, t3, t4, decide_eq_true_iff] at hh
  split at hh
  · rename_i hb0
    have hb : b = 0 := hb0
    obtain ⟨vs, rfl, u1, r1, rfl, k1, u2, r2, rfl, k2, u3, r3, rfl, k3, hn⟩ := hh
    simp only [tupAll] at hn
    subst hn
    have e3 := z9q.1 k3
    subst e3
    subst hb
    exact ⟨u1, u2, rfl, (z10q.1 k1).1, (z10q.1 k2).1, ex⟩
  · rename_i hb0
    have hb : b ≠ 0 := hb0
    split at hh
    · split at hh
      · split at hh
        · have hq := rdm_neg (a := a) (b := b) hb (by omega); exact fin _ _ _ _ hh hb hq
        · have hq := rdm_neg (a := a) (b := b) hb (by omega); exact fin _ _ _ _ hh hb hq
      · split at hh
        · have hq := rdm_np (a := a) (b := b) hb (by omega) (by omega); exact fin _ _ _ _ hh hb hq
        · have hq := rdm_np0 (a := a) (b := b) hb (by omega) (by omega); exact fin _ _ _ _ hh hb hq
    · split at hh
      · split at hh
        · have hq := rdm_pn (a := a) (b := b) hb (by omega) (by omega); exact fin _ _ _ _ hh hb hq
        · have hq := rdm_pn0 (a := a) (b := b) hb (by omega) (by omega); exact fin _ _ _ _ hh hb hq
      · split at hh
        · have hq := rdm_same (a := a) (b := b) hb (by omega); exact fin _ _ _ _ hh hb hq
        · have hq := rdm_same (a := a) (b := b) hb (by omega); exact fin _ _ _ _ hh hb hq

end Go.Proofs.YtifeacfljfmnpaaGreat
end

section
set_option maxRecDepth 100000
namespace Go.Proofs.YtifeacfljfmnpaaGreat
open Go.RowKit
def tabDiv : List (Nat × Con) := (173, k0 (.lit 1) 3) :: (183, kII (.a2 6) max) :: (184, kII (.a2 4) fun l _ => l) :: (157, kI id id) :: tabInt
theorem tabDiv_ok {E : Env} : TabOK Tryz.prog E tabDiv := by
  refine .cons (k0_ok 1 rfl (fun w => one_calls w) (lim3 (by decide) (by decide)) ⟨_, Tryz.func173, by decide +kernel, by kernel_rfl⟩) ?_
  refine .cons (kII_ok (fun x y => ((Nat.gcd x.natAbs y.natAbs : Nat) : Int)) (fun _ _ => rfl) (fun w v1 v2 z1 z2 l m h1 h2 l1 l2 b1 b2 => divisor_calls w v1 v2 z1 z2 h1 h2 (l1.mono b1) (l2.mono b2)) (fun _ _ _ _ h k => gcd_lim h k) ⟨_, Tryz.func183, by decide +kernel, by kernel_rfl⟩) ?_
  refine .cons (kII_ok dq (fun _ _ => rfl) (fun w v1 v2 z1 z2 l m h1 h2 l1 l2 b1 b2 => quotient_calls w v1 v2 z1 z2 h1 h2 (l1.mono b1) (l2.mono b2)) (fun _ _ _ _ h _ => h.natAbs_le (dq_abs _ _)) ⟨_, Tryz.func184, by decide +kernel, by kernel_rfl⟩) ?_
  exact .cons (kI_ok id (fun _ => rfl) (fun w v1 z1 l h1 l1 b1 => clone_int_calls w v1 z1 h1 (l1.mono b1)) (fun _ _ h => h) ⟨_, Tryz.func157, by decide +kernel, by kernel_rfl⟩) tabInt_ok

theorem gcd_pos_right (x : Int) (n : Nat) (h : 0 < n) : 0 < Nat.gcd x.natAbs n := Nat.gcd_pos_of_pos_right _ h
theorem dq_cast (x : Int) {n : Nat} (h : 0 < n) : dq x (n : Int) = x / (n : Int) := dq_pos (by omega)
theorem dq_cast2 (m : Nat) {n : Nat} (h : 0 < n) : dq (m : Int) (n : Int) = ((m / n : Nat) : Int) := by rw [dq_cast _ h]; exact (Int.natCast_ediv m n).symm
theorem mul_dq (a b : Rat) : dq a.num ((Nat.gcd a.num.natAbs (b.den : Int).natAbs : Nat) : Int) * dq b.num ((Nat.gcd b.num.natAbs (a.den : Int).natAbs : Nat) : Int) = (a * b).num ∧
    dq (a.den : Int) ((Nat.gcd b.num.natAbs (a.den : Int).natAbs : Nat) : Int) * dq (b.den : Int) ((Nat.gcd a.num.natAbs (b.den : Int).natAbs : Nat) : Int) = ((a * b).den : Int) := by
  obtain ⟨h1, h2⟩ := mul_parts a b
  simp only [Int.natAbs_natCast]
  have p1 := gcd_pos_right a.num b.den b.den_pos
  have p2 := gcd_pos_right b.num a.den a.den_pos
  rw [h1, h2, dq_cast _ p1, dq_cast _ p2, dq_cast2 _ p1, dq_cast2 _ p2, Int.natCast_mul]
  exact ⟨rfl, rfl⟩

theorem mul_rat_calls (w : World) (v1 v2 : Value) (a b : Rat) (h1 : IsRat w v1 a) (h2 : IsRat w v2 b) (l1 : LimQ 100000 a) (l2 : LimQ 100000 b) :
    Calls Tryz.prog 131 #[v1, v2] w (Ret (fun v w' => IsRat w' v (a * b)) w) := by
  refine (walkQ2 (T := .leaf [(true, [.int (.a2 2 (.a2 4 (.var 0) (.a2 6 (.var 0) (.var 3))) (.a2 4 (.var 2) (.a2 6 (.var 2) (.var 1)))) 200000, .int (.a2 2 (.a2 4 (.var 1) (.a2 6 (.var 2) (.var 1))) (.a2 4 (.var 3) (.a2 6 (.var 0) (.var 3)))) 200000])])
    tabDiv_ok Tryz.func131 (by kernel_rfl) (by decide +kernel) (by decide +kernel) h1 h2 l1 l2).mono ?_
  rintro e w' ⟨β, v, rfl, hh, ex⟩
  obtain ⟨x, y, z, t, rfl, k1, _, k2, _⟩ := one_rat.1 hh
  obtain ⟨m1, m2⟩ := mul_dq a b
  refine ⟨_, rfl, ⟨x, y, z, t, rfl, ?_, ?_⟩, ex⟩
  · rw [← m1]; exact k1
  · rw [← m2]; exact k2
theorem neg_rat_calls (w : World) (v1 : Value) (a : Rat) (h1 : IsRat w v1 a) (l1 : LimQ 100000 a) :
    Calls Tryz.prog 80 #[v1] w (Ret (fun v w' => IsRat w' v (-a)) w) := by
  refine (walkQ1 (T := .leaf [(true, [.int (.a1 0 (.var 0)) 100000, .int (.var 1) 100000])])
    tabDiv_ok Tryz.func80 (by kernel_rfl) (by decide +kernel) (by decide +kernel) h1 l1).mono ?_
  rintro e w' ⟨β, v, rfl, hh, ex⟩
  obtain ⟨x, y, z, t, rfl, k1, _, k2, _⟩ := one_rat.1 hh
  exact ⟨_, rfl, ⟨x, y, z, t, rfl, k1, k2⟩, ex⟩
theorem sum_dq (a b : Rat) (N : Int) (hN : N = a.num * dq (b.den : Int) ((Nat.gcd (a.den : Int).natAbs (b.den : Int).natAbs : Nat) : Int) + b.num * dq (a.den : Int) ((Nat.gcd (a.den : Int).natAbs (b.den : Int).natAbs : Nat) : Int)) :
    dq N ((Nat.gcd N.natAbs ((Nat.gcd (a.den : Int).natAbs (b.den : Int).natAbs : Nat) : Int).natAbs : Nat) : Int) = (a + b).num ∧
    dq (a.den : Int) ((Nat.gcd (a.den : Int).natAbs (b.den : Int).natAbs : Nat) : Int) * dq (b.den : Int) ((Nat.gcd N.natAbs ((Nat.gcd (a.den : Int).natAbs (b.den : Int).natAbs : Nat) : Int).natAbs : Nat) : Int) = ((a + b).den : Int) := by
  obtain ⟨h1, h2⟩ := add_parts a b
  simp only [Int.natAbs_natCast] at hN ⊢
  have p0 : 0 < a.den.gcd b.den := Nat.gcd_pos_of_pos_right _ b.den_pos
  rw [dq_cast2 _ p0, dq_cast2 _ p0] at hN
  rw [← hN] at h1 h2
  have p1 := gcd_pos_right N (a.den.gcd b.den) p0
  have d1 : N.natAbs.gcd (a.den.gcd b.den) ∣ b.den := Nat.dvd_trans (Nat.gcd_dvd_right _ _) (Nat.gcd_dvd_right _ _)
  rw [dq_cast _ p1, dq_cast2 _ p1, dq_cast2 _ p0, h1, h2, Nat.mul_div_assoc _ d1, Int.natCast_mul]
  exact ⟨rfl, rfl⟩
theorem sum_ones (a b : Rat) (h1 : (a.den : Int) = 1) (h2 : (b.den : Int) = 1) : a.num + b.num = (a + b).num ∧ (1 : Int) = ((a + b).den : Int) := by
  obtain ⟨k1, k2⟩ := add_parts a b
  have e1 : a.den = 1 := by omega
  have e2 : b.den = 1 := by omega
  rw [e1, e2] at k1 k2
  rw [k1, k2]
  simp
theorem sum_add_calls (w : World) (v1 v2 : Value) (a b : Rat) (h1 : IsRat w v1 a) (h2 : IsRat w v2 b) (l1 : LimQ 100000 a) (l2 : LimQ 100000 b) :
    Calls Tryz.prog 180 #[v1, v2, .func (.func 181) #[] #[]] w (Ret (fun v w' => IsRat w' v (a + b)) w) := by
  refine (walkQ2f (T := .ite (.eq (.var 1) (.lit 1)) (.ite (.eq (.var 3) (.lit 1)) (.leaf [(true, [.int (.a2 0 (.var 0) (.var 2)) 100001, .int (.lit 1) 3])]) (.leaf [(true, [.int (.a2 4 (.a2 0 (.a2 2 (.var 0) (.a2 4 (.var 3) (.a2 6 (.var 1) (.var 3)))) (.a2 2 (.var 2) (.a2 4 (.var 1) (.a2 6 (.var 1) (.var 3))))) (.a2 6 (.a2 0 (.a2 2 (.var 0) (.a2 4 (.var 3) (.a2 6 (.var 1) (.var 3)))) (.a2 2 (.var 2) (.a2 4 (.var 1) (.a2 6 (.var 1) (.var 3))))) (.a2 6 (.var 1) (.var 3)))) 200001, .int (.a2 2 (.a2 4 (.var 1) (.a2 6 (.var 1) (.var 3))) (.a2 4 (.var 3) (.a2 6 (.a2 0 (.a2 2 (.var 0) (.a2 4 (.var 3) (.a2 6 (.var 1) (.var 3)))) (.a2 2 (.var 2) (.a2 4 (.var 1) (.a2 6 (.var 1) (.var 3))))) (.a2 6 (.var 1) (.var 3))))) 200000])])) (.leaf [(true, [.int (.a2 4 (.a2 0 (.a2 2 (.var 0) (.a2 4 (.var 3) (.a2 6 (.var 1) (.var 3)))) (.a2 2 (.var 2) (.a2 4 (.var 1) (.a2 6 (.var 1) (.var 3))))) (.a2 6 (.a2 0 (.a2 2 (.var 0) (.a2 4 (.var 3) (.a2 6 (.var 1) (.var 3)))) (.a2 2 (.var 2) (.a2 4 (.var 1) (.a2 6 (.var 1) (.var 3))))) (.a2 6 (.var 1) (.var 3)))) 200001, .int (.a2 2 (.a2 4 (.var 1) (.a2 6 (.var 1) (.var 3))) (.a2 4 (.var 3) (.a2 6 (.a2 0 (.a2 2 (.var 0) (.a2 4 (.var 3) (.a2 6 (.var 1) (.var 3)))) (.a2 2 (.var 2) (.a2 4 (.var 1) (.a2 6 (.var 1) (.var 3))))) (.a2 6 (.var 1) (.var 3))))) 200000])]))
    tabDiv_ok Tryz.func180 (by kernel_rfl) (by decide +kernel) (by decide +kernel) h1 h2 l1 l2).mono ?_
  rintro e w' ⟨β, v, rfl, hh, ex⟩
  obtain ⟨m1, m2⟩ := sum_dq a b _ rfl
  simp only [Tree.pick] at hh
  split at hh
  · rename_i hz1
    split at hh
    · rename_i hz2
      obtain ⟨x, y, z, t, rfl, k1, _, k2, _⟩ := one_rat.1 hh
      obtain ⟨s1, s2⟩ := sum_ones a b (eq_of_beq hz1) (eq_of_beq hz2)
      refine ⟨_, rfl, ⟨x, y, z, t, rfl, ?_, ?_⟩, ex⟩
      · rw [← s1]; exact k1
      · rw [← s2]; exact k2
    · obtain ⟨x, y, z, t, rfl, k1, _, k2, _⟩ := one_rat.1 hh
      refine ⟨_, rfl, ⟨x, y, z, t, rfl, ?_, ?_⟩, ex⟩
      · rw [← m1]; exact k1
      · rw [← m2]; exact k2
  · obtain ⟨x, y, z, t, rfl, k1, _, k2, _⟩ := one_rat.1 hh
    refine ⟨_, rfl, ⟨x, y, z, t, rfl, ?_, ?_⟩, ex⟩
    · rw [← m1]; exact k1
    · rw [← m2]; exact k2
theorem sum_sub_calls (w : World) (v1 v2 : Value) (a b : Rat) (h1 : IsRat w v1 a) (h2 : IsRat w v2 b) (l1 : LimQ 100000 a) (l2 : LimQ 100000 b) :
    Calls Tryz.prog 180 #[v1, v2, .func (.func 182) #[] #[]] w (Ret (fun v w' => IsRat w' v (a - b)) w) := by
  refine (walkQ2f (T := .ite (.eq (.var 1) (.lit 1)) (.ite (.eq (.var 3) (.lit 1)) (.leaf [(true, [.int (.a2 1 (.var 0) (.var 2)) 100001, .int (.lit 1) 3])]) (.leaf [(true, [.int (.a2 4 (.a2 1 (.a2 2 (.var 0) (.a2 4 (.var 3) (.a2 6 (.var 1) (.var 3)))) (.a2 2 (.var 2) (.a2 4 (.var 1) (.a2 6 (.var 1) (.var 3))))) (.a2 6 (.a2 1 (.a2 2 (.var 0) (.a2 4 (.var 3) (.a2 6 (.var 1) (.var 3)))) (.a2 2 (.var 2) (.a2 4 (.var 1) (.a2 6 (.var 1) (.var 3))))) (.a2 6 (.var 1) (.var 3)))) 200001, .int (.a2 2 (.a2 4 (.var 1) (.a2 6 (.var 1) (.var 3))) (.a2 4 (.var 3) (.a2 6 (.a2 1 (.a2 2 (.var 0) (.a2 4 (.var 3) (.a2 6 (.var 1) (.var 3)))) (.a2 2 (.var 2) (.a2 4 (.var 1) (.a2 6 (.var 1) (.var 3))))) (.a2 6 (.var 1) (.var 3))))) 200000])])) (.leaf [(true, [.int (.a2 4 (.a2 1 (.a2 2 (.var 0) (.a2 4 (.var 3) (.a2 6 (.var 1) (.var 3)))) (.a2 2 (.var 2) (.a2 4 (.var 1) (.a2 6 (.var 1) (.var 3))))) (.a2 6 (.a2 1 (.a2 2 (.var 0) (.a2 4 (.var 3) (.a2 6 (.var 1) (.var 3)))) (.a2 2 (.var 2) (.a2 4 (.var 1) (.a2 6 (.var 1) (.var 3))))) (.a2 6 (.var 1) (.var 3)))) 200001, .int (.a2 2 (.a2 4 (.var 1) (.a2 6 (.var 1) (.var 3))) (.a2 4 (.var 3) (.a2 6 (.a2 1 (.a2 2 (.var 0) (.a2 4 (.var 3) (.a2 6 (.var 1) (.var 3)))) (.a2 2 (.var 2) (.a2 4 (.var 1) (.a2 6 (.var 1) (.var 3))))) (.a2 6 (.var 1) (.var 3))))) 200000])]))
    tabDiv_ok Tryz.func180 (by kernel_rfl) (by decide +kernel) (by decide +kernel) h1 h2 l1 l2).mono ?_
  rintro e w' ⟨β, v, rfl, hh, ex⟩
  rw [Rat.sub_eq_add_neg]
  obtain ⟨m1, m2⟩ := sum_dq a (-b) (a.num * dq (b.den : Int) ((Nat.gcd (a.den : Int).natAbs (b.den : Int).natAbs : Nat) : Int) - b.num * dq (a.den : Int) ((Nat.gcd (a.den : Int).natAbs (b.den : Int).natAbs : Nat) : Int)) (by rw [Int.sub_eq_add_neg, ← Int.neg_mul]; rfl)
  simp only [Tree.pick] at hh
  split at hh
  · rename_i hz1
    split at hh
    · rename_i hz2
      obtain ⟨x, y, z, t, rfl, k1, _, k2, _⟩ := one_rat.1 hh
      obtain ⟨s1, s2⟩ := sum_ones a (-b) (eq_of_beq hz1) (eq_of_beq hz2)
      refine ⟨_, rfl, ⟨x, y, z, t, rfl, ?_, ?_⟩, ex⟩
      · rw [← s1, Rat.neg_num, ← Int.sub_eq_add_neg]; exact k1
      · rw [← s2]; exact k2
    · obtain ⟨x, y, z, t, rfl, k1, _, k2, _⟩ := one_rat.1 hh
      refine ⟨_, rfl, ⟨x, y, z, t, rfl, ?_, ?_⟩, ex⟩
      · rw [← m1]; exact k1
      · rw [← m2]; exact k2
  · obtain ⟨x, y, z, t, rfl, k1, _, k2, _⟩ := one_rat.1 hh
    refine ⟨_, rfl, ⟨x, y, z, t, rfl, ?_, ?_⟩, ex⟩
    · rw [← m1]; exact k1
    · rw [← m2]; exact k2
end Go.Proofs.YtifeacfljfmnpaaGreat
end

section
set_option maxRecDepth 100000
namespace Go.Proofs.YtifeacfljfmnpaaGreat
open Go.RowKit
theorem LimQ.mul {l m k j : Nat} {a b : Rat} (h1 : Lim l a.num) (h2 : Lim m (a.den : Int)) (h3 : Lim k b.num) (h4 : Lim j (b.den : Int)) : Lim (l + m + k + j + 1) (a * b).num ∧ Lim (l + m + k + j + 1) ((a * b).den : Int) := by
  obtain ⟨m1, m2⟩ := mul_dq a b
  rw [← m1, ← m2]
  exact ⟨((h1.natAbs_le (dq_abs _ _)).mul (h3.natAbs_le (dq_abs _ _))).mono (by omega), ((h2.natAbs_le (dq_abs _ _)).mul (h4.natAbs_le (dq_abs _ _))).mono (by omega)⟩
theorem LimQ.add {l m k j : Nat} {a b : Rat} (h1 : Lim l a.num) (h2 : Lim m (a.den : Int)) (h3 : Lim k b.num) (h4 : Lim j (b.den : Int)) : Lim (l + m + k + j + 1) (a + b).num ∧ Lim (l + m + k + j + 1) ((a + b).den : Int) := by
  obtain ⟨m1, m2⟩ := sum_dq a b _ rfl
  rw [← m1, ← m2]
  refine ⟨Lim.natAbs_le ?_ (dq_abs _ _), ((h2.natAbs_le (dq_abs _ _)).mul (h4.natAbs_le (dq_abs _ _))).mono (by omega)⟩
  exact ((h1.mul (h4.natAbs_le (dq_abs _ _))).add2 (h3.mul (h2.natAbs_le (dq_abs _ _)))).mono (by omega)
theorem LimQ.sub {l m k j : Nat} {a b : Rat} (h1 : Lim l a.num) (h2 : Lim m (a.den : Int)) (h3 : Lim k b.num) (h4 : Lim j (b.den : Int)) : Lim (l + m + k + j + 1) (a - b).num ∧ Lim (l + m + k + j + 1) ((a - b).den : Int) := by
  rw [Rat.sub_eq_add_neg]
  exact LimQ.add (b := -b) h1 h2 (by rw [Rat.neg_num]; exact h3.neg) h4

def QEnv (E : Env) : Prop := ∀ i, i % 2 = 0 → ∃ q : Rat, E.i i = q.num ∧ E.i (i + 1) = (q.den : Int)
def canon0 : IT → IT → Bool
  | .var i, .var j => i % 2 == 0 && j == i + 1
  | .lit z, .lit d => decide (0 < d) && Nat.gcd z.natAbs d.natAbs == 1
  | .a1 f x, t => f == 0 && canon0 x t
  | .a2 f x y, .a2 g z t => f == 7 && (g == 8 && (x.beq z && y.beq t))
  | .a4 f x y z t, .a4 g x' y' z' t' => f % 2 == 0 && (g == f + 1 && (f != 8 && (x.beq x' && (y.beq y' && (z.beq z' && t.beq t')))))
  | _, _ => false
theorem canon0_spec {E : Env} (hE : QEnv E) : ∀ {s t : IT}, canon0 s t = true → ∃ q : Rat, s.den E = q.num ∧ t.den E = (q.den : Int) := by
  intro s
  induction s with
  | var i =>
    intro t h
    cases t <;> simp only [canon0, Bool.false_eq_true, Bool.and_eq_true, beq_iff_eq] at h
    obtain ⟨h1, rfl⟩ := h
    exact hE i h1
  | lit z =>
    intro t h
    cases t with
    | lit d =>
      simp only [canon0, Bool.and_eq_true, beq_iff_eq, decide_eq_true_iff] at h
      obtain ⟨h1, h2⟩ := h
      exact ⟨⟨z, d.natAbs, by omega, h2⟩, rfl, (by show d = (d.natAbs : Int); omega)⟩
    | _ => simp [canon0] at h
  | rlen i => intro t h; cases t <;> simp [canon0] at h
  | slen i => intro t h; cases t <;> simp [canon0] at h
  | a1 f x ih =>
    intro t h
    simp only [canon0, Bool.and_eq_true, beq_iff_eq] at h
    obtain ⟨rfl, h⟩ := h
    obtain ⟨q, h1, h2⟩ := ih h
    exact ⟨-q, by rw [Rat.neg_num, ← h1]; rfl, h2⟩
  | a2 f x y _ _ =>
    intro t h
    cases t <;> simp only [canon0, Bool.false_eq_true, Bool.and_eq_true, beq_iff_eq] at h
    obtain ⟨rfl, rfl, h1, h2⟩ := h
    rw [← IT.eq_of_beq h1, ← IT.eq_of_beq h2]
    exact ⟨_, rfl, rfl⟩
  | a4 f x y z t _ _ _ _ =>
    intro u h
    cases u <;> simp only [canon0, Bool.false_eq_true, Bool.and_eq_true, beq_iff_eq] at h
    obtain ⟨h0, rfl, h8, h1, h2, h3, h4⟩ := h
    have h8' : f ≠ 8 := by simpa using h8
    rw [← IT.eq_of_beq h1, ← IT.eq_of_beq h2, ← IT.eq_of_beq h3, ← IT.eq_of_beq h4]
    refine ⟨_, if_pos h0, ?_⟩
    show fn4 (f + 1) _ _ _ _ = _
    unfold fn4
    rw [if_neg (by omega), if_neg (by omega), show (f + 1) / 2 = f / 2 by omega]
def canon (s t : IT) : Bool := t.beq (.lit 1) || canon0 s t
theorem canon_spec {E : Env} (hE : QEnv E) {s t : IT} (h : canon s t = true) : ∃ q : Rat, s.den E = q.num ∧ t.den E = (q.den : Int) := by
  unfold canon at h
  rw [Bool.or_eq_true] at h
  rcases h with h | h
  · rw [IT.eq_of_beq h]
    exact ⟨⟨s.den E, 1, by omega, Nat.gcd_one_right _⟩, rfl, rfl⟩
  · exact canon0_spec hE h
theorem divInt_parts (q : Rat) : Rat.divInt q.num (q.den : Int) = q := Rat.num_divInt_den q
theorem one_ratQ {E : Env} {w : World} {s t : IT} {l m : Nat} {v : Value} (hE : QEnv E) (hc : canon s t = true) (h : one E w (true, [.int s l, .int t m]) v) : ∃ q : Rat, q = Rat.divInt (s.den E) (t.den E) ∧ s.den E = q.num ∧ t.den E = (q.den : Int) ∧ IsRat w v q ∧ Lim l q.num ∧ Lim m (q.den : Int) := by
  obtain ⟨q, e1, e2⟩ := canon_spec hE hc
  obtain ⟨a, b, c, d, rfl, h1, h2, h3, h4⟩ := one_rat.1 h
  rw [e1] at h1 h2
  rw [e2] at h3 h4
  refine ⟨q, ?_, e1, e2, ⟨a, b, c, d, rfl, h1, h3⟩, h2, h4⟩
  rw [e1, e2, divInt_parts]
def ql (l : Nat) : Bool := decide (l ≤ 100000)
def kQQ (f : Nat) : Con
  | [.val true [.int x l, .int y m], .val true [.int z k, .int t j]], _ => if canon x y && (canon z t && (ql l && (ql m && (ql k && ql j)))) then
      some (.val true [.int (.a4 (2 * f) x y z t) (l + m + k + j + 1), .int (.a4 (2 * f + 1) x y z t) (l + m + k + j + 1)]) else none
  | _, _ => none
theorem kQQ_ok {E : Env} (hE : QEnv E) {f i : Nat} (hf : f < 4)
    (hc : ∀ (w : World) (v1 v2 : Value) (a b : Rat), IsRat w v1 a → IsRat w v2 b → LimQ 100000 a → LimQ 100000 b → Calls Tryz.prog i #[v1, v2] w (Ret (fun v w' => IsRat w' v (ratF f a b)) w))
    (hl : ∀ {l m k j : Nat} {a b : Rat}, Lim l a.num → Lim m (a.den : Int) → Lim k b.num → Lim j (b.den : Int) → Lim (l + m + k + j + 1) (ratF f a b).num ∧ Lim (l + m + k + j + 1) ((ratF f a b).den : Int))
    (hb : ∃ fn, Tryz.prog.funcs[i]? = some fn ∧ fn.name ≠ "runtime.NumGoroutine" ∧ fn.body.isNone = false) : ConOK Tryz.prog E i (kQQ f) := by
  refine ⟨?_, ?_, hb⟩
  · intro args As r h hG β w vs hv hlen
    unfold kQQ at h
    split at h
    · rename_i x l y m z k t j
      split at h
      · rename_i hlo
        injection h with h
        subst h
        simp only [ql, Bool.and_eq_true, decide_eq_true_iff] at hlo
        obtain ⟨c1, c2, b1, b2, b3, b4⟩ := hlo
        obtain ⟨v, u, rfl, h1, h2⟩ := args2 hv hlen
        obtain ⟨p, ep, ex1, ex2, hp, lp1, lp2⟩ := one_ratQ hE c1 h1
        obtain ⟨q, eq, ey1, ey2, hq, lq1, lq2⟩ := one_ratQ hE c2 h2
        obtain ⟨n1, n2⟩ := hl lp1 lp2 lq1 lq2
        refine (hc w v u p q hp hq ⟨lp1.mono (by omega), lp2.mono (by omega)⟩ ⟨lq1.mono (by omega), lq2.mono (by omega)⟩).mono ?_
        rintro e w' ⟨v', rfl, ⟨a, b, c, d, rfl, r1, r2⟩, ex⟩
        have d1 : (IT.a4 (2 * f) x y z t).den E = (ratF f p q).num := by
          show fn4 (2 * f) _ _ _ _ = _
          unfold fn4
          rw [if_pos (by omega), show 2 * f / 2 = f by omega, ← ep, ← eq]
        have d2 : (IT.a4 (2 * f + 1) x y z t).den E = ((ratF f p q).den : Int) := by
          show fn4 (2 * f + 1) _ _ _ _ = _
          unfold fn4
          rw [if_neg (by omega), if_neg (by omega), show (2 * f + 1) / 2 = f by omega, ← ep, ← eq]
        refine ⟨_, rfl, one_rat.2 ⟨a, b, c, d, rfl, ?_, ?_, ?_, ?_⟩, ex⟩
        · rw [d1]; exact r1
        · rw [d1]; exact n1
        · rw [d2]; exact r2
        · rw [d2]; exact n2
      · cases h
    · cases h
  · intro args As r h x off
    unfold kQQ at h
    split at h
    · split at h
      · injection h with h; subst h; intro e; cases e
      · cases h
    · cases h
end Go.Proofs.YtifeacfljfmnpaaGreat
end

section
set_option maxRecDepth 100000
namespace Go.Proofs.YtifeacfljfmnpaaGreat
open Go.RowKit
def tabR2 : List (Nat × Con) := (164, kDM) :: tabR1
theorem tabR2_ok {E : Env} : TabOK Tryz.prog E tabR2 := .cons (kDMg_ok (fun w v u a b h k l1 l2 => rdivMod_fn w v u a b h k l1 l2) ⟨_, Tryz.func164, by decide +kernel, by kernel_rfl⟩) tabR1_ok

theorem red_pos (a : Int) {b : Int} (hb : 0 < b) : dq a ((Nat.gcd a.natAbs b.natAbs : Nat) : Int) = (Rat.divInt a b).num ∧ dq b ((Nat.gcd a.natAbs b.natAbs : Nat) : Int) = ((Rat.divInt a b).den : Int) := by
  have hg : 0 < Nat.gcd a.natAbs b.natAbs := Nat.gcd_pos_of_pos_right _ (by omega)
  have hgc : b.gcd a = Nat.gcd a.natAbs b.natAbs := Nat.gcd_comm _ _
  rw [Rat.num_divInt, Rat.den_divInt, if_neg (by omega), hgc, Int.sign_eq_one_of_pos hb, Int.one_mul, dq_cast _ hg]
  refine ⟨rfl, ?_⟩
  have hbn : b = (b.natAbs : Int) := by omega
  generalize Nat.gcd a.natAbs b.natAbs = g at *
  rw [hbn, dq_cast2 _ hg, ← hbn]
theorem divInt_negs (a b : Int) : Rat.divInt (-a) (-b) = Rat.divInt a b := by
  have := Rat.divInt_mul_right (n := a) (d := b) (a := -1) (by omega)
  rw [← this]
  congr 1 <;> omega
theorem red_neg (a : Int) {b : Int} (hb : b < 0) : dq (-a) ((Nat.gcd (-a).natAbs (-b).natAbs : Nat) : Int) = (Rat.divInt a b).num ∧ dq (-b) ((Nat.gcd (-a).natAbs (-b).natAbs : Nat) : Int) = ((Rat.divInt a b).den : Int) := by
  rw [← divInt_negs a b]
  exact red_pos (-a) (by omega)
theorem cmp_lt0 (b : Int) : (cmpZ b 0 < 0) ↔ b < 0 := by
  rcases z2q b 0 with ⟨h, e⟩ | ⟨h, e⟩ | ⟨h, e⟩ <;> rw [e] <;> omega
theorem cmp_eq0 (b : Int) : (cmpZ b 0 = 0) ↔ b = 0 := by
  rcases z2q b 0 with ⟨h, e⟩ | ⟨h, e⟩ | ⟨h, e⟩ <;> rw [e] <;> omega
theorem cmp_eqm (b : Int) : (cmpZ b 0 = -1) ↔ b < 0 := by
  rcases z2q b 0 with ⟨h, e⟩ | ⟨h, e⟩ | ⟨h, e⟩ <;> rw [e] <;> omega
theorem divInt_lim {l m : Nat} {a b : Int} (h : Lim l a) (k : Lim m b) (hb : b ≠ 0) : Lim l (Rat.divInt a b).num ∧ Lim m ((Rat.divInt a b).den : Int) := by
  rcases Int.lt_or_gt_of_ne hb with h1 | h1
  · obtain ⟨e1, e2⟩ := red_neg a h1
    rw [← e1, ← e2]
    exact ⟨h.neg.natAbs_le (dq_abs _ _), k.neg.natAbs_le (dq_abs _ _)⟩
  · obtain ⟨e1, e2⟩ := red_pos a h1
    rw [← e1, ← e2]
    exact ⟨h.natAbs_le (dq_abs _ _), k.natAbs_le (dq_abs _ _)⟩

theorem of_calls (w : World) (v1 v2 : Value) (a b : Int) (hb : b ≠ 0) (h : IsInt w v1 a) (k : IsInt w v2 b) (l1 : Lim 400000 a) (l2 : Lim 400000 b) :
    Calls Tryz.prog 98 #[v1, v2] w (Ret (fun v w' => IsRat w' v (Rat.divInt a b)) w) := by
  refine (walkZ2 (T := .ite (.lt (.a2 3 (.var 1) (.lit 0)) (.lit 0))
    (.leaf [(true, [.int (.a2 4 (.a1 0 (.var 0)) (.a2 6 (.a1 0 (.var 0)) (.a1 0 (.var 1)))) 400000, .int (.a2 4 (.a1 0 (.var 1)) (.a2 6 (.a1 0 (.var 0)) (.a1 0 (.var 1)))) 400000])])
    (.leaf [(true, [.int (.a2 4 (.var 0) (.a2 6 (.var 0) (.var 1))) 400000, .int (.a2 4 (.var 1) (.a2 6 (.var 0) (.var 1))) 400000])]))
    tabR2_ok Tryz.func98 (by kernel_rfl) (by decide +kernel) (by decide +kernel) h k l1 l2).mono ?_
  rintro e w' ⟨β, v, rfl, hh, ex⟩
  simp only [Tree.pick] at hh
  split at hh
  · rename_i hz
    have hz' : b < 0 := (cmp_lt0 b).1 (of_decide_eq_true hz)
    obtain ⟨x, y, z, t, rfl, k1, _, k2, _⟩ := one_rat.1 hh
    obtain ⟨m1, m2⟩ := red_neg a hz'
    refine ⟨_, rfl, ⟨x, y, z, t, rfl, ?_, ?_⟩, ex⟩
    · rw [← m1]; exact k1
    · rw [← m2]; exact k2
  · rename_i hz
    have hz' : ¬ b < 0 := fun hb => hz (decide_eq_true ((cmp_lt0 b).2 hb))
    obtain ⟨x, y, z, t, rfl, k1, _, k2, _⟩ := one_rat.1 hh
    obtain ⟨m1, m2⟩ := red_pos a (show 0 < b by omega)
    refine ⟨_, rfl, ⟨x, y, z, t, rfl, ?_, ?_⟩, ex⟩
    · rw [← m1]; exact k1
    · rw [← m2]; exact k2
theorem unit_calls (w : World) : Calls Tryz.prog 89 #[] w (Ret (fun v w' => IsInt w' v 1) w) := by
  refine (walk0 (T := .leaf [(true, [.int (.lit 1) 3])]) tabR2_ok Tryz.func89 (by kernel_rfl) (by decide +kernel)).mono ?_
  rintro e w' ⟨β, v, rfl, hh, ex⟩
  exact ⟨v, rfl, (z10q.1 hh).1, ex⟩

def denZ (a b : Int) : Int := if b = 0 then 0 else ((Rat.divInt a b).den : Int)
def RetMake (a b : Int) (w : World) (e : Ending) (w' : World) : Prop :=
  ∃ x y z t, e = .returned (.tuple #[.agg #[x, y, z, t], .int .i64 (de b)]) ∧ IsInt w' (.agg #[x, y]) (Rat.divInt a b).num ∧ IsInt w' (.agg #[z, t]) (denZ a b) ∧ Ext w w'
theorem divInt_zero' (a : Int) : (Rat.divInt a 0).num = 0 := by rw [Rat.num_divInt]; simp
theorem make_calls (w : World) (v1 v2 : Value) (a b : Int) (h : IsInt w v1 a) (k : IsInt w v2 b) (l1 : Lim 400000 a) (l2 : Lim 400000 b) :
    Calls Tryz.prog 153 #[v1, v2] w (RetMake a b w) := by
  refine (walkZ2 (T := .ite (.eq (.a2 3 (.var 1) (.lit 0)) (.lit 0)) (.leaf [(true, [.int (.lit 0) 0, .int (.lit 0) 0]), (false, [.n .i64 (.lit 6)])])
    (.ite (.eq (.a2 3 (.var 1) (.lit 0)) (.lit (-1)))
    (.leaf [(true, [.int (.a2 4 (.a1 0 (.var 0)) (.a2 6 (.a1 0 (.var 0)) (.a1 0 (.var 1)))) 400000, .int (.a2 4 (.a1 0 (.var 1)) (.a2 6 (.a1 0 (.var 0)) (.a1 0 (.var 1)))) 400000]), (false, [.n .i64 (.lit 0)])])
    (.leaf [(true, [.int (.a2 4 (.var 0) (.a2 6 (.var 0) (.var 1))) 400000, .int (.a2 4 (.var 1) (.a2 6 (.var 0) (.var 1))) 400000]), (false, [.n .i64 (.lit 0)])])))
    tabDiv_ok Tryz.func153 (by kernel_rfl) (by decide +kernel) (by decide +kernel) h k l1 l2).mono ?_
  rintro e w' ⟨β, v, rfl, hh, ex⟩
  have open_ : ∀ (s t u : IT) (l m : Nat), (AV.tup [(true, [.int s l, .int t m]), (false, [.n .i64 u])]).holds (zE [a, b]) β w' v → s.den (zE [a, b]) = (Rat.divInt a b).num → t.den (zE [a, b]) = denZ a b → u.den (zE [a, b]) = de b → RetMake a b w (.returned v) w' := by
    intro s t u l m hx e1 e2 e3
    obtain ⟨vs, rfl, u1, r1, rfl, k1, u2, r2, rfl, k2, hn⟩ := hx
    simp only [tupAll] at hn
    subst hn
    have k2' := z9q.1 k2
    subst k2'
    obtain ⟨x, y, z, t', rfl, j1, _, j2, _⟩ := one_rat.1 k1
    rw [e1] at j1
    rw [e2] at j2
    exact ⟨x, y, z, t', by rw [e3], j1, j2, ex⟩
  simp only [Tree.pick] at hh
  split at hh
  · rename_i hz
    have hz' : b = 0 := (cmp_eq0 b).1 (eq_of_beq hz)
    subst hz'
    exact open_ _ _ _ _ _ hh (divInt_zero' a).symm rfl rfl
  · rename_i hz
    have hb : b ≠ 0 := fun hb => hz (beq_iff_eq.2 ((cmp_eq0 b).2 hb))
    have e3 : (0 : Int) = de b := by unfold de; rw [if_neg hb]
    have e2 : denZ a b = ((Rat.divInt a b).den : Int) := by unfold denZ; rw [if_neg hb]
    split at hh
    · rename_i hz
      have hz' : b < 0 := (cmp_eqm b).1 (eq_of_beq hz)
      obtain ⟨m1, m2⟩ := red_neg a hz'
      exact open_ _ _ _ _ _ hh m1 (by rw [e2]; exact m2) e3
    · rename_i hz
      have hz' : ¬ b < 0 := fun hb => hz (beq_iff_eq.2 ((cmp_eqm b).2 hb))
      obtain ⟨m1, m2⟩ := red_pos a (show 0 < b by omega)
      exact open_ _ _ _ _ _ hh m1 (by rw [e2]; exact m2) e3

end Go.Proofs.YtifeacfljfmnpaaGreat
end

section
set_option maxRecDepth 100000
namespace Go.Proofs.YtifeacfljfmnpaaGreat
open Go.RowKit
def IsPair (w : World) (v : Value) (n d : Int) : Prop := ∃ a b c e, v = .agg #[a, b, c, e] ∧ IsInt w (.agg #[a, b]) n ∧ IsInt w (.agg #[c, e]) d
theorem argP_holds {E : Env} {β : Nat → Nat} {w : World} {v : Value} {n d : Int} {i : Nat} (h : IsPair w v n d) (l1 : Lim 100000 n) (l2 : Lim 100000 d) (e1 : E.i (2 * i) = n) (e2 : E.i (2 * i + 1) = d) : (argQ i).holds E β w v := by
  obtain ⟨a, b, c, f, rfl, h1, h2⟩ := h
  refine one_rat.2 ⟨a, b, c, f, rfl, ?_, ?_, ?_, ?_⟩
  · show IsInt w _ (E.i (2 * i)); rw [e1]; exact h1
  · show Lim 100000 (E.i (2 * i)); rw [e1]; exact l1
  · show IsInt w _ (E.i (2 * i + 1)); rw [e2]; exact h2
  · show Lim 100000 (E.i (2 * i + 1)); rw [e2]; exact l2
theorem walkP2 {tab : List (Nat × Con)} {f : Nat} {fn : Func} {T : Tree} {w : World} {n1 d1 n2 d2 : Int} {v1 v2 : Value} (ht : TabOK Tryz.prog (zE [n1, d1, n2, d2]) tab) (hf : Tryz.prog.funcs[f]? = some fn) (hT : funE (cfgOf tab) fn [] [argQ 0, argQ 1] = some T) (h4 : fn.results.toList.length ≤ 4) (hn : 2 ≤ fn.ntmps)
    (h1 : IsPair w v1 n1 d1) (h2 : IsPair w v2 n2 d2) (l1 : Lim 100000 n1) (l1' : Lim 100000 d1) (l2 : Lim 100000 n2) (l2' : Lim 100000 d2) :
    Calls Tryz.prog f #[v1, v2] w fun e w' => ∃ β v, e = .returned v ∧ (toAV (T.pick (zE [n1, d1, n2, d2]))).holds (zE [n1, d1, n2, d2]) β w' v ∧ Ext w w' := by
  refine z5q mixed (cfg_ok ht) z8q hf h4 hT hn rfl w [v1, v2] rfl ?_
  intro i x hx
  match i, hx with
  | 0, hx => injection hx with hx; subst hx; exact ⟨fun _ => 0, v1, rfl, argP_holds h1 l1 l1' rfl rfl⟩
  | 1, hx => injection hx with hx; subst hx; exact ⟨fun _ => 0, v2, rfl, argP_holds h2 l2 l2' rfl rfl⟩
theorem one_pair {E : Env} {w : World} {s t : IT} {l m : Nat} {v : Value} : one E w (true, [.int s l, .int t m]) v ↔ IsPair w v (s.den E) (t.den E) ∧ Lim l (s.den E) ∧ Lim m (t.den E) := by
  rw [one_rat]
  constructor
  · rintro ⟨a, b, c, d, rfl, h1, h2, h3, h4⟩
    exact ⟨⟨a, b, c, d, rfl, h1, h3⟩, h2, h4⟩
  · rintro ⟨⟨a, b, c, d, rfl, h1, h3⟩, h2, h4⟩
    exact ⟨a, b, c, d, rfl, h1, h2, h3, h4⟩

theorem mulRaw_calls (w : World) (v1 v2 : Value) (n1 d1 n2 d2 : Int) (h1 : IsPair w v1 n1 d1) (h2 : IsPair w v2 n2 d2) (l1 : Lim 100000 n1) (l1' : Lim 100000 d1) (l2 : Lim 100000 n2) (l2' : Lim 100000 d2) :
    Calls Tryz.prog 131 #[v1, v2] w (Ret (fun v w' => IsPair w' v (dq n1 ((Nat.gcd n1.natAbs d2.natAbs : Nat) : Int) * dq n2 ((Nat.gcd n2.natAbs d1.natAbs : Nat) : Int)) (dq d1 ((Nat.gcd n2.natAbs d1.natAbs : Nat) : Int) * dq d2 ((Nat.gcd n1.natAbs d2.natAbs : Nat) : Int))) w) := by
  refine (walkP2 (T := .leaf [(true, [.int (.a2 2 (.a2 4 (.var 0) (.a2 6 (.var 0) (.var 3))) (.a2 4 (.var 2) (.a2 6 (.var 2) (.var 1)))) 200000, .int (.a2 2 (.a2 4 (.var 1) (.a2 6 (.var 2) (.var 1))) (.a2 4 (.var 3) (.a2 6 (.var 0) (.var 3)))) 200000])])
    tabDiv_ok Tryz.func131 (by kernel_rfl) (by decide +kernel) (by decide +kernel) h1 h2 l1 l1' l2 l2').mono ?_
  rintro e w' ⟨β, v, rfl, hh, ex⟩
  exact ⟨_, rfl, (one_pair.1 hh).1, ex⟩
def kMulRaw : Con
  | [.val true [.int x l, .int y m], .val true [.int z k, .int t j]], _ => if ql l && (ql m && (ql k && ql j)) || decide (l ≤ 100000) && (decide (m ≤ 100000) && (decide (k ≤ 100000) && decide (j ≤ 100000))) then
      some (.val true [.int (.a2 2 (.a2 4 x (.a2 6 x t)) (.a2 4 z (.a2 6 z y))) (l + k), .int (.a2 2 (.a2 4 y (.a2 6 z y)) (.a2 4 t (.a2 6 x t))) (m + j)]) else none
  | _, _ => none
theorem kMulRaw_ok {E : Env} : ConOK Tryz.prog E 131 kMulRaw := by
  refine ⟨?_, ?_, ⟨_, Tryz.func131, by decide +kernel, by kernel_rfl⟩⟩
  · intro args As r h hG β w vs hv hlen
    unfold kMulRaw at h
    split at h
    · rename_i x l y m z k t j
      split at h
      · rename_i hlo
        injection h with h
        subst h
        simp only [ql, Bool.and_eq_true, Bool.or_eq_true, decide_eq_true_iff] at hlo
        obtain ⟨v, u, rfl, h1, h2⟩ := args2 hv hlen
        obtain ⟨p1, a1, a2⟩ := one_pair.1 h1
        obtain ⟨p2, a3, a4⟩ := one_pair.1 h2
        refine (mulRaw_calls w v u _ _ _ _ p1 p2 (a1.mono (by omega)) (a2.mono (by omega)) (a3.mono (by omega)) (a4.mono (by omega))).mono ?_
        rintro e w' ⟨v', rfl, hp, ex⟩
        exact ⟨v', rfl, one_pair.2 ⟨hp, (a1.natAbs_le (dq_abs _ _)).mul (a3.natAbs_le (dq_abs _ _)), (a2.natAbs_le (dq_abs _ _)).mul (a4.natAbs_le (dq_abs _ _))⟩, ex⟩
      · cases h
    · cases h
  · intro args As r h x off
    unfold kMulRaw at h
    split at h
    · split at h
      · injection h with h; subst h; intro e; cases e
      · cases h
    · cases h
theorem sign_rat_calls (w : World) (v1 : Value) (n d : Int) (h1 : IsPair w v1 n d) (l1 : Lim 100000 n) (l1' : Lim 100000 d) : Calls Tryz.prog 126 #[v1] w fun e w' => e = .returned (.int .i64 (cmpZ n 0)) ∧ Ext w w' := by
  refine (z5q (E := zE [n, d]) (args := [argQ 0]) (T := .leaf [(false, [.n .i64 (.a2 3 (.var 0) (.lit 0))])]) mixed (cfg_ok tabDiv_ok) z8q Tryz.func126 (by decide +kernel) (by kernel_rfl) (by decide +kernel) rfl w [v1] rfl ?_).mono ?_
  · intro i x hx
    match i, hx with
    | 0, hx => injection hx with hx; subst hx; exact ⟨fun _ => 0, v1, rfl, argP_holds h1 l1 l1' rfl rfl⟩
  · rintro e w' ⟨β, v, rfl, hh, ex⟩
    have := z9q.1 hh
    subst this
    exact ⟨rfl, ex⟩
def kSg : Con
  | [.val true [.int x l, .int _ m]], _ => if decide (l ≤ 100000) && decide (m ≤ 100000) then some (.val false [.n .i64 (.a2 3 x (.lit 0))]) else none
  | _, _ => none
theorem kSg_ok {E : Env} : ConOK Tryz.prog E 126 kSg := by
  refine ⟨?_, ?_, ⟨_, Tryz.func126, by decide +kernel, by kernel_rfl⟩⟩
  · intro args As r h hG β w vs hv hlen
    unfold kSg at h
    split at h
    · split at h
      · rename_i hlo
        injection h with h
        subst h
        simp only [Bool.and_eq_true, decide_eq_true_iff] at hlo
        obtain ⟨v, rfl, h1⟩ := args1 hv hlen
        obtain ⟨p1, a1, a2⟩ := one_pair.1 h1
        refine (sign_rat_calls w v _ _ p1 (a1.mono hlo.1) (a2.mono hlo.2)).mono ?_
        rintro e w' ⟨rfl, ex⟩
        exact ⟨_, rfl, z9q.2 rfl, ex⟩
      · cases h
    · cases h
  · intro args As r h x off
    unfold kSg at h
    split at h
    · split at h
      · injection h with h; subst h; intro e; cases e
      · cases h
    · cases h
def tabMul : List (Nat × Con) := (131, kMulRaw)  :: (126, kSg) :: tabDiv
theorem tabMul_ok {E : Env} : TabOK Tryz.prog E tabMul := by
  refine .cons kMulRaw_ok ?_ 
  refine .cons kSg_ok ?_ 
  exact tabDiv_ok

def divD (a b : Rat) : Int := if b = 0 then 0 else ((a / b).den : Int)
def RetDiv (a b : Rat) (w : World) (e : Ending) (w' : World) : Prop :=
  ∃ v, e = .returned (.tuple #[v, .int .i64 (de b.num)]) ∧ IsPair w' v (a / b).num (divD a b) ∧ Ext w w'
theorem open_quot {E : Env} {β : Nat → Nat} {w' : World} {v : Value} {s t u : IT} {l m : Nat} (hx : (AV.tup [(true, [.int s l, .int t m]), (false, [.n .i64 u])]).holds E β w' v) :
    ∃ p, v = .tuple #[p, .int .i64 (u.den E)] ∧ IsPair w' p (s.den E) (t.den E) := by
  obtain ⟨vs, rfl, u1, r1, rfl, k1, u2, r2, rfl, k2, hn⟩ := hx
  simp only [tupAll] at hn
  subst hn
  have k2' := z9q.1 k2
  subst k2'
  exact ⟨u1, rfl, (one_pair.1 k1).1⟩
end Go.Proofs.YtifeacfljfmnpaaGreat
end

section
set_option maxRecDepth 100000
namespace Go.Proofs.YtifeacfljfmnpaaGreat
open Go.RowKit
def nz (q : Bool) : IT → Bool
  | .var i => q && i % 2 == 1
  | .lit z => z != 0
  | .a2 f x y => f == 2 && (nz q x && nz q y) || f == 8
  | .a4 f _ _ _ _ => f % 2 == 1 && f != 9
  | _ => false
theorem nz_spec {E : Env} {q : Bool} (hE : q = true → QEnv E) : ∀ {t : IT}, nz q t = true → t.den E ≠ 0 := by
  intro t
  induction t with
  | var i =>
    intro h
    simp only [nz, Bool.and_eq_true, beq_iff_eq] at h
    obtain ⟨q', _, h2⟩ := hE h.1 (i - 1) (by omega)
    rw [show i - 1 + 1 = i by omega] at h2
    show E.i i ≠ 0
    rw [h2]
    have := q'.den_pos
    omega
  | lit z => intro h; simpa [nz, IT.den] using h
  | a2 f x y ihx ihy =>
    intro h
    simp only [nz, Bool.or_eq_true, Bool.and_eq_true, beq_iff_eq] at h
    rcases h with ⟨rfl, h1, h2⟩ | rfl
    · exact Int.mul_ne_zero (ihx h1) (ihy h2)
    · show ((Rat.divInt _ _).den : Int) ≠ 0
      have := (Rat.divInt (x.den E) (y.den E)).den_pos
      omega
  | a4 f x y z t _ _ _ _ =>
    intro h
    simp only [nz, Bool.and_eq_true, beq_iff_eq, bne_iff_ne] at h
    show fn4 f _ _ _ _ ≠ 0
    unfold fn4
    rw [if_neg (by omega), if_neg (fun e => h.2 e.1)]
    have := (ratF (f / 2) (Rat.divInt (x.den E) (y.den E)) (Rat.divInt (z.den E) (t.den E))).den_pos
    omega
  | _ => intro h; cases h
def kOf (q : Bool) : Con
  | [.val true [.int x l], .val true [.int y m]], G => if lo l && (lo m && (nz q y || (G.find (.eq (.a2 3 y (.lit 0)) (.lit 0)) == some false || G.find (.eq y (.lit 0)) == some false))) then some (.val true [.int (.a2 7 x y) l, .int (.a2 8 x y) m]) else none
  | _, _ => none
theorem kOf_ok {E : Env} {q : Bool} (hE : q = true → QEnv E) : ConOK Tryz.prog E 98 (kOf q) := by
  refine ⟨?_, ?_, ⟨_, Tryz.func98, by decide +kernel, by kernel_rfl⟩⟩
  · intro args As r h hG β w vs hv hlen
    unfold kOf at h
    split at h
    · rename_i x l y m
      split at h
      · rename_i hlo
        injection h with h
        subst h
        simp only [lo, Bool.and_eq_true, Bool.or_eq_true, decide_eq_true_iff, beq_iff_eq] at hlo
        obtain ⟨b1, b2, b3⟩ := hlo
        have hy : y.den E ≠ 0 := by
          rcases b3 with b3 | b3 | b3
          · exact nz_spec hE b3
          · have := Asm.find_spec hG b3
            intro e
            have h2 : (cmpZ (y.den E) 0 == 0) = false := this
            rw [e] at h2
            cases h2
          · have := Asm.find_spec hG b3
            intro e
            have h2 : (y.den E == 0) = false := this
            rw [e] at h2
            cases h2
        obtain ⟨v, u, rfl, h1, h2⟩ := args2 hv hlen
        obtain ⟨i1, l1⟩ := z10q.1 h1
        obtain ⟨i2, l2⟩ := z10q.1 h2
        refine (of_calls w v u _ _ hy i1 i2 (l1.mono b1) (l2.mono b2)).mono ?_
        rintro e w' ⟨v', rfl, hp, ex⟩
        obtain ⟨n1, n2⟩ := divInt_lim l1 l2 hy
        exact ⟨v', rfl, one_pair.2 ⟨hp, n1, n2⟩, ex⟩
      · cases h
    · cases h
  · intro args As r h x off
    unfold kOf at h
    split at h
    · split at h
      · injection h with h; subst h; intro e; cases e
      · cases h
    · cases h
def kMake : Con
  | [.val true [.int x l], .val true [.int y m]], _ => if lo l && lo m then some (.tup [(true, [.int (.a2 7 x y) l, .int (.a2 11 x y) m]), (false, [.n .i64 (.a1 1 y)])]) else none
  | _, _ => none
theorem lim_zero {l : Nat} : Lim l 0 := by unfold Lim; rw [Int.natAbs_zero, limbs_zero]; exact Nat.zero_le _
theorem kMake_ok {E : Env} {f : Nat} (hc : ∀ (w : World) (v u : Value) (a b : Int), IsInt w v a → IsInt w u b → Lim 400000 a → Lim 400000 b → Calls Tryz.prog f #[v, u] w (RetMake a b w))
    (hb : ∃ fn, Tryz.prog.funcs[f]? = some fn ∧ fn.name ≠ "runtime.NumGoroutine" ∧ fn.body.isNone = false) : ConOK Tryz.prog E f kMake := by
  refine ⟨?_, ?_, hb⟩
  · intro args As r h hG β w vs hv hlen
    unfold kMake at h
    split at h
    · rename_i x l y m
      split at h
      · rename_i hlo
        injection h with h
        subst h
        simp only [lo, Bool.and_eq_true, decide_eq_true_iff] at hlo
        obtain ⟨v, u, rfl, h1, h2⟩ := args2 hv hlen
        obtain ⟨i1, l1⟩ := z10q.1 h1
        obtain ⟨i2, l2⟩ := z10q.1 h2
        refine (hc w v u _ _ i1 i2 (l1.mono (by omega)) (l2.mono (by omega))).mono ?_
        rintro e w' ⟨a, b, c, d, rfl, k1, k2, ex⟩
        have hlim : Lim l (Rat.divInt (x.den E) (y.den E)).num ∧ Lim m (denZ (x.den E) (y.den E)) := by
          unfold denZ
          by_cases hy : y.den E = 0
          · rw [if_pos hy, hy, divInt_zero']
            exact ⟨lim_zero, lim_zero⟩
          · rw [if_neg hy]
            exact divInt_lim l1 l2 hy
        exact ⟨_, rfl, ⟨[.agg #[a, b, c, d], .int .i64 (de (y.den E))], rfl, _, _, rfl, one_pair.2 ⟨⟨a, b, c, d, rfl, k1, k2⟩, hlim.1, hlim.2⟩, _, _, rfl, z9q.2 rfl, rfl⟩, ex⟩
      · cases h
    · cases h
  · intro args As r h x off
    unfold kMake at h
    split at h
    · split at h
      · injection h with h; subst h; intro e; cases e
      · cases h
    · cases h
def tabR3 (q : Bool) : List (Nat × Con) := (98, kOf q) :: (89, k0 (.lit 1) 3) :: tabR2
theorem tabR3_ok {E : Env} {q : Bool} (hE : q = true → QEnv E) : TabOK Tryz.prog E (tabR3 q) :=
  .cons (kOf_ok hE) (.cons (k0_ok 1 rfl (fun w => unit_calls w) (lim3 (by decide) (by decide)) ⟨_, Tryz.func89, by decide +kernel, by kernel_rfl⟩) tabR2_ok)
theorem qE_ok (l : List Rat) : QEnv (qE l) := by
  intro i hi
  refine ⟨l.getD (i / 2) 0, ?_, ?_⟩
  · show (if i % 2 = 0 then _ else _) = _
    rw [if_pos hi]
  · show (if (i + 1) % 2 = 0 then _ else _) = _
    rw [if_neg (by omega), show (i + 1) / 2 = i / 2 by omega]
theorem rmake_calls (w : World) (v1 v2 : Value) (a b : Int) (h : IsInt w v1 a) (k : IsInt w v2 b) (l1 : Lim 400000 a) (l2 : Lim 400000 b) :
    Calls Tryz.prog 105 #[v1, v2] w (RetMake a b w) := by
  refine (walkZ2 (T := .ite (.eq (.a2 3 (.var 1) (.lit 0)) (.lit 0)) (.leaf [(true, [.int (.lit 0) 0, .int (.lit 0) 0]), (false, [.n .i64 (.lit 6)])])
    (.leaf [(true, [.int (.a2 7 (.var 0) (.var 1)) 400000, .int (.a2 8 (.var 0) (.var 1)) 400000]), (false, [.n .i64 (.lit 0)])]))
    (tabR3_ok (q := false) (fun h => by cases h)) Tryz.func105 (by kernel_rfl) (by decide +kernel) (by decide +kernel) h k l1 l2).mono ?_
  rintro e w' ⟨β, v, rfl, hh, ex⟩
  simp only [Tree.pick] at hh
  split at hh
  · rename_i hz
    have hz' : b = 0 := (cmp_eq0 b).1 (eq_of_beq hz)
    subst hz'
    obtain ⟨p, rfl, x, y, z, t, rfl, k1, k2⟩ := open_quot hh
    exact ⟨x, y, z, t, rfl, by rw [divInt_zero']; exact k1, k2, ex⟩
  · rename_i hz
    have hb : b ≠ 0 := fun hb => hz (beq_iff_eq.2 ((cmp_eq0 b).2 hb))
    obtain ⟨p, rfl, x, y, z, t, rfl, k1, k2⟩ := open_quot hh
    refine ⟨x, y, z, t, ?_, k1, ?_, ex⟩
    · unfold de; rw [if_neg hb]; rfl
    · unfold denZ; rw [if_neg hb]; exact k2
theorem den_ne (q : Rat) : (q.den : Int) ≠ 0 := by have := q.den_pos; omega
theorem radd_rat_calls (w : World) (v1 v2 : Value) (a b : Rat) (h1 : IsRat w v1 a) (h2 : IsRat w v2 b) (l1 : LimQ 100000 a) (l2 : LimQ 100000 b) :
    Calls Tryz.prog 27 #[v1, v2] w (Ret (fun v w' => IsRat w' v (a + b)) w) := by
  refine (walkQ2 (T := .leaf [(true, [.int (.a2 7 (.a2 0 (.a2 2 (.var 0) (.var 3)) (.a2 2 (.var 2) (.var 1))) (.a2 2 (.var 1) (.var 3))) 200001, .int (.a2 8 (.a2 0 (.a2 2 (.var 0) (.var 3)) (.a2 2 (.var 2) (.var 1))) (.a2 2 (.var 1) (.var 3))) 200000])])
    (tabR3_ok (q := true) (fun _ => qE_ok _)) Tryz.func27 (by kernel_rfl) (by decide +kernel) (by decide +kernel) h1 h2 l1 l2).mono ?_
  rintro e w' ⟨β, v, rfl, hh, ex⟩
  have e1 : a + b = Rat.divInt (a.num * (b.den : Int) + b.num * (a.den : Int)) ((a.den : Int) * (b.den : Int)) := by
    rw [← Rat.divInt_add_divInt _ _ (den_ne a) (den_ne b), divInt_parts, divInt_parts]
  exact ⟨v, rfl, by rw [e1]; exact (one_pair.1 hh).1, ex⟩
theorem rmul_rat_calls (w : World) (v1 v2 : Value) (a b : Rat) (h1 : IsRat w v1 a) (h2 : IsRat w v2 b) (l1 : LimQ 100000 a) (l2 : LimQ 100000 b) :
    Calls Tryz.prog 26 #[v1, v2] w (Ret (fun v w' => IsRat w' v (a * b)) w) := by
  refine (walkQ2 (T := .leaf [(true, [.int (.a2 7 (.a2 2 (.var 0) (.var 2)) (.a2 2 (.var 1) (.var 3))) 200000, .int (.a2 8 (.a2 2 (.var 0) (.var 2)) (.a2 2 (.var 1) (.var 3))) 200000])])
    (tabR3_ok (q := true) (fun _ => qE_ok _)) Tryz.func26 (by kernel_rfl) (by decide +kernel) (by decide +kernel) h1 h2 l1 l2).mono ?_
  rintro e w' ⟨β, v, rfl, hh, ex⟩
  have e1 : a * b = Rat.divInt (a.num * b.num) ((a.den : Int) * (b.den : Int)) := by
    rw [← Rat.divInt_mul_divInt, divInt_parts, divInt_parts]
  exact ⟨v, rfl, by rw [e1]; exact (one_pair.1 hh).1, ex⟩
theorem rneg_rat_calls (w : World) (v1 : Value) (a : Rat) (h1 : IsRat w v1 a) (l1 : LimQ 100000 a) :
    Calls Tryz.prog 97 #[v1] w (Ret (fun v w' => IsRat w' v (-a)) w) := by
  refine (walkQ1 (T := .leaf [(true, [.int (.a1 0 (.var 0)) 100000, .int (.var 1) 100000])])
    (tabR3_ok (q := true) (fun _ => qE_ok _)) Tryz.func97 (by kernel_rfl) (by decide +kernel) (by decide +kernel) h1 l1).mono ?_
  rintro e w' ⟨β, v, rfl, hh, ex⟩
  exact ⟨v, rfl, (one_pair.1 hh).1, ex⟩
def tabR4 (q : Bool) : List (Nat × Con) := (105, kMake) :: tabR3 q
theorem tabR4_ok {E : Env} {q : Bool} (hE : q = true → QEnv E) : TabOK Tryz.prog E (tabR4 q) :=
  .cons (kMake_ok (fun w v u a b h k l1 l2 => rmake_calls w v u a b h k l1 l2) ⟨_, Tryz.func105, by decide +kernel, by kernel_rfl⟩) (tabR3_ok hE)
theorem rdiv_rat_calls (w : World) (v1 v2 : Value) (a b : Rat) (h1 : IsRat w v1 a) (h2 : IsRat w v2 b) (l1 : LimQ 100000 a) (l2 : LimQ 100000 b) :
    Calls Tryz.prog 29 #[v1, v2] w (RetDiv a b w) := by
  refine (walkQ2 (T := .leaf [(true, [.int (.a2 7 (.a2 2 (.var 0) (.var 3)) (.a2 2 (.var 1) (.var 2))) 200000, .int (.a2 11 (.a2 2 (.var 0) (.var 3)) (.a2 2 (.var 1) (.var 2))) 200000]), (false, [.n .i64 (.a1 1 (.a2 2 (.var 1) (.var 2)))])])
    (tabR4_ok (q := true) (fun _ => qE_ok _)) Tryz.func29 (by kernel_rfl) (by decide +kernel) (by decide +kernel) h1 h2 l1 l2).mono ?_
  rintro e w' ⟨β, v, rfl, hh, ex⟩
  obtain ⟨p, rfl, hp⟩ := open_quot hh
  have e1 : a / b = Rat.divInt (a.num * (b.den : Int)) ((a.den : Int) * b.num) := by
    rw [← Rat.divInt_mul_divInt, divInt_parts, ← Rat.inv_divInt, divInt_parts, Rat.div_def]
  have e0 : ((a.den : Int) * b.num = 0) ↔ b = 0 := by
    rw [Int.mul_eq_zero, ← Rat.num_eq_zero]
    exact ⟨fun h => h.resolve_left (den_ne a), .inr⟩
  have e2 : divD a b = denZ (a.num * (b.den : Int)) ((a.den : Int) * b.num) := by
    unfold divD denZ
    rw [e1]
    by_cases hb : b = 0
    · rw [if_pos hb, if_pos (e0.2 hb)]
    · rw [if_neg hb, if_neg (fun h => hb (e0.1 h))]
  have e3 : de b.num = de ((a.den : Int) * b.num) := by
    unfold de
    by_cases hb : b = 0
    · rw [if_pos (Rat.num_eq_zero.2 hb), if_pos (e0.2 hb)]
    · rw [if_neg (fun h => hb (Rat.num_eq_zero.1 h)), if_neg (fun h => hb (e0.1 h))]
  exact ⟨p, by rw [e3]; rfl, by rw [e2, e1]; exact hp, ex⟩

end Go.Proofs.YtifeacfljfmnpaaGreat
end

section
set_option maxRecDepth 100000
namespace Go.Proofs.YtifeacfljfmnpaaGreat
open Go.RowKit
theorem fn4_num {f : Nat} (hf : f % 2 = 0) (a b : Rat) : fn4 f a.num (a.den : Int) b.num (b.den : Int) = (ratF (f / 2) a b).num := by
  unfold fn4
  rw [if_pos hf, divInt_parts, divInt_parts]
theorem fn4_den {f : Nat} (hf : f % 2 = 1) (h9 : f ≠ 9) (a b : Rat) : fn4 f a.num (a.den : Int) b.num (b.den : Int) = ((ratF (f / 2) a b).den : Int) := by
  unfold fn4
  rw [if_neg (by omega), if_neg (fun e => h9 e.1), divInt_parts, divInt_parts]
theorem args3 {E : Env} {β : Nat → Nat} {w : World} {x y z : AV} {vs : List Value} (hv : ∀ (i : Nat) (a : AV), [x, y, z][i]? = some a → ∃ v, vs[i]? = some v ∧ a.holds E β w v) (hl : vs.length = [x, y, z].length) :
    ∃ v u t, vs = [v, u, t] ∧ x.holds E β w v ∧ y.holds E β w u ∧ z.holds E β w t := by
  match vs, hl with
  | [v, u, t], _ =>
    obtain ⟨v', e1, h1⟩ := hv 0 x rfl
    obtain ⟨u', e2, h2⟩ := hv 1 y rfl
    obtain ⟨t', e3, h3⟩ := hv 2 z rfl
    injection e1 with e1
    injection e2 with e2
    injection e3 with e3
    subst e1 e2 e3
    exact ⟨_, _, _, rfl, h1, h2, h3⟩
def kSum (f g : Nat) : Con
  | [.val true [.int x l, .int y m], .val true [.int z k, .int t j], .val false [.fn h]], _ => if h == g && (canon x y && (canon z t && (decide (l ≤ 100000) && (decide (m ≤ 100000) && (decide (k ≤ 100000) && decide (j ≤ 100000)))))) then
      some (.val true [.int (.a4 (2 * f) x y z t) (l + m + k + j + 1), .int (.a4 (2 * f + 1) x y z t) (l + m + k + j + 1)]) else none
  | _, _ => none
theorem kSum_ok {E : Env} (hE : QEnv E) {f g : Nat} (hf : f < 4)
    (hc : ∀ (w : World) (v1 v2 : Value) (a b : Rat), IsRat w v1 a → IsRat w v2 b → LimQ 100000 a → LimQ 100000 b → Calls Tryz.prog 180 #[v1, v2, .func (.func g) #[] #[]] w (Ret (fun v w' => IsRat w' v (ratF f a b)) w))
    (hl : ∀ {l m k j : Nat} {a b : Rat}, Lim l a.num → Lim m (a.den : Int) → Lim k b.num → Lim j (b.den : Int) → Lim (l + m + k + j + 1) (ratF f a b).num ∧ Lim (l + m + k + j + 1) ((ratF f a b).den : Int)) :
    ConOK Tryz.prog E 180 (kSum f g) := by
  refine ⟨?_, ?_, ⟨_, Tryz.func180, by decide +kernel, by kernel_rfl⟩⟩
  · intro args As r h hG β w vs hv hlen
    unfold kSum at h
    split at h
    · rename_i x l y m z k t j g'
      split at h
      · rename_i hlo
        injection h with h
        subst h
        simp only [Bool.and_eq_true, decide_eq_true_iff, beq_iff_eq] at hlo
        obtain ⟨rfl, c1, c2, b1, b2, b3, b4⟩ := hlo
        obtain ⟨v, u, s, rfl, h1, h2, h3⟩ := args3 hv hlen
        obtain ⟨p, ep, ex1, ex2, hp, lp1, lp2⟩ := one_ratQ hE c1 h1
        obtain ⟨q, eq, ey1, ey2, hq, lq1, lq2⟩ := one_ratQ hE c2 h2
        obtain ⟨⟨l1, r1, h31, h32, h33⟩, _⟩ := h3
        simp only [Chunk.holds] at h32
        simp only [chunks] at h33
        subst h32 h33
        injection h31 with h31
        subst h31
        obtain ⟨n1, n2⟩ := hl lp1 lp2 lq1 lq2
        refine (hc w v u p q hp hq ⟨lp1.mono b1, lp2.mono b2⟩ ⟨lq1.mono b3, lq2.mono b4⟩).mono ?_
        rintro e w' ⟨v', rfl, hr, ex⟩
        have d1 : (IT.a4 (2 * f) x y z t).den E = (ratF f p q).num := by
          show fn4 (2 * f) (x.den E) (y.den E) (z.den E) (t.den E) = _
          rw [ex1, ex2, ey1, ey2, fn4_num (by omega), show 2 * f / 2 = f by omega]
        have d2 : (IT.a4 (2 * f + 1) x y z t).den E = ((ratF f p q).den : Int) := by
          show fn4 (2 * f + 1) (x.den E) (y.den E) (z.den E) (t.den E) = _
          rw [ex1, ex2, ey1, ey2, fn4_den (by omega) (by omega), show (2 * f + 1) / 2 = f by omega]
        exact ⟨_, rfl, one_pair.2 ⟨by rw [d1, d2]; exact hr, by rw [d1]; exact n1, by rw [d2]; exact n2⟩, ex⟩
      · cases h
    · cases h
  · intro args As r h x off
    unfold kSum at h
    split at h
    · split at h
      · injection h with h; subst h; intro e; cases e
      · cases h
    · cases h
theorem add_rat_calls (w : World) (v1 v2 : Value) (a b : Rat) (h1 : IsRat w v1 a) (h2 : IsRat w v2 b) (l1 : LimQ 100000 a) (l2 : LimQ 100000 b) :
    Calls Tryz.prog 128 #[v1, v2] w (Ret (fun v w' => IsRat w' v (a + b)) w) := by
  refine (walkQ2 (tab := [(180, kSum 0 181)]) (T := .leaf [(true, [.int (.a4 0 (.var 0) (.var 1) (.var 2) (.var 3)) 400001, .int (.a4 1 (.var 0) (.var 1) (.var 2) (.var 3)) 400001])])
    (.cons (kSum_ok (qE_ok _) (by omega) (fun w v1 v2 a b h1 h2 l1 l2 => sum_add_calls w v1 v2 a b h1 h2 l1 l2) (fun h1 h2 h3 h4 => LimQ.add h1 h2 h3 h4)) .nil) Tryz.func128 (by kernel_rfl) (by decide +kernel) (by decide +kernel) h1 h2 l1 l2).mono ?_
  rintro e w' ⟨β, v, rfl, hh, ex⟩
  have hp := (one_pair.1 hh).1
  have d1 : (IT.a4 0 (.var 0) (.var 1) (.var 2) (.var 3)).den (qE [a, b]) = (a + b).num := fn4_num rfl a b
  have d2 : (IT.a4 1 (.var 0) (.var 1) (.var 2) (.var 3)).den (qE [a, b]) = ((a + b).den : Int) := fn4_den rfl (by omega) a b
  rw [d1, d2] at hp
  exact ⟨v, rfl, hp, ex⟩
theorem sub_rat_calls (w : World) (v1 v2 : Value) (a b : Rat) (h1 : IsRat w v1 a) (h2 : IsRat w v2 b) (l1 : LimQ 100000 a) (l2 : LimQ 100000 b) :
    Calls Tryz.prog 129 #[v1, v2] w (Ret (fun v w' => IsRat w' v (a - b)) w) := by
  refine (walkQ2 (tab := [(180, kSum 1 182)]) (T := .leaf [(true, [.int (.a4 2 (.var 0) (.var 1) (.var 2) (.var 3)) 400001, .int (.a4 3 (.var 0) (.var 1) (.var 2) (.var 3)) 400001])])
    (.cons (kSum_ok (qE_ok _) (by omega) (fun w v1 v2 a b h1 h2 l1 l2 => sum_sub_calls w v1 v2 a b h1 h2 l1 l2) (fun h1 h2 h3 h4 => LimQ.sub h1 h2 h3 h4)) .nil) Tryz.func129 (by kernel_rfl) (by decide +kernel) (by decide +kernel) h1 h2 l1 l2).mono ?_
  rintro e w' ⟨β, v, rfl, hh, ex⟩
  have hp := (one_pair.1 hh).1
  have d1 : (IT.a4 2 (.var 0) (.var 1) (.var 2) (.var 3)).den (qE [a, b]) = (a - b).num := fn4_num rfl a b
  have d2 : (IT.a4 3 (.var 0) (.var 1) (.var 2) (.var 3)).den (qE [a, b]) = ((a - b).den : Int) := fn4_den rfl (by omega) a b
  rw [d1, d2] at hp
  exact ⟨v, rfl, hp, ex⟩
def kNegQ : Con
  | [.val true [.int x l, .int y m]], _ => if canon x y && (decide (l ≤ 100000) && decide (m ≤ 100000)) then some (.val true [.int (.a1 0 x) l, .int y m]) else none
  | _, _ => none
theorem kNegQ_ok {E : Env} (hE : QEnv E) {f : Nat} (hc : ∀ (w : World) (v1 : Value) (a : Rat), IsRat w v1 a → LimQ 100000 a → Calls Tryz.prog f #[v1] w (Ret (fun v w' => IsRat w' v (-a)) w))
    (hb : ∃ fn, Tryz.prog.funcs[f]? = some fn ∧ fn.name ≠ "runtime.NumGoroutine" ∧ fn.body.isNone = false) : ConOK Tryz.prog E f kNegQ := by
  refine ⟨?_, ?_, hb⟩
  · intro args As r h hG β w vs hv hlen
    unfold kNegQ at h
    split at h
    · rename_i x l y m
      split at h
      · rename_i hlo
        injection h with h
        subst h
        simp only [Bool.and_eq_true, decide_eq_true_iff] at hlo
        obtain ⟨c1, b1, b2⟩ := hlo
        obtain ⟨v, rfl, h1⟩ := args1 hv hlen
        obtain ⟨p, ep, ex1, ex2, hp, lp1, lp2⟩ := one_ratQ hE c1 h1
        refine (hc w v p hp ⟨lp1.mono b1, lp2.mono b2⟩).mono ?_
        rintro e w' ⟨v', rfl, hr, ex⟩
        have d1 : (IT.a1 0 x).den E = (-p).num := by rw [Rat.neg_num, ← ex1]; rfl
        exact ⟨_, rfl, one_pair.2 ⟨by rw [d1, ex2]; exact hr, by rw [d1]; exact lp1.neg, by rw [ex2]; exact lp2⟩, ex⟩
      · cases h
    · cases h
  · intro args As r h x off
    unfold kNegQ at h
    split at h
    · split at h
      · injection h with h; subst h; intro e; cases e
      · cases h
    · cases h
def tabR5 : List (Nat × Con) := [(97, kNegQ), (27, kQQ 0)]
theorem tabR5_ok {E : Env} (hE : QEnv E) : TabOK Tryz.prog E tabR5 :=
  .cons (kNegQ_ok hE (fun w v a h l => rneg_rat_calls w v a h l) ⟨_, Tryz.func97, by decide +kernel, by kernel_rfl⟩)
    (.cons (kQQ_ok hE (by omega) (fun w v1 v2 a b h1 h2 l1 l2 => radd_rat_calls w v1 v2 a b h1 h2 l1 l2) (fun h1 h2 h3 h4 => LimQ.add h1 h2 h3 h4) ⟨_, Tryz.func27, by decide +kernel, by kernel_rfl⟩) .nil)

end Go.Proofs.YtifeacfljfmnpaaGreat
end

section
set_option maxRecDepth 100000
namespace Go.Proofs.YtifeacfljfmnpaaGreat
open Go.RowKit
theorem rsub_rat_calls (w : World) (v1 v2 : Value) (a b : Rat) (h1 : IsRat w v1 a) (h2 : IsRat w v2 b) (l1 : LimQ 100000 a) (l2 : LimQ 100000 b) :
    Calls Tryz.prog 23 #[v1, v2] w (Ret (fun v w' => IsRat w' v (a - b)) w) := by
  refine (walkQ2 (T := .leaf [(true, [.int (.a4 0 (.var 0) (.var 1) (.a1 0 (.var 2)) (.var 3)) 400001, .int (.a4 1 (.var 0) (.var 1) (.a1 0 (.var 2)) (.var 3)) 400001])])
    (tabR5_ok (qE_ok _)) Tryz.func23 (by kernel_rfl) (by decide +kernel) (by decide +kernel) h1 h2 l1 l2).mono ?_
  rintro e w' ⟨β, v, rfl, hh, ex⟩
  have hp := (one_pair.1 hh).1
  have d1 : (IT.a4 0 (.var 0) (.var 1) (.a1 0 (.var 2)) (.var 3)).den (qE [a, b]) = (a - b).num := by rw [Rat.sub_eq_add_neg]; exact fn4_num rfl a (-b)
  have d2 : (IT.a4 1 (.var 0) (.var 1) (.a1 0 (.var 2)) (.var 3)).den (qE [a, b]) = ((a - b).den : Int) := by rw [Rat.sub_eq_add_neg]; exact fn4_den rfl (by omega) a (-b)
  rw [d1, d2] at hp
  exact ⟨v, rfl, hp, ex⟩

def bnd (i : Nat) : Asm := [(.le (.lit (-9223372036854775808)) (.var i), true), (.le (.var i) (.lit 9223372036854775807), true)]
def argN (i : Nat) : AV := .val false [.n .i64 (.var i)]
def I64 (n : Int) : Prop := -9223372036854775808 ≤ n ∧ n ≤ 9223372036854775807
theorem bnd_holds {E : Env} {i : Nat} (h : I64 (E.i i)) : (bnd i).holds E := by
  intro p hp
  simp only [bnd, List.mem_cons, List.not_mem_nil, or_false] at hp
  rcases hp with rfl | rfl
  · exact decide_eq_true h.1
  · exact decide_eq_true h.2
theorem walkN1 {tab : List (Nat × Con)} {f : Nat} {fn : Func} {T : Tree} {w : World} {n : Int} (ht : TabOK Tryz.prog (zE [n]) tab) (hf : Tryz.prog.funcs[f]? = some fn) (hT : funE (cfgOf tab) fn (bnd 0) [argN 0] = some T) (h4 : fn.results.toList.length ≤ 4) (hn : 1 ≤ fn.ntmps) (h : I64 n) :
    Calls Tryz.prog f #[.int .i64 n] w fun e w' => ∃ β v, e = .returned v ∧ (toAV (T.pick (zE [n]))).holds (zE [n]) β w' v ∧ Ext w w' := by
  refine z5q mixed (cfg_ok ht) (bnd_holds (E := zE [n]) (i := 0) h) hf h4 hT hn rfl w [.int .i64 n] rfl ?_
  intro i x hx
  match i, hx with
  | 0, hx => injection hx with hx; subst hx; exact ⟨fun _ => 0, _, rfl, z9q.2 rfl⟩
theorem walkN2 {tab : List (Nat × Con)} {f : Nat} {fn : Func} {T : Tree} {w : World} {n d : Int} (ht : TabOK Tryz.prog (zE [n, d]) tab) (hf : Tryz.prog.funcs[f]? = some fn) (hT : funE (cfgOf tab) fn (bnd 0 ++ bnd 1) [argN 0, argN 1] = some T) (h4 : fn.results.toList.length ≤ 4) (hn : 2 ≤ fn.ntmps) (h : I64 n) (k : I64 d) :
    Calls Tryz.prog f #[.int .i64 n, .int .i64 d] w fun e w' => ∃ β v, e = .returned v ∧ (toAV (T.pick (zE [n, d]))).holds (zE [n, d]) β w' v ∧ Ext w w' := by
  have hG : (bnd 0 ++ bnd 1).holds (zE [n, d]) := by
    intro p hp
    rcases List.mem_append.1 hp with hp | hp
    · exact bnd_holds (E := zE [n, d]) (i := 0) h p hp
    · exact bnd_holds (E := zE [n, d]) (i := 1) k p hp
  refine z5q mixed (cfg_ok ht) hG hf h4 hT hn rfl w [.int .i64 n, .int .i64 d] rfl ?_
  intro i x hx
  match i, hx with
  | 0, hx => injection hx with hx; subst hx; exact ⟨fun _ => 0, _, rfl, z9q.2 rfl⟩
  | 1, hx => injection hx with hx; subst hx; exact ⟨fun _ => 0, _, rfl, z9q.2 rfl⟩
theorem from_rat_calls (w : World) (n : Int) (h : I64 n) : Calls Tryz.prog 122 #[.int .i64 n] w (Ret (fun v w' => IsPair w' v n 1) w) := by
  refine (walkN1 (T := .leaf [(true, [.int (.var 0) 3, .int (.lit 1) 3])]) tabDiv_ok Tryz.func122 (by kernel_rfl) (by decide +kernel) (by decide +kernel) h).mono ?_
  rintro e w' ⟨β, v, rfl, hh, ex⟩
  exact ⟨v, rfl, (one_pair.1 hh).1, ex⟩
theorem rfrom_rat_calls (w : World) (n : Int) (h : I64 n) : Calls Tryz.prog 91 #[.int .i64 n] w (Ret (fun v w' => IsPair w' v n 1) w) := by
  refine (walkN1 (T := .leaf [(true, [.int (.var 0) 3, .int (.lit 1) 3])]) (tabR3_ok (q := false) (fun h => by cases h)) Tryz.func91 (by kernel_rfl) (by decide +kernel) (by decide +kernel) h).mono ?_
  rintro e w' ⟨β, v, rfl, hh, ex⟩
  exact ⟨v, rfl, (one_pair.1 hh).1, ex⟩
def inR (G : Asm) : IT → Bool
  | .lit z => decide (-9223372036854775808 ≤ z) && decide (z ≤ 9223372036854775807)
  | t => G.find (.le (.lit (-9223372036854775808)) t) == some true && G.find (.le t (.lit 9223372036854775807)) == some true
theorem inR_spec {E : Env} {G : Asm} (hG : G.holds E) {t : IT} (h : inR G t = true) : I64 (t.den E) := by
  unfold inR at h
  split at h
  · simpa [I64, IT.den] using h
  · rw [Bool.and_eq_true, beq_iff_eq, beq_iff_eq] at h
    have b1 := Asm.find_spec hG h.1
    have b2 := Asm.find_spec hG h.2
    simp only [BT.den, IT.den] at b1 b2
    exact ⟨of_decide_eq_true b1, of_decide_eq_true b2⟩
def kFromQ : Con
  | [.val false [.n .i64 t]], G => if inR G t then some (.val true [.int t 3, .int (.lit 1) 3]) else none
  | _, _ => none
theorem kFromQ_ok {E : Env} {f : Nat} (hc : ∀ (w : World) (n : Int), I64 n → Calls Tryz.prog f #[.int .i64 n] w (Ret (fun v w' => IsPair w' v n 1) w))
    (hb : ∃ fn, Tryz.prog.funcs[f]? = some fn ∧ fn.name ≠ "runtime.NumGoroutine" ∧ fn.body.isNone = false) : ConOK Tryz.prog E f kFromQ := by
  refine ⟨?_, ?_, hb⟩
  · intro args As r h hG β w vs hv hlen
    unfold kFromQ at h
    split at h
    · rename_i t
      split at h
      · rename_i hr
        injection h with h
        subst h
        have hi := inR_spec hG hr
        obtain ⟨v, rfl, h1⟩ := args1 hv hlen
        have h1' := z9q.1 h1
        subst h1'
        refine (hc w _ hi).mono ?_
        rintro e w' ⟨v', rfl, hp, ex⟩
        exact ⟨v', rfl, one_pair.2 ⟨hp, lim3 hi.1 hi.2, lim3 (z := 1) (by decide) (by decide)⟩, ex⟩
      · cases h
    · cases h
  · intro args As r h x off
    unfold kFromQ at h
    split at h
    · split at h
      · injection h with h; subst h; intro e; cases e
      · cases h
    · cases h
theorem divInt_0 (n : Int) : Rat.divInt n 0 = 0 := by
  have := divInt_zero' n
  exact Rat.num_eq_zero.1 this
theorem rfrac_rat_calls (w : World) (n d : Int) (h : I64 n) (k : I64 d) : Calls Tryz.prog 69 #[.int .i64 n, .int .i64 d] w (Ret (fun v w' => IsRat w' v (Rat.divInt n d)) w) := by
  refine (walkN2 (T := .ite (.eq (.var 1) (.lit 0)) (.leaf [(true, [.int (.a2 7 (.lit 0) (.lit 1)) 3, .int (.a2 8 (.lit 0) (.lit 1)) 3])]) (.leaf [(true, [.int (.a2 7 (.var 0) (.var 1)) 3, .int (.a2 8 (.var 0) (.var 1)) 3])]))
    (tabR3_ok (q := false) (fun h => by cases h)) Tryz.func69 (by kernel_rfl) (by decide +kernel) (by decide +kernel) h k).mono ?_
  rintro e w' ⟨β, v, rfl, hh, ex⟩
  simp only [Tree.pick] at hh
  split at hh
  · rename_i hz
    have hd : d = 0 := eq_of_beq hz
    have hp := (one_pair.1 hh).1
    subst hd
    have e0 : Rat.divInt 0 1 = 0 := by rw [← Rat.num_eq_zero, Rat.num_divInt]; simp
    refine ⟨v, rfl, ?_, ex⟩
    rw [divInt_0, ← e0]
    exact hp
  · exact ⟨v, rfl, (one_pair.1 hh).1, ex⟩
theorem floor_rat_calls (w : World) (v1 : Value) (a : Rat) (h1 : IsRat w v1 a) (l1 : LimQ 100000 a) :
    Calls Tryz.prog 209 #[v1] w (Ret (fun v w' => IsInt w' v (dq a.num (a.den : Int))) w) := by
  refine (walkQ1 (T := .leaf [(true, [.int (.a2 4 (.var 0) (.var 1)) 100000])]) tabMul_ok Tryz.func209 (by kernel_rfl) (by decide +kernel) (by decide +kernel) h1 l1).mono ?_
  rintro e w' ⟨β, v, rfl, hh, ex⟩
  exact ⟨v, rfl, (z10q.1 hh).1, ex⟩

end Go.Proofs.YtifeacfljfmnpaaGreat
end

section
set_option maxRecDepth 100000
namespace Go.Proofs.YtifeacfljfmnpaaGreat
open Go.RowKit
theorem cmp_cross {n1 n2 d1 d2 : Int} (h1 : 0 < d1) (h2 : 0 < d2) (hs : cmpZ n1 0 ≠ cmpZ n2 0) : cmpZ n1 n2 = cmpZ (n1 * d2) (n2 * d1) := by
  have p1 : n1 < 0 → n1 * d2 < 0 := fun h => Int.mul_neg_of_neg_of_pos h h2
  have p2 : 0 < n1 → 0 < n1 * d2 := fun h => Int.mul_pos h h2
  have p3 : n1 = 0 → n1 * d2 = 0 := fun h => by rw [h, Int.zero_mul]
  have q1 : n2 < 0 → n2 * d1 < 0 := fun h => Int.mul_neg_of_neg_of_pos h h1
  have q2 : 0 < n2 → 0 < n2 * d1 := fun h => Int.mul_pos h h1
  have q3 : n2 = 0 → n2 * d1 = 0 := fun h => by rw [h, Int.zero_mul]
  generalize n1 * d2 = X at *
  generalize n2 * d1 = Y at *
  rcases z2q n1 0 with ⟨a1, e1⟩ | ⟨a1, e1⟩ | ⟨a1, e1⟩ <;> rcases z2q n2 0 with ⟨a2, e2⟩ | ⟨a2, e2⟩ | ⟨a2, e2⟩ <;> rcases z2q n1 n2 with ⟨a3, e3⟩ | ⟨a3, e3⟩ | ⟨a3, e3⟩ <;> rcases z2q X Y with ⟨a4, e4⟩ | ⟨a4, e4⟩ | ⟨a4, e4⟩ <;> omega
theorem cmp_rat_calls (w : World) (v1 v2 : Value) (a b : Rat) (h1 : IsRat w v1 a) (h2 : IsRat w v2 b) (l1 : LimQ 100000 a) (l2 : LimQ 100000 b) :
    Calls Tryz.prog 112 #[v1, v2] w fun e w' => e = .returned (.int .i64 (cmpZ (a.num * (b.den : Int)) (b.num * (a.den : Int)))) ∧ Ext w w' := by
  refine (walkQ2 (T := .ite (.eq (.a2 3 (.var 0) (.lit 0)) (.a2 3 (.var 2) (.lit 0)))
      (.ite (.eq (.var 1) (.lit 1)) (.ite (.eq (.var 3) (.lit 1)) (.leaf [(false, [.n .i64 (.a2 3 (.var 0) (.var 2))])]) (.leaf [(false, [.n .i64 (.a2 3 (.a2 2 (.var 0) (.var 3)) (.a2 2 (.var 2) (.var 1)))])]))
        (.leaf [(false, [.n .i64 (.a2 3 (.a2 2 (.var 0) (.var 3)) (.a2 2 (.var 2) (.var 1)))])]))
      (.leaf [(false, [.n .i64 (.a2 3 (.var 0) (.var 2))])]))
    tabMul_ok Tryz.func112 (by kernel_rfl) (by decide +kernel) (by decide +kernel) h1 h2 l1 l2).mono ?_
  rintro e w' ⟨β, v, rfl, hh, ex⟩
  simp only [Tree.pick] at hh
  split at hh
  · split at hh
    · rename_i hd1
      split at hh
      · rename_i hd2
        have e1 : (a.den : Int) = 1 := eq_of_beq hd1
        have e2 : (b.den : Int) = 1 := eq_of_beq hd2
        have := z9q.1 hh
        subst this
        rw [e1, e2, Int.mul_one, Int.mul_one]
        exact ⟨rfl, ex⟩
      · have := z9q.1 hh
        subst this
        exact ⟨rfl, ex⟩
    · have := z9q.1 hh
      subst this
      exact ⟨rfl, ex⟩
  · rename_i hs
    have := z9q.1 hh
    subst this
    have hc := cmp_cross (n1 := a.num) (n2 := b.num) (d1 := (a.den : Int)) (d2 := (b.den : Int)) (by have := a.den_pos; omega) (by have := b.den_pos; omega) (fun e => hs (beq_iff_eq.2 e))
    rw [← hc]
    exact ⟨rfl, ex⟩
def kCmpQ : Con
  | [.val true [.int x l, .int y m], .val true [.int z k, .int t j]], _ => if canon x y && (canon z t && (ql l && (ql m && (ql k && ql j)))) then some (.val false [.n .i64 (.a2 3 (.a2 2 x t) (.a2 2 z y))]) else none
  | _, _ => none
theorem kCmpQ_ok {E : Env} (hE : QEnv E) {f : Nat} (hc : ∀ (w : World) (v1 v2 : Value) (a b : Rat), IsRat w v1 a → IsRat w v2 b → LimQ 100000 a → LimQ 100000 b → Calls Tryz.prog f #[v1, v2] w fun e w' => e = .returned (.int .i64 (cmpZ (a.num * (b.den : Int)) (b.num * (a.den : Int)))) ∧ Ext w w')
    (hb : ∃ fn, Tryz.prog.funcs[f]? = some fn ∧ fn.name ≠ "runtime.NumGoroutine" ∧ fn.body.isNone = false) : ConOK Tryz.prog E f kCmpQ := by
  refine ⟨?_, ?_, hb⟩
  · intro args As r h hG β w vs hv hlen
    unfold kCmpQ at h
    split at h
    · rename_i x l y m z k t j
      split at h
      · rename_i hlo
        injection h with h
        subst h
        simp only [ql, Bool.and_eq_true, decide_eq_true_iff] at hlo
        obtain ⟨c1, c2, b1, b2, b3, b4⟩ := hlo
        obtain ⟨v, u, rfl, h1, h2⟩ := args2 hv hlen
        obtain ⟨p, ep, ex1, ex2, hp, lp1, lp2⟩ := one_ratQ hE c1 h1
        obtain ⟨q, eq, ey1, ey2, hq, lq1, lq2⟩ := one_ratQ hE c2 h2
        refine (hc w v u p q hp hq ⟨lp1.mono b1, lp2.mono b2⟩ ⟨lq1.mono b3, lq2.mono b4⟩).mono ?_
        rintro e w' ⟨rfl, ex⟩
        refine ⟨_, rfl, z9q.2 ?_, ex⟩
        show Value.int .i64 _ = .int .i64 (cmpZ (x.den E * t.den E) (z.den E * y.den E))
        rw [ex1, ex2, ey1, ey2]
      · cases h
    · cases h
  · intro args As r h x off
    unfold kCmpQ at h
    split at h
    · split at h
      · injection h with h; subst h; intro e; cases e
      · cases h
    · cases h

def kIIb (g : IT → IT → BT) : Con
  | [.val true [.int x _], .val true [.int y _]], _ => some (.val false [.b (g x y)])
  | _, _ => none
theorem kIIb_ok {P : Program} {E : Env} {f : Nat} {g : IT → IT → BT} (G : Int → Int → Bool) (hg : ∀ x y, (g x y).den E = G (x.den E) (y.den E))
    (hc : ∀ (w : World) (v1 v2 : Value) (z1 z2 : Int), IsInt w v1 z1 → IsInt w v2 z2 → Calls P f #[v1, v2] w (fun e w' => e = .returned (.bool (G z1 z2)) ∧ Ext w w'))
    (hb : ∃ fn, P.funcs[f]? = some fn ∧ fn.name ≠ "runtime.NumGoroutine" ∧ fn.body.isNone = false) : ConOK P E f (kIIb g) := by
  refine ⟨?_, ?_, hb⟩
  · intro args As r h hG β w vs hv hlen
    unfold kIIb at h
    split at h
    · injection h with h
      subst h
      obtain ⟨v, u, rfl, h1, h2⟩ := args2 hv hlen
      refine (hc w v u _ _ (z10q.1 h1).1 (z10q.1 h2).1).mono ?_
      rintro e w' ⟨rfl, ex⟩
      exact ⟨_, rfl, z11q.2 (by rw [hg]), ex⟩
    · cases h
  · intro args As r h x off
    unfold kIIb at h
    split at h
    · injection h with h; subst h; intro e; cases e
    · cases h
theorem same_rat_calls (w : World) (v1 v2 : Value) (n1 d1 n2 d2 : Int) (h1 : IsPair w v1 n1 d1) (h2 : IsPair w v2 n2 d2) (l1 : Lim 100000 n1) (l1' : Lim 100000 d1) (l2 : Lim 100000 n2) (l2' : Lim 100000 d2) :
    Calls Tryz.prog 20 #[v1, v2] w fun e w' => e = .returned (.bool (n1 == n2 && d1 == d2)) ∧ Ext w w' := by
  refine (walkP2 (tab := [(87, kIIb fun x y => .eq x y)]) (T := .ite (.eq (.var 0) (.var 2)) (.leaf [(false, [.b (.eq (.var 1) (.var 3))])]) (.leaf [(false, [.b (.lit false)])]))
    (.cons (kIIb_ok (fun x y => x == y) (fun _ _ => rfl) (fun w v1 v2 z1 z2 h1 h2 => (rsame_calls w v1 v2 z1 z2 h1 h2).mono (fun e w' h => ⟨by rw [h.1]; by_cases hz : z1 = z2 <;> simp [hz], h.2⟩)) ⟨_, Tryz.func87, by decide +kernel, by kernel_rfl⟩) .nil) Tryz.func20 (by kernel_rfl) (by decide +kernel) (by decide +kernel) h1 h2 l1 l1' l2 l2').mono ?_
  rintro e w' ⟨β, v, rfl, hh, ex⟩
  simp only [Tree.pick] at hh
  split at hh
  · rename_i hz
    have := z11q.1 hh
    subst this
    have hz' : (n1 == n2) = true := hz
    rw [hz', Bool.true_and]
    exact ⟨rfl, ex⟩
  · rename_i hz
    have := z11q.1 hh
    subst this
    have hz' : (n1 == n2) = false := by rw [← Bool.not_eq_true]; exact hz
    rw [hz', Bool.false_and]
    exact ⟨rfl, ex⟩
def kSame : Con
  | [.val true [.int x l, .int y m], .val true [.int z k, .int t j]], _ => if ql l && (ql m && (ql k && ql j)) then some (.val false [.b (if x.beq z && y.beq t then .lit true else .and (.eq x z) (.eq y t))]) else none
  | _, _ => none
theorem kSame_ok {E : Env} : ConOK Tryz.prog E 20 kSame := by
  refine ⟨?_, ?_, ⟨_, Tryz.func20, by decide +kernel, by kernel_rfl⟩⟩
  · intro args As r h hG β w vs hv hlen
    unfold kSame at h
    split at h
    · rename_i x l y m z k t j
      split at h
      · rename_i hlo
        injection h with h
        subst h
        simp only [ql, Bool.and_eq_true, decide_eq_true_iff] at hlo
        obtain ⟨b1, b2, b3, b4⟩ := hlo
        obtain ⟨v, u, rfl, h1, h2⟩ := args2 hv hlen
        obtain ⟨p1, a1, a2⟩ := one_pair.1 h1
        obtain ⟨p2, a3, a4⟩ := one_pair.1 h2
        refine (same_rat_calls w v u _ _ _ _ p1 p2 (a1.mono b1) (a2.mono b2) (a3.mono b3) (a4.mono b4)).mono ?_
        rintro e w' ⟨rfl, ex⟩
        refine ⟨_, rfl, z11q.2 ?_, ex⟩
        split
        · rename_i hb
          rw [Bool.and_eq_true] at hb
          rw [IT.eq_of_beq hb.1, IT.eq_of_beq hb.2]
          simp [BT.den]
        · rfl
      · cases h
    · cases h
  · intro args As r h x off
    unfold kSame at h
    split at h
    · split at h
      · injection h with h; subst h; intro e; cases e
      · cases h
    · cases h

def kDiv : Con
  | [.val true [.int x l, .int y m], .val true [.int z k, .int t j]], _ => if canon x y && (canon z t && (ql l && (ql m && (ql k && ql j)))) then
      some (.tup [(true, [.int (.a4 8 x y z t) (l + m + k + j + 1), .int (.a4 9 x y z t) (l + m + k + j + 1)]), (false, [.n .i64 (.a1 1 z)])]) else none
  | _, _ => none
theorem LimQ.div {l m k j : Nat} {a b : Rat} (h1 : Lim l a.num) (h2 : Lim m (a.den : Int)) (h3 : Lim k b.num) (h4 : Lim j (b.den : Int)) : Lim (l + m + k + j + 1) (a / b).num ∧ Lim (l + m + k + j + 1) (divD a b) := by
  unfold divD
  by_cases hb : b = 0
  · rw [if_pos hb, hb, Rat.div_def, Rat.inv_zero, Rat.mul_zero]
    exact ⟨lim_zero, lim_zero⟩
  · have hn : b.num ≠ 0 := fun e => hb (Rat.num_eq_zero.1 e)
    rw [if_neg hb, Rat.div_def]
    have e1 : Lim j b⁻¹.num := by
      refine h4.natAbs_le ?_
      rw [Rat.num_inv, Int.natAbs_mul, Int.natAbs_sign_of_ne_zero hn, Nat.one_mul]
      exact Nat.le_refl _
    have e2 : Lim k (b⁻¹.den : Int) := by
      refine h3.natAbs_le ?_
      rw [Rat.den_inv, if_neg hn]
      exact Nat.le_refl _
    obtain ⟨r1, r2⟩ := LimQ.mul h1 h2 e1 e2
    exact ⟨r1.mono (by omega), r2.mono (by omega)⟩
theorem kDiv_ok {E : Env} (hE : QEnv E) {f : Nat} (hc : ∀ (w : World) (v1 v2 : Value) (a b : Rat), IsRat w v1 a → IsRat w v2 b → LimQ 100000 a → LimQ 100000 b → Calls Tryz.prog f #[v1, v2] w (RetDiv a b w))
    (hb : ∃ fn, Tryz.prog.funcs[f]? = some fn ∧ fn.name ≠ "runtime.NumGoroutine" ∧ fn.body.isNone = false) : ConOK Tryz.prog E f kDiv := by
  refine ⟨?_, ?_, hb⟩
  · intro args As r h hG β w vs hv hlen
    unfold kDiv at h
    split at h
    · rename_i x l y m z k t j
      split at h
      · rename_i hlo
        injection h with h
        subst h
        simp only [ql, Bool.and_eq_true, decide_eq_true_iff] at hlo
        obtain ⟨c1, c2, b1, b2, b3, b4⟩ := hlo
        obtain ⟨v, u, rfl, h1, h2⟩ := args2 hv hlen
        obtain ⟨p, ep, ex1, ex2, hp, lp1, lp2⟩ := one_ratQ hE c1 h1
        obtain ⟨q, eq, ey1, ey2, hq, lq1, lq2⟩ := one_ratQ hE c2 h2
        obtain ⟨n1, n2⟩ := LimQ.div lp1 lp2 lq1 lq2
        refine (hc w v u p q hp hq ⟨lp1.mono b1, lp2.mono b2⟩ ⟨lq1.mono b3, lq2.mono b4⟩).mono ?_
        rintro e w' ⟨v', rfl, hr, ex⟩
        have d1 : (IT.a4 8 x y z t).den E = (p / q).num := by
          show fn4 8 (x.den E) (y.den E) (z.den E) (t.den E) = _
          rw [ex1, ex2, ey1, ey2]
          exact fn4_num rfl p q
        have d2 : (IT.a4 9 x y z t).den E = divD p q := by
          show fn4 9 (x.den E) (y.den E) (z.den E) (t.den E) = _
          rw [ex1, ex2, ey1, ey2]
          unfold fn4 divD
          rw [if_neg (by decide), divInt_parts, divInt_parts]
          by_cases hq : q = 0
          · rw [if_pos ⟨rfl, hq⟩, if_pos hq]
          · rw [if_neg (fun h => hq h.2), if_neg hq]; rfl
        refine ⟨_, rfl, ⟨[v', .int .i64 (de q.num)], rfl, _, _, rfl, one_pair.2 ⟨by rw [d1, d2]; exact hr, by rw [d1]; exact n1, by rw [d2]; exact n2⟩, _, _, rfl, z9q.2 ?_, rfl⟩, ex⟩
        show Value.int .i64 (de q.num) = .int .i64 (de (z.den E))
        rw [ey1]
      · cases h
    · cases h
  · intro args As r h x off
    unfold kDiv at h
    split at h
    · split at h
      · injection h with h; subst h; intro e; cases e
      · cases h
    · cases h

end Go.Proofs.YtifeacfljfmnpaaGreat
end

section
set_option maxRecDepth 100000
namespace Go.Proofs.YtifeacfljfmnpaaGreat
open Go.RowKit
def kZero : Con
  | [.val true [.int x l, .int y m]], _ => if decide (l ≤ 100000) && decide (m ≤ 100000) then some (.val false [.b (.and (.eq x (.lit 0)) (.eq y (.lit 0)))]) else none
  | _, _ => none
def kFrac : Con
  | [.val false [.n .i64 x], .val false [.n .i64 y]], G => if inR G x && inR G y then some (.val true [.int (.a2 7 x y) 3, .int (.a2 8 x y) 3]) else none
  | _, _ => none
theorem frac_lim {n d : Int} (h : I64 n) (k : I64 d) : Lim 3 (Rat.divInt n d).num ∧ Lim 3 ((Rat.divInt n d).den : Int) := by
  by_cases hd : d = 0
  · subst hd
    rw [divInt_0]
    exact ⟨lim_zero, lim3 (z := 1) (by decide) (by decide)⟩
  · exact divInt_lim (lim3 h.1 h.2) (lim3 k.1 k.2) hd
theorem kFrac_ok {E : Env} {f : Nat} (hc : ∀ (w : World) (n d : Int), I64 n → I64 d → Calls Tryz.prog f #[.int .i64 n, .int .i64 d] w (Ret (fun v w' => IsRat w' v (Rat.divInt n d)) w))
    (hb : ∃ fn, Tryz.prog.funcs[f]? = some fn ∧ fn.name ≠ "runtime.NumGoroutine" ∧ fn.body.isNone = false) : ConOK Tryz.prog E f kFrac := by
  refine ⟨?_, ?_, hb⟩
  · intro args As r h hG β w vs hv hlen
    unfold kFrac at h
    split at h
    · split at h
      · rename_i hr
        injection h with h
        subst h
        rw [Bool.and_eq_true] at hr
        have i1 := inR_spec hG hr.1
        have i2 := inR_spec hG hr.2
        obtain ⟨v, u, rfl, h1, h2⟩ := args2 hv hlen
        have h1' := z9q.1 h1
        have h2' := z9q.1 h2
        subst h1' h2'
        refine (hc w _ _ i1 i2).mono ?_
        rintro e w' ⟨v', rfl, hp, ex⟩
        obtain ⟨m1, m2⟩ := frac_lim i1 i2
        exact ⟨v', rfl, one_pair.2 ⟨hp, m1, m2⟩, ex⟩
      · cases h
    · cases h
  · intro args As r h x off
    unfold kFrac at h
    split at h
    · split at h
      · injection h with h; subst h; intro e; cases e
      · cases h
    · cases h
def tabQ : List (Nat × Con) :=
  
  (29, kDiv)  ::
  (128, kQQ 0)  ::
  (27, kQQ 0)  ::
  (129, kQQ 1)  ::
  (23, kQQ 1)  ::
  (131, kQQ 2)  ::
  (26, kQQ 2)  ::
  (80, kNegQ)  ::
  (97, kNegQ)  ::
  (20, kSame)  ::
  
  (153, kMake)  ::
  (105, kMake)  ::
  (122, kFromQ)  ::
  (91, kFromQ)  ::
  
  (69, kFrac)  ::
  []
theorem tabQ_ok {E : Env} (hE : QEnv E) : TabOK Tryz.prog E tabQ := by
  
  refine .cons (kDiv_ok hE (fun w v1 v2 a b h1 h2 l1 l2 => rdiv_rat_calls w v1 v2 a b h1 h2 l1 l2) ⟨_, Tryz.func29, by decide +kernel, by kernel_rfl⟩) ?_ 
  refine .cons (kQQ_ok hE (by omega) (fun w v1 v2 a b h1 h2 l1 l2 => add_rat_calls w v1 v2 a b h1 h2 l1 l2) (fun h1 h2 h3 h4 => LimQ.add h1 h2 h3 h4) ⟨_, Tryz.func128, by decide +kernel, by kernel_rfl⟩) ?_ 
  refine .cons (kQQ_ok hE (by omega) (fun w v1 v2 a b h1 h2 l1 l2 => radd_rat_calls w v1 v2 a b h1 h2 l1 l2) (fun h1 h2 h3 h4 => LimQ.add h1 h2 h3 h4) ⟨_, Tryz.func27, by decide +kernel, by kernel_rfl⟩) ?_ 
  refine .cons (kQQ_ok hE (by omega) (fun w v1 v2 a b h1 h2 l1 l2 => sub_rat_calls w v1 v2 a b h1 h2 l1 l2) (fun h1 h2 h3 h4 => LimQ.sub h1 h2 h3 h4) ⟨_, Tryz.func129, by decide +kernel, by kernel_rfl⟩) ?_ 
  refine .cons (kQQ_ok hE (by omega) (fun w v1 v2 a b h1 h2 l1 l2 => rsub_rat_calls w v1 v2 a b h1 h2 l1 l2) (fun h1 h2 h3 h4 => LimQ.sub h1 h2 h3 h4) ⟨_, Tryz.func23, by decide +kernel, by kernel_rfl⟩) ?_ 
  refine .cons (kQQ_ok hE (by omega) (fun w v1 v2 a b h1 h2 l1 l2 => mul_rat_calls w v1 v2 a b h1 h2 l1 l2) (fun h1 h2 h3 h4 => LimQ.mul h1 h2 h3 h4) ⟨_, Tryz.func131, by decide +kernel, by kernel_rfl⟩) ?_ 
  refine .cons (kQQ_ok hE (by omega) (fun w v1 v2 a b h1 h2 l1 l2 => rmul_rat_calls w v1 v2 a b h1 h2 l1 l2) (fun h1 h2 h3 h4 => LimQ.mul h1 h2 h3 h4) ⟨_, Tryz.func26, by decide +kernel, by kernel_rfl⟩) ?_ 
  refine .cons (kNegQ_ok hE (fun w v a h l => neg_rat_calls w v a h l) ⟨_, Tryz.func80, by decide +kernel, by kernel_rfl⟩) ?_ 
  refine .cons (kNegQ_ok hE (fun w v a h l => rneg_rat_calls w v a h l) ⟨_, Tryz.func97, by decide +kernel, by kernel_rfl⟩) ?_ 
  refine .cons kSame_ok ?_ 
  
  refine .cons (kMake_ok (fun w v u a b h k l1 l2 => make_calls w v u a b h k l1 l2) ⟨_, Tryz.func153, by decide +kernel, by kernel_rfl⟩) ?_ 
  refine .cons (kMake_ok (fun w v u a b h k l1 l2 => rmake_calls w v u a b h k l1 l2) ⟨_, Tryz.func105, by decide +kernel, by kernel_rfl⟩) ?_ 
  refine .cons (kFromQ_ok (fun w n h => from_rat_calls w n h) ⟨_, Tryz.func122, by decide +kernel, by kernel_rfl⟩) ?_ 
  refine .cons (kFromQ_ok (fun w n h => rfrom_rat_calls w n h) ⟨_, Tryz.func91, by decide +kernel, by kernel_rfl⟩) ?_ 
  
  refine .cons (kFrac_ok (fun w n d h k => rfrac_rat_calls w n d h k) ⟨_, Tryz.func69, by decide +kernel, by kernel_rfl⟩) ?_ 
  exact .nil

end Go.Proofs.YtifeacfljfmnpaaGreat
end

section
set_option maxRecDepth 100000
namespace Go.Proofs.YtifeacfljfmnpaaGreat
open Go.RowKit
def RawQ (w : World) (v : Value) (s1 : Bool) (xs1 : List Nat) (s2 : Bool) (xs2 : List Nat) : Prop :=
  ∃ a b c d, v = .agg #[a, b, c, d] ∧ Raw w (.agg #[a, b]) s1 xs1 ∧ Raw w (.agg #[c, d]) s2 xs2
def rE (l : List (Bool × List Nat)) : Env := ⟨fun _ => 0, fun _ => false, fun i => l.getD i (false, []), fun _ => []⟩
def argRaw (i j : Nat) : AV := .val true [.raw i, .raw j]
theorem argRaw_holds {E : Env} {β : Nat → Nat} {w : World} {v : Value} {s1 s2 : Bool} {xs1 xs2 : List Nat} {i j : Nat} (h : RawQ w v s1 xs1 s2 xs2) (e1 : E.r i = (s1, xs1)) (e2 : E.r j = (s2, xs2)) : (argRaw i j).holds E β w v := by
  obtain ⟨a, b, c, d, rfl, h1, h2⟩ := h
  refine ⟨[a, b, c, d], rfl, [a, b], [c, d], rfl, ⟨a, b, rfl, ?_⟩, [c, d], [], rfl, ⟨c, d, rfl, ?_⟩, rfl⟩
  · rw [e1]; exact h1
  · rw [e2]; exact h2
def kRV : Con
  | [.val true [.raw i]], _ => some (.val false [.b (.ok i)])
  | [.val true [.int _ _]], _ => some (.val false [.b (.lit true)])
  | _, _ => none
theorem kRV_ok {E : Env} {f : Nat} (hc : ∀ (w : World) (v : Value) (s : Bool) (xs : List Nat), Raw w v s xs → Calls Tryz.prog f #[v] w fun e w' => e = .returned (.bool (okB s xs)) ∧ Ext w w')
    (hb : ∃ fn, Tryz.prog.funcs[f]? = some fn ∧ fn.name ≠ "runtime.NumGoroutine" ∧ fn.body.isNone = false) : ConOK Tryz.prog E f kRV := by
  refine ⟨?_, ?_, hb⟩
  · intro args As r h hG β w vs hv hlen
    unfold kRV at h
    split at h
    · rename_i i
      injection h with h
      subst h
      obtain ⟨v, rfl, us, rfl, l1, r1, rfl, ⟨x, y, rfl, hr⟩, hn⟩ := args1 hv hlen
      simp only [chunks] at hn
      subst hn
      refine (hc w _ _ _ hr).mono ?_
      rintro e w' ⟨rfl, ex⟩
      exact ⟨_, rfl, z11q.2 rfl, ex⟩
    · injection h with h
      subst h
      obtain ⟨v, rfl, h1⟩ := args1 hv hlen
      obtain ⟨ao, cap, s, n, rfl, k1, k2, k3, H4, H5, H6⟩ := (z10q.1 h1).1.open_
      obtain ⟨j1, j2⟩ := isInt_raw k1 k2 k3 H6.out
      refine (hc w _ _ _ j1).mono ?_
      rintro e w' ⟨rfl, ex⟩
      exact ⟨_, rfl, z11q.2 (by rw [j2]; rfl), ex⟩
    · cases h
  · intro args As r h x off
    unfold kRV at h
    split at h
    · injection h with h; subst h; intro e; cases e
    · injection h with h; subst h; intro e; cases e
    · cases h
def okQ (s1 : Bool) (xs1 : List Nat) (s2 : Bool) (xs2 : List Nat) : Bool :=
  okB s1 xs1 && okB s2 xs2 && decide (0 < sgn s2 (val xs2)) && decide (Nat.gcd (sgn s1 (val xs1)).natAbs (sgn s2 (val xs2)).natAbs = 1)
def tabRV : List (Nat × Con) := (85, kRV) :: (87, kIIb fun x y => .eq x y) :: (89, k0 (.lit 1) 3) :: tabR2
theorem tabRV_ok {E : Env} : TabOK Tryz.prog E tabRV :=
  .cons (kRV_ok (fun w v s xs h => rvalid_calls w v s xs h) ⟨_, Tryz.func85, by decide +kernel, by kernel_rfl⟩)
    (.cons (kIIb_ok (fun x y => x == y) (fun _ _ => rfl) (fun w v1 v2 z1 z2 h1 h2 => (rsame_calls w v1 v2 z1 z2 h1 h2).mono (fun e w' h => ⟨by rw [h.1]; by_cases hz : z1 = z2 <;> simp [hz], h.2⟩)) ⟨_, Tryz.func87, by decide +kernel, by kernel_rfl⟩)
      (.cons (k0_ok 1 rfl (fun w => unit_calls w) (lim3 (by decide) (by decide)) ⟨_, Tryz.func89, by decide +kernel, by kernel_rfl⟩) tabR2_ok))
def tabPV : List (Nat × Con) := (174, kRV) :: tabInt
theorem tabPV_ok {E : Env} : TabOK Tryz.prog E tabPV := .cons (kRV_ok (fun w v s xs h => valid_calls w v s xs h) ⟨_, Tryz.func174, by decide +kernel, by kernel_rfl⟩) tabInt_ok

theorem walkRaw {tab : List (Nat × Con)} {f : Nat} {fn : Func} {G : Asm} {w : World} {v : Value} {s1 s2 : Bool} {xs1 xs2 : List Nat} (ht : TabOK Tryz.prog (rE [(s1, xs1), (s2, xs2)]) tab) (hG : G.holds (rE [(s1, xs1), (s2, xs2)])) (hf : Tryz.prog.funcs[f]? = some fn)
    (hT : funE (cfgOf tab) fn G [argRaw 0 1] = some (.leaf [(false, [.b (.lit false)])])) (h4 : fn.results.toList.length ≤ 4) (hn : 1 ≤ fn.ntmps) (h : RawQ w v s1 xs1 s2 xs2) :
    Calls Tryz.prog f #[v] w fun e w' => e = .returned (.bool false) ∧ Ext w w' := by
  refine (z5q mixed (cfg_ok ht) hG hf h4 hT hn rfl w [v] rfl ?_).mono ?_
  · intro i x hx
    match i, hx with
    | 0, hx => injection hx with hx; subst hx; exact ⟨fun _ => 0, v, rfl, argRaw_holds h rfl rfl⟩
  · rintro e w' ⟨β, u, rfl, hh, ex⟩
    have := z11q.1 hh
    subst this
    exact ⟨rfl, ex⟩
theorem asm1 {E : Env} {t : BT} {b : Bool} (h : t.den E = b) : Asm.holds E [(t, b)] := by
  intro p hp
  simp only [List.mem_cons, List.not_mem_nil, or_false] at hp
  subst hp
  exact h
theorem asm2 {E : Env} {t u : BT} {b c : Bool} (h : t.den E = b) (k : u.den E = c) : Asm.holds E [(t, b), (u, c)] := by
  intro p hp
  simp only [List.mem_cons, List.not_mem_nil, or_false] at hp
  rcases hp with rfl | rfl
  · exact h
  · exact k
theorem okQ_pair {w : World} {v : Value} {s1 s2 : Bool} {xs1 xs2 : List Nat} (h : RawQ w v s1 xs1 s2 xs2) (b1 : okB s1 xs1 = true) (b2 : okB s2 xs2 = true) : IsPair w v (sgn s1 (val xs1)) (sgn s2 (val xs2)) := by
  obtain ⟨a, b, c, d, rfl, h1, h2⟩ := h
  exact ⟨a, b, c, d, rfl, (okB_int h1 b1).1, (okB_int h2 b2).1⟩
theorem ok_lim {w : World} {v : Value} {s : Bool} {xs : List Nat} {k : Nat} (h : Raw w v s xs) (b : okB s xs = true) (l : xs.length ≤ k) : Lim k (sgn s (val xs)) := by
  have := (okB_int h b).2
  unfold Lim
  rw [natAbs_sgn, this]
  exact l
theorem cmp_pos (d : Int) : (cmpZ d 0 = 1) ↔ 0 < d := by
  rcases z2q d 0 with ⟨h, e⟩ | ⟨h, e⟩ | ⟨h, e⟩ <;> rw [e] <;> omega
theorem cmp_pos' (d : Int) : (0 < cmpZ d 0) ↔ 0 < d := by
  rcases z2q d 0 with ⟨h, e⟩ | ⟨h, e⟩ | ⟨h, e⟩ <;> rw [e] <;> omega
theorem valid_rat_calls (w : World) (v : Value) (s1 s2 : Bool) (xs1 xs2 : List Nat) (h : RawQ w v s1 xs1 s2 xs2) (l1 : xs1.length ≤ 100000) (l2 : xs2.length ≤ 100000) :
    Calls Tryz.prog 124 #[v] w fun e w' => e = .returned (.bool (okQ s1 xs1 s2 xs2)) ∧ Ext w w' := by
  cases b1 : okB s1 xs1 with
  | false =>
    have e0 : okQ s1 xs1 s2 xs2 = false := by unfold okQ; rw [b1]; rfl
    rw [e0]
    exact walkRaw tabPV_ok (asm1 (t := .ok 0) b1) Tryz.func124 (by kernel_rfl) (by decide +kernel) (by decide +kernel) h
  | true =>
    cases b2 : okB s2 xs2 with
    | false =>
      have e0 : okQ s1 xs1 s2 xs2 = false := by unfold okQ; rw [b1, b2]; rfl
      rw [e0]
      exact walkRaw tabPV_ok (asm2 (t := .ok 0) (u := .ok 1) b1 b2) Tryz.func124 (by kernel_rfl) (by decide +kernel) (by decide +kernel) h
    | true =>
      have hp := okQ_pair h b1 b2
      have m1 : Lim 100000 (sgn s1 (val xs1)) := by obtain ⟨a, b, c, d, rfl, h1, h2⟩ := h; exact ok_lim h1 b1 l1
      have m2 : Lim 100000 (sgn s2 (val xs2)) := by obtain ⟨a, b, c, d, rfl, h1, h2⟩ := h; exact ok_lim h2 b2 l2
      have e0 : okQ s1 xs1 s2 xs2 = (decide (0 < sgn s2 (val xs2)) && decide (Nat.gcd (sgn s1 (val xs1)).natAbs (sgn s2 (val xs2)).natAbs = 1)) := by unfold okQ; rw [b1, b2]; rfl
      rw [e0]
      generalize sgn s1 (val xs1) = n at *
      generalize sgn s2 (val xs2) = d at *
      refine (z5q (C := cfgOf tabPV) (E := zE [n, d]) (args := [argQ 0]) (T := .ite (.lt (.lit 0) (.a2 3 (.var 1) (.lit 0))) (.leaf [(false, [.b (.eq (.a2 6 (.var 0) (.var 1)) (.lit 1))])]) (.leaf [(false, [.b (.lit false)])]))
        mixed (cfg_ok tabPV_ok) z8q Tryz.func124 (by decide +kernel) (by kernel_rfl) (by decide +kernel) rfl w [v] rfl ?_).mono ?_
      · intro i x hx
        match i, hx with
        | 0, hx => injection hx with hx; subst hx; exact ⟨fun _ => 0, v, rfl, argP_holds hp m1 m2 rfl rfl⟩
      · rintro e w' ⟨β, u, rfl, hh, ex⟩
        simp only [Tree.pick] at hh
        split at hh
        · rename_i hz
          have hd : 0 < d := (cmp_pos' d).1 (of_decide_eq_true hz)
          have := z11q.1 hh
          subst this
          rw [decide_eq_true hd, Bool.true_and]
          refine ⟨ret_bool ?_, ex⟩
          show (((Nat.gcd n.natAbs d.natAbs : Nat) : Int) == 1) = _
          by_cases hg : Nat.gcd n.natAbs d.natAbs = 1
          · rw [decide_eq_true hg, beq_iff_eq]; omega
          · rw [decide_eq_false hg, beq_eq_false_iff_ne]; omega
        · rename_i hz
          have hd : ¬ 0 < d := fun e => hz (decide_eq_true ((cmp_pos' d).2 e))
          have := z11q.1 hh
          subst this
          rw [decide_eq_false hd, Bool.false_and]
          exact ⟨rfl, ex⟩
theorem rvalid_rat_calls (w : World) (v : Value) (s1 s2 : Bool) (xs1 xs2 : List Nat) (h : RawQ w v s1 xs1 s2 xs2) (l1 : xs1.length ≤ 100000) (l2 : xs2.length ≤ 100000) :
    Calls Tryz.prog 18 #[v] w fun e w' => e = .returned (.bool (okQ s1 xs1 s2 xs2)) ∧ Ext w w' := by
  cases b1 : okB s1 xs1 with
  | false =>
    have e0 : okQ s1 xs1 s2 xs2 = false := by unfold okQ; rw [b1]; rfl
    rw [e0]
    exact walkRaw tabRV_ok (asm1 (t := .ok 0) b1) Tryz.func18 (by kernel_rfl) (by decide +kernel) (by decide +kernel) h
  | true =>
    cases b2 : okB s2 xs2 with
    | false =>
      have e0 : okQ s1 xs1 s2 xs2 = false := by unfold okQ; rw [b1, b2]; rfl
      rw [e0]
      exact walkRaw tabRV_ok (asm2 (t := .ok 0) (u := .ok 1) b1 b2) Tryz.func18 (by kernel_rfl) (by decide +kernel) (by decide +kernel) h
    | true =>
      have hp := okQ_pair h b1 b2
      have m1 : Lim 100000 (sgn s1 (val xs1)) := by obtain ⟨a, b, c, d, rfl, h1, h2⟩ := h; exact ok_lim h1 b1 l1
      have m2 : Lim 100000 (sgn s2 (val xs2)) := by obtain ⟨a, b, c, d, rfl, h1, h2⟩ := h; exact ok_lim h2 b2 l2
      have e0 : okQ s1 xs1 s2 xs2 = (decide (0 < sgn s2 (val xs2)) && decide (Nat.gcd (sgn s1 (val xs1)).natAbs (sgn s2 (val xs2)).natAbs = 1)) := by unfold okQ; rw [b1, b2]; rfl
      rw [e0]
      generalize sgn s1 (val xs1) = n at *
      generalize sgn s2 (val xs2) = d at *
      refine (z5q (C := cfgOf tabRV) (E := zE [n, d]) (args := [argQ 0]) (T := .ite (.eq (.a2 3 (.var 1) (.lit 0)) (.lit 1)) (.leaf [(false, [.b (.eq (.a2 6 (.var 0) (.var 1)) (.lit 1))])]) (.leaf [(false, [.b (.lit false)])]))
        mixed (cfg_ok tabRV_ok) z8q Tryz.func18 (by decide +kernel) (by kernel_rfl) (by decide +kernel) rfl w [v] rfl ?_).mono ?_
      · intro i x hx
        match i, hx with
        | 0, hx => injection hx with hx; subst hx; exact ⟨fun _ => 0, v, rfl, argP_holds hp m1 m2 rfl rfl⟩
      · rintro e w' ⟨β, u, rfl, hh, ex⟩
        simp only [Tree.pick] at hh
        split at hh
        · rename_i hz
          have hd : 0 < d := (cmp_pos d).1 (eq_of_beq hz)
          have := z11q.1 hh
          subst this
          rw [decide_eq_true hd, Bool.true_and]
          refine ⟨ret_bool ?_, ex⟩
          show (((Nat.gcd n.natAbs d.natAbs : Nat) : Int) == 1) = _
          by_cases hg : Nat.gcd n.natAbs d.natAbs = 1
          · rw [decide_eq_true hg, beq_iff_eq]; omega
          · rw [decide_eq_false hg, beq_eq_false_iff_ne]; omega
        · rename_i hz
          have hd : ¬ 0 < d := fun e => hz (beq_iff_eq.2 ((cmp_pos d).2 e))
          have := z11q.1 hh
          subst this
          rw [decide_eq_false hd, Bool.false_and]
          exact ⟨rfl, ex⟩

end Go.Proofs.YtifeacfljfmnpaaGreat
end

section
set_option maxRecDepth 100000
namespace Go.Proofs.YtifeacfljfmnpaaGreat
open Go.RowKit
def VEnv (E : Env) : Prop := ∀ i, i % 2 = 0 → E.b (i / 2) = okQ (E.r i).1 (E.r i).2 (E.r (i + 1)).1 (E.r (i + 1)).2
theorem one_raw2 {E : Env} {w : World} {i j : Nat} {v : Value} (h : one E w (true, [.raw i, .raw j]) v) : RawQ w v (E.r i).1 (E.r i).2 (E.r j).1 (E.r j).2 := by
  obtain ⟨us, rfl, l1, r1, rfl, ⟨x, y, rfl, h1⟩, l2, r2, rfl, ⟨z, t, rfl, h2⟩, hn⟩ := h
  simp only [chunks] at hn
  subst hn
  exact ⟨x, y, z, t, rfl, h1, h2⟩
def bE (f : Bool → List Nat → Bool → List Nat → Bool) (l : List (Bool × List Nat)) : Env :=
  ⟨fun _ => 0, fun q => f (l.getD (2 * q) (false, [])).1 (l.getD (2 * q) (false, [])).2 (l.getD (2 * q + 1) (false, [])).1 (l.getD (2 * q + 1) (false, [])).2, fun i => l.getD i (false, []), fun _ => []⟩
theorem bE_ok (l : List (Bool × List Nat)) : VEnv (bE okQ l) := by
  intro i hi
  show okQ (l.getD (2 * (i / 2)) (false, [])).1 _ _ _ = _
  rw [show 2 * (i / 2) = i by omega]
  rfl
end Go.Proofs.YtifeacfljfmnpaaGreat
end

section
set_option maxRecDepth 100000
namespace Go.Proofs.YtifeacfljfmnpaaGreat
open Go.RowKit
end Go.Proofs.YtifeacfljfmnpaaGreat
end

section
set_option maxRecDepth 100000
namespace Go.Proofs.YtifeacfljfmnpaaGreat
open Go.RowKit
def isRaw : Nat → List Chunk → Bool
  | _, [] => true
  | i, .raw j :: cs => j == i && isRaw (i + 1) cs
  | _, _ => false
theorem isRaw_spec : ∀ {cs : List Chunk} {i : Nat}, isRaw i cs = true → cs = (List.range cs.length).map fun k => .raw (i + k)
  | [], _, _ => rfl
  | .raw j :: cs, i, h => by
    simp only [isRaw, Bool.and_eq_true, beq_iff_eq] at h
    obtain ⟨rfl, h⟩ := h
    have := isRaw_spec h
    rw [List.length_cons, List.range_succ_eq_map, List.map_cons, List.map_map, Nat.add_zero]
    congr 1
    refine Eq.trans this (List.map_congr_left fun k _ => ?_)
    show Chunk.raw _ = Chunk.raw _
    rw [show j + 1 + k = j + (k + 1) by omega]
  | .b _ :: _, _, h | .n _ _ :: _, _, h | .int _ _ :: _, _, h | .mag _ _ :: _, _, h | .rmag _ :: _, _, h | .fn _ :: _, _, h | .nilSlice :: _, _, h | .str _ _ :: _, _, h => by cases h
end Go.Proofs.YtifeacfljfmnpaaGreat
end

section
set_option maxRecDepth 100000
namespace Go.Proofs.YtifeacfljfmnpaaGreat
open Go.RowKit
theorem int_raw {w : World} {v : Value} {z : Int} (h : IsInt w v z) : Raw w v (decide (z < 0)) (limbs z.natAbs) ∧ okB (decide (z < 0)) (limbs z.natAbs) = true := by
  obtain ⟨ao, cap, s, n, rfl, h1, h2, h3, H4, H5, H6⟩ := h.open_
  obtain ⟨k1, k2⟩ := isInt_raw h1 h2 h3 H6.out
  have e4 : n = z.natAbs := H4.out
  have e5 : z = sgn s n := H5.out
  have e6 := H6.out
  have es : s = decide (z < 0) := by
    cases s with
    | true => rw [eq_comm, decide_eq_true_iff, e5]; have := e6 rfl; simp [sgn]; omega
    | false => rw [eq_comm, decide_eq_false_iff_not, e5]; simp [sgn]
  rw [← e4, ← es]
  exact ⟨k1, k2⟩
theorem int_chunk {E E' : Env} {w : World} {t : IT} {l i : Nat} {vs : List Value} (h : (Chunk.int t l).holds E w vs) (e : E'.r i = (decide (t.den E < 0), limbs (t.den E).natAbs)) : (Chunk.raw i).holds E' w vs := by
  obtain ⟨x, y, rfl, hI, _⟩ := h
  refine ⟨x, y, rfl, ?_⟩
  rw [e]
  exact (int_raw hI).1
end Go.Proofs.YtifeacfljfmnpaaGreat
end

section
set_option maxRecDepth 100000
namespace Go.Proofs.YtifeacfljfmnpaaGreat
open Go.RowKit
end Go.Proofs.YtifeacfljfmnpaaGreat
end

section
set_option maxRecDepth 100000
namespace Go.Proofs.YtifeacfljfmnpaaGreat
open Go.RowKit
theorem rsign_rat_calls (w : World) (v1 : Value) (n d : Int) (h1 : IsPair w v1 n d) (l1 : Lim 100000 n) (l1' : Lim 100000 d) : Calls Tryz.prog 25 #[v1] w fun e w' => e = .returned (.int .i64 (cmpZ n 0)) ∧ Ext w w' := by
  refine (z5q (E := zE [n, d]) (args := [argQ 0]) (T := .leaf [(false, [.n .i64 (.a2 3 (.var 0) (.lit 0))])])
    mixed (cfg_ok (.cons (kIn_ok (f := 86) (g := fun x => .a2 3 x (.lit 0)) (fun x => cmpZ x 0) (fun _ => rfl) (fun w v z h => rsign_calls w v z h) ⟨_, Tryz.func86, by decide +kernel, by kernel_rfl⟩) .nil))
    z8q Tryz.func25 (by decide +kernel) (by kernel_rfl) (by decide +kernel) rfl w [v1] rfl ?_).mono ?_
  · intro i x hx
    match i, hx with
    | 0, hx => injection hx with hx; subst hx; exact ⟨fun _ => 0, v1, rfl, argP_holds h1 l1 l1' rfl rfl⟩
  · rintro e w' ⟨β, v, rfl, hh, ex⟩
    have := z9q.1 hh
    subst this
    exact ⟨rfl, ex⟩
theorem kSgF_ok {E : Env} {f : Nat} (hc : ∀ (w : World) (v1 : Value) (n d : Int), IsPair w v1 n d → Lim 100000 n → Lim 100000 d → Calls Tryz.prog f #[v1] w fun e w' => e = .returned (.int .i64 (cmpZ n 0)) ∧ Ext w w')
    (hb : ∃ fn, Tryz.prog.funcs[f]? = some fn ∧ fn.name ≠ "runtime.NumGoroutine" ∧ fn.body.isNone = false) : ConOK Tryz.prog E f kSg := by
  refine ⟨?_, ?_, hb⟩
  · intro args As r h hG β w vs hv hlen
    unfold kSg at h
    split at h
    · split at h
      · rename_i hlo
        injection h with h
        subst h
        simp only [Bool.and_eq_true, decide_eq_true_iff] at hlo
        obtain ⟨v, rfl, h1⟩ := args1 hv hlen
        obtain ⟨p1, a1, a2⟩ := one_pair.1 h1
        refine (hc w v _ _ p1 (a1.mono hlo.1) (a2.mono hlo.2)).mono ?_
        rintro e w' ⟨rfl, ex⟩
        exact ⟨_, rfl, z9q.2 rfl, ex⟩
      · cases h
    · cases h
  · intro args As r h x off
    unfold kSg at h
    split at h
    · split at h
      · injection h with h; subst h; intro e; cases e
      · cases h
    · cases h
theorem rcmp_rat_calls (w : World) (v1 v2 : Value) (a b : Rat) (h1 : IsRat w v1 a) (h2 : IsRat w v2 b) (l1 : LimQ 100000 a) (l2 : LimQ 100000 b) :
    Calls Tryz.prog 114 #[v1, v2] w fun e w' => e = .returned (.int .i64 (cmpZ (a.num * (b.den : Int)) (b.num * (a.den : Int)))) ∧ Ext w w' := by
  refine (walkQ2 (T := .leaf [(false, [.n .i64 (.a2 3 (.a2 2 (.var 0) (.var 3)) (.a2 2 (.var 2) (.var 1)))])])
    (tab := (95, kIIn (.a2 3)) :: tabR3 true)
    (.cons (kIIn_ok cmpZ (fun _ _ => rfl) (fun w v1 v2 z1 z2 h1 h2 => rcmp_calls w v1 v2 z1 z2 h1 h2) ⟨_, Tryz.func95, by decide +kernel, by kernel_rfl⟩) (tabR3_ok (q := true) (fun _ => qE_ok _)))
    Tryz.func114 (by kernel_rfl) (by decide +kernel) (by decide +kernel) h1 h2 l1 l2).mono ?_
  rintro e w' ⟨β, v, rfl, hh, ex⟩
  have := z9q.1 hh
  subst this
  exact ⟨rfl, ex⟩
def tabT : List (Nat × Con) :=
  (25, kSg)  ::
  (126, kSg)  ::
  (114, kCmpQ)  ::
  (112, kCmpQ)  ::
  tabQ
theorem tabT_ok {E : Env} (hE : QEnv E) : TabOK Tryz.prog E tabT := by
  refine .cons (kSgF_ok (fun w v1 n d h l m => rsign_rat_calls w v1 n d h l m) ⟨_, Tryz.func25, by decide +kernel, by kernel_rfl⟩) ?_ 
  refine .cons kSg_ok ?_ 
  refine .cons (kCmpQ_ok hE (fun w v1 v2 a b h1 h2 l1 l2 => rcmp_rat_calls w v1 v2 a b h1 h2 l1 l2) ⟨_, Tryz.func114, by decide +kernel, by kernel_rfl⟩) ?_
  refine .cons (kCmpQ_ok hE (fun w v1 v2 a b h1 h2 l1 l2 => cmp_rat_calls w v1 v2 a b h1 h2 l1 l2) ⟨_, Tryz.func112, by decide +kernel, by kernel_rfl⟩) ?_
  exact tabQ_ok hE

abbrev IT2 := IT × IT
def qv (i : Nat) : IT2 := (.var (2 * i), .var (2 * i + 1))
def qop (f : Nat) (p q : IT2) : IT2 := (.a4 (2 * f) p.1 p.2 q.1 q.2, .a4 (2 * f + 1) p.1 p.2 q.1 q.2)
def RepQ (E : Env) (p : IT2) (q : Rat) : Prop := p.1.den E = q.num ∧ p.2.den E = (q.den : Int)
theorem rep_op {E : Env} {f : Nat} {p q : IT2} {a b : Rat} (hf : f ≠ 4) (hp : RepQ E p a) (hq : RepQ E q b) : RepQ E (qop f p q) (ratF f a b) := by
  constructor
  · show fn4 (2 * f) (p.1.den E) (p.2.den E) (q.1.den E) (q.2.den E) = _
    rw [hp.1, hp.2, hq.1, hq.2, fn4_num (by omega), show 2 * f / 2 = f by omega]
  · show fn4 (2 * f + 1) (p.1.den E) (p.2.den E) (q.1.den E) (q.2.den E) = _
    rw [hp.1, hp.2, hq.1, hq.2, fn4_den (by omega) (by omega), show (2 * f + 1) / 2 = f by omega]
theorem rep_v {l : List Rat} {i : Nat} : RepQ (qE l) (qv i) (l.getD i 0) := by
  constructor
  · show (if 2 * i % 2 = 0 then _ else _) = _
    rw [if_pos (by omega), show 2 * i / 2 = i by omega]
  · show (if (2 * i + 1) % 2 = 0 then _ else _) = _
    rw [if_neg (by omega), show (2 * i + 1) / 2 = i by omega]
end Go.Proofs.YtifeacfljfmnpaaGreat
end

section
set_option maxRecDepth 100000
namespace Go.Proofs.YtifeacfljfmnpaaGreat
open Go.RowKit
end Go.Proofs.YtifeacfljfmnpaaGreat
end

section
set_option maxRecDepth 100000
namespace Go.Proofs.YtifeacfljfmnpaaGreat
open Go.RowKit
def argL (i l : Nat) : AV := .val true [.int (.var (2 * i)) l, .int (.var (2 * i + 1)) l]
theorem convergent_calls (w : World) (v1 v2 v3 : Value) (n1 d1 n2 d2 t : Int) (h1 : IsPair w v1 n1 d1) (h2 : IsPair w v2 n2 d2) (h3 : IsInt w v3 t) (l1 : Lim 1000 n1) (l1' : Lim 1000 d1) (l2 : Lim 1000 n2) (l2' : Lim 1000 d2) (l3 : Lim 1000 t) :
    Calls Tryz.prog 208 #[v1, v2, v3] w (Ret (fun v w' => IsPair w' v (t * n1 + n2) (t * d1 + d2)) w) := by
  refine (z5q (C := cfgOf tabInt) (E := zE [n1, d1, n2, d2, t]) (args := [argL 0 1000, argL 1 1000, .val true [.int (.var 4) 1000]])
    (T := .leaf [(true, [.int (.a2 0 (.a2 2 (.var 4) (.var 0)) (.var 2)) 2001, .int (.a2 0 (.a2 2 (.var 4) (.var 1)) (.var 3)) 2001])])
    mixed (cfg_ok tabInt_ok) z8q Tryz.func208 (by decide +kernel) (by kernel_rfl) (by decide +kernel) rfl w [v1, v2, v3] rfl ?_).mono ?_
  · intro i x hx
    match i, hx with
    | 0, hx => injection hx with hx; subst hx; exact ⟨fun _ => 0, v1, rfl, one_pair.2 ⟨h1, l1, l1'⟩⟩
    | 1, hx => injection hx with hx; subst hx; exact ⟨fun _ => 0, v2, rfl, one_pair.2 ⟨h2, l2, l2'⟩⟩
    | 2, hx => injection hx with hx; subst hx; exact ⟨fun _ => 0, v3, rfl, z10q.2 ⟨h3, l3⟩⟩
  · rintro e w' ⟨β, v, rfl, hh, ex⟩
    exact ⟨v, rfl, (one_pair.1 hh).1, ex⟩
def kConv : Con
  | [.val true [.int x l, .int y m], .val true [.int z k, .int t j], .val true [.int u n]], _ => if decide (l ≤ 1000) && (decide (m ≤ 1000) && (decide (k ≤ 1000) && (decide (j ≤ 1000) && decide (n ≤ 1000)))) then
      some (.val true [.int (.a2 0 (.a2 2 u x) z) (n + l + k + 1), .int (.a2 0 (.a2 2 u y) t) (n + m + j + 1)]) else none
  | _, _ => none
theorem kConv_ok {E : Env} : ConOK Tryz.prog E 208 kConv := by
  refine ⟨?_, ?_, ⟨_, Tryz.func208, by decide +kernel, by kernel_rfl⟩⟩
  · intro args As r h hG β w vs hv hlen
    unfold kConv at h
    split at h
    · rename_i x l y m z k t j u n
      split at h
      · rename_i hlo
        injection h with h
        subst h
        simp only [Bool.and_eq_true, decide_eq_true_iff] at hlo
        obtain ⟨b1, b2, b3, b4, b5⟩ := hlo
        obtain ⟨v1, v2, v3, rfl, h1, h2, h3⟩ := args3 hv hlen
        obtain ⟨p1, a1, a2⟩ := one_pair.1 h1
        obtain ⟨p2, a3, a4⟩ := one_pair.1 h2
        obtain ⟨p3, a5⟩ := z10q.1 h3
        refine (convergent_calls w v1 v2 v3 _ _ _ _ _ p1 p2 p3 (a1.mono b1) (a2.mono b2) (a3.mono b3) (a4.mono b4) (a5.mono b5)).mono ?_
        rintro e w' ⟨v', rfl, hp, ex⟩
        exact ⟨v', rfl, one_pair.2 ⟨hp, ((a5.mul a1).add2 a3).mono (by omega), ((a5.mul a2).add2 a4).mono (by omega)⟩, ex⟩
      · cases h
    · cases h
  · intro args As r h x off
    unfold kConv at h
    split at h
    · split at h
      · injection h with h; subst h; intro e; cases e
      · cases h
    · cases h
def tabSP : List (Nat × Con) := (208, kConv) :: tabDiv
theorem tabSP_ok {E : Env} : TabOK Tryz.prog E tabSP := .cons kConv_ok tabDiv_ok
theorem lim1 {z : Int} (h : z.natAbs < 1000000000) : Lim 1 z := limbs_len_le (by simpa using h)
end Go.Proofs.YtifeacfljfmnpaaGreat
end

section
set_option maxRecDepth 100000
namespace Go.Proofs.YtifeacfljfmnpaaGreat
open Go.RowKit
theorem validP_calls (w : World) (v : Value) (n d : Int) (h : IsPair w v n d) (l1 : Lim 100000 n) (l2 : Lim 100000 d) :
    Calls Tryz.prog 124 #[v] w fun e w' => e = .returned (.bool (decide (0 < d) && ((Nat.gcd n.natAbs d.natAbs : Nat) : Int) == 1)) ∧ Ext w w' := by
  obtain ⟨a, b, c, f, rfl, h1, h2⟩ := h
  obtain ⟨k1, k2⟩ := int_raw h1
  obtain ⟨j1, j2⟩ := int_raw h2
  refine (valid_rat_calls w _ _ _ _ _ ⟨a, b, c, f, rfl, k1, j1⟩ (Nat.le_trans l1 (by omega)) (Nat.le_trans l2 (by omega))).mono ?_
  rintro e w' ⟨rfl, ex⟩
  refine ⟨ret_bool ?_, ex⟩
  have e1 : sgn (decide (n < 0)) (val (limbs n.natAbs)) = n := by rw [z1q]; exact sgn_self n
  have e2 : sgn (decide (d < 0)) (val (limbs d.natAbs)) = d := by rw [z1q]; exact sgn_self d
  unfold okQ
  rw [k2, j2, e1, e2, Bool.true_and, Bool.true_and]
  congr 1
  by_cases hg : Nat.gcd n.natAbs d.natAbs = 1
  · rw [decide_eq_true hg, eq_comm, beq_iff_eq]; omega
  · rw [decide_eq_false hg, eq_comm, beq_eq_false_iff_ne]; omega
end Go.Proofs.YtifeacfljfmnpaaGreat
end

section
set_option maxRecDepth 100000
namespace Go.Proofs.YtifeacfljfmnpaaGreat
open Go.RowKit
theorem isqN_le (n : Nat) : isqN n ≤ n := Nat.le_trans (Nat.le_mul_self _) (isqN_spec n).1
theorem isq_lim {l : Nat} {z : Int} (h : Lim l z) : Lim l (isq z) := by
  refine h.natAbs_le ?_
  unfold isq
  split
  · simp
  · rw [Int.natAbs_natCast]; exact isqN_le _
def kSqI : Con
  | [.val true [.int x l]], _ => if lo l then some (.tup [(true, [.int (.a1 2 x) l]), (false, [.n .i64 (.a1 3 x)])]) else none
  | _, _ => none
theorem kSqI_ok {E : Env} : ConOK Tryz.prog E 224 kSqI := by
  refine ⟨?_, ?_, ⟨_, Tryz.func224, by decide +kernel, by kernel_rfl⟩⟩
  · intro args As r h hG β w vs hv hlen
    unfold kSqI at h
    split at h
    · split at h
      · rename_i hlo
        injection h with h
        subst h
        simp only [lo, decide_eq_true_iff] at hlo
        obtain ⟨v, rfl, h1⟩ := args1 hv hlen
        obtain ⟨i1, l1⟩ := z10q.1 h1
        refine (sqrt_any w v _ i1 (l1.mono (by omega))).mono ?_
        rintro e w' ⟨u, rfl, k1, ex⟩
        exact ⟨_, rfl, ⟨[u, .int .i64 _], rfl, u, _, rfl, z10q.2 ⟨k1, isq_lim l1⟩, _, _, rfl, z9q.2 rfl, rfl⟩, ex⟩
      · cases h
    · cases h
  · intro args As r h x off
    unfold kSqI at h
    split at h
    · split at h
      · injection h with h; subst h; intro e; cases e
      · cases h
    · cases h
def tabSq : List (Nat × Con) := (224, kSqI) :: tabInt
theorem tabSq_ok {E : Env} : TabOK Tryz.prog E tabSq := .cons kSqI_ok tabInt_ok
def sqB (z : Int) : Bool := isqE z == 0 && cmpZ (isq z * isq z) z == 0
theorem squareRoot_calls (w : World) (v : Value) (z : Int) (h : IsInt w v z) (l : Lim 100000 z) :
    Calls Tryz.prog 177 #[v] w fun e w' => ∃ u, e = .returned (.tuple #[u, .bool (sqB z)]) ∧ IsInt w' u (isq z) ∧ Ext w w' := by
  refine (z5q (C := cfgOf tabSq) (E := zE [z]) (args := [.val true [.int (.var 0) 100000]])
    (T := .ite (.eq (.a1 3 (.var 0)) (.lit 0)) (.leaf [(true, [.int (.a1 2 (.var 0)) 100000]), (false, [.b (.eq (.a2 3 (.a2 2 (.a1 2 (.var 0)) (.a1 2 (.var 0))) (.var 0)) (.lit 0))])]) (.leaf [(true, [.int (.a1 2 (.var 0)) 100000]), (false, [.b (.lit false)])]))
    mixed (cfg_ok tabSq_ok) z8q Tryz.func177 (by decide +kernel) (by kernel_rfl) (by decide +kernel) rfl w [v] rfl ?_).mono ?_
  · intro i x hx
    match i, hx with
    | 0, hx => injection hx with hx; subst hx; exact ⟨fun _ => 0, v, rfl, z10q.2 ⟨h, l⟩⟩
  · rintro e w' ⟨β, u, rfl, hh, ex⟩
    have open_ : ∀ (x : IT) (k : Nat) (t : BT), (AV.tup [(true, [.int x k]), (false, [.b t])]).holds (zE [z]) β w' u → ∃ p, u = .tuple #[p, .bool (t.den (zE [z]))] ∧ IsInt w' p (x.den (zE [z])) := by
      intro x k t hx
      obtain ⟨vs, rfl, u1, r1, rfl, k1, u2, r2, rfl, k2, hn⟩ := hx
      simp only [tupAll] at hn
      subst hn
      have k2' := z11q.1 k2
      subst k2'
      exact ⟨u1, rfl, (z10q.1 k1).1⟩
    simp only [Tree.pick] at hh
    split at hh
    · rename_i hz
      have hz' : (isqE z == 0) = true := hz
      obtain ⟨p, rfl, hp⟩ := open_ _ _ _ hh
      refine ⟨p, ?_, hp, ex⟩
      unfold sqB
      rw [hz', Bool.true_and]
      rfl
    · rename_i hz
      have hz' : (isqE z == 0) = false := by rw [← Bool.not_eq_true]; exact hz
      obtain ⟨p, rfl, hp⟩ := open_ _ _ _ hh
      refine ⟨p, ?_, hp, ex⟩
      unfold sqB
      rw [hz', Bool.false_and]
      rfl
def kSqr : Con
  | [.val true [.int x l]], _ => if decide (l ≤ 100000) then some (.tup [(true, [.int (.a1 2 x) l]), (false, [.b (.and (.eq (.a1 3 x) (.lit 0)) (.eq (.a2 3 (.a2 2 (.a1 2 x) (.a1 2 x)) x) (.lit 0)))])]) else none
  | _, _ => none
theorem kSqr_ok {E : Env} : ConOK Tryz.prog E 177 kSqr := by
  refine ⟨?_, ?_, ⟨_, Tryz.func177, by decide +kernel, by kernel_rfl⟩⟩
  · intro args As r h hG β w vs hv hlen
    unfold kSqr at h
    split at h
    · split at h
      · rename_i hlo
        injection h with h
        subst h
        simp only [decide_eq_true_iff] at hlo
        obtain ⟨v, rfl, h1⟩ := args1 hv hlen
        obtain ⟨i1, l1⟩ := z10q.1 h1
        refine (squareRoot_calls w v _ i1 (l1.mono hlo)).mono ?_
        rintro e w' ⟨u, rfl, k1, ex⟩
        exact ⟨_, rfl, ⟨[u, .bool _], rfl, u, _, rfl, z10q.2 ⟨k1, isq_lim l1⟩, _, _, rfl, z11q.2 rfl, rfl⟩, ex⟩
      · cases h
    · cases h
  · intro args As r h x off
    unfold kSqr at h
    split at h
    · split at h
      · injection h with h; subst h; intro e; cases e
      · cases h
    · cases h
def tabSqr : List (Nat × Con) := [(177, kSqr)]
theorem tabSqr_ok {E : Env} : TabOK Tryz.prog E tabSqr := .cons kSqr_ok .nil
end Go.Proofs.YtifeacfljfmnpaaGreat
end

section
set_option maxRecDepth 100000
namespace Go.Proofs.YtifeacfljfmnpaaGreat
open Go.RowKit
def lookN {α : Type} : List (Nat × α) → Nat → Option α
  | [], _ => none
  | p :: l, t => if p.1 == t then some p.2 else lookN l t
theorem lookN_mem {α : Type} : ∀ {l : List (Nat × α)} {t : Nat} {x : α}, lookN l t = some x → (t, x) ∈ l
  | [], _, _, h => by simp [lookN] at h
  | p :: l, t, x, h => by
    unfold lookN at h
    split at h
    · rename_i hp
      have : p.1 = t := by simpa using hp
      injection h with h
      obtain ⟨a, b⟩ := p
      simp only at this h
      subst this h
      exact List.mem_cons_self
    · exact List.mem_cons_of_mem _ (lookN_mem h)
def updI : List Nat → List Int → Nat → Option Int
  | v :: vs, z :: zs, k => if k = v then some z else updI vs zs k
  | _, _, _ => none
def Env.upd (E : Env) (vs : List Nat) (zs : List Int) : Env := { E with i := fun k => (updI vs zs k).getD (E.i k) }
theorem updI_map (f : Nat → Int) : ∀ (vs : List Nat) (k : Nat), updI vs (vs.map f) k = if k ∈ vs then some (f k) else none
  | [], k => rfl
  | v :: vs, k => by
    simp only [List.map_cons, updI, List.mem_cons]
    by_cases h : k = v
    · subst h; simp
    · rw [if_neg h, updI_map f vs k]
      simp [h]
structure LInv where
  lk : List (Nat × AV)
  vr : List (Nat × List Chunk)
  vs : List Nat
  G : Asm
  lm : List (Nat × Nat)
def LInv.st (I : LInv) : St := ⟨lookN I.lk, lookN I.vr⟩
def IT.free (vs : List Nat) : IT → Bool
  | .var i => !(vs.contains i)
  | .lit _ => true
  | .rlen _ => true
  | .slen _ => true
  | .a1 _ x => x.free vs
  | .a2 _ x y => x.free vs && y.free vs
  | .a4 _ x y z t => (x.free vs && y.free vs) && (z.free vs && t.free vs)
def ST.free (vs : List Nat) : ST → Bool
  | .lit _ => true
  | .var _ => true
  | .fmt z => z.free vs
  | .cat x y => x.free vs && y.free vs
def BT.free (vs : List Nat) : BT → Bool
  | .seq x y => x.free vs && y.free vs
  | .lit _ => true
  | .var _ => true
  | .eq x y => x.free vs && y.free vs
  | .lt x y => x.free vs && y.free vs
  | .le x y => x.free vs && y.free vs
  | .ok _ => true
  | .and x y => x.free vs && y.free vs
  | .not x => x.free vs
theorem IT.den_free {E : Env} {vs : List Nat} {zs : List Int} (_hz : zs.length = vs.length) : ∀ {t : IT}, t.free vs = true → t.den (E.upd vs zs) = t.den E := by
  have hup : ∀ (vs : List Nat) (zs : List Int) (k : Nat), k ∉ vs → updI vs zs k = none := by
    intro vs
    induction vs with
    | nil => intro zs k _; simp [updI]
    | cons v vs ih =>
      intro zs k hk
      cases zs with
      | nil => rfl
      | cons z zs =>
        simp only [updI]
        rw [if_neg (fun e => hk (by rw [e]; simp))]
        exact ih zs k (fun h => hk (by simp [h]))
  intro t
  induction t with
  | var i =>
    intro h
    simp only [IT.free, Bool.not_eq_true', List.contains_eq_mem, decide_eq_false_iff_not] at h
    simp only [IT.den, Env.upd, hup vs zs i h, Option.getD_none]
  | lit z => intro _; rfl
  | rlen i => intro _; rfl
  | slen i => intro _; rfl
  | a1 f x ih => intro h; simp only [IT.free] at h; simp only [IT.den, ih h]
  | a2 f x y ihx ihy => intro h; simp only [IT.free, Bool.and_eq_true] at h; simp only [IT.den, ihx h.1, ihy h.2]
  | a4 f x y z t ihx ihy ihz iht =>
    intro h
    simp only [IT.free, Bool.and_eq_true] at h
    simp only [IT.den, ihx h.1.1, ihy h.1.2, ihz h.2.1, iht h.2.2]
theorem ST.den_free {E : Env} {vs : List Nat} {zs : List Int} (hz : zs.length = vs.length) : ∀ {t : ST}, t.free vs = true → t.den (E.upd vs zs) = t.den E := by
  intro t
  induction t with
  | lit l => intro _; rfl
  | var i => intro _; rfl
  | fmt z => intro h; simp only [ST.free] at h; simp only [ST.den, IT.den_free hz h]
  | cat x y ihx ihy => intro h; simp only [ST.free, Bool.and_eq_true] at h; simp only [ST.den, ihx h.1, ihy h.2]
theorem BT.den_free {E : Env} {vs : List Nat} {zs : List Int} (hz : zs.length = vs.length) : ∀ {t : BT}, t.free vs = true → t.den (E.upd vs zs) = t.den E := by
  intro t
  induction t with
  | lit b => intro _; rfl
  | var i => intro _; rfl
  | ok i => intro _; rfl
  | seq x y => intro h; simp only [BT.free, Bool.and_eq_true] at h; simp only [BT.den, ST.den_free hz h.1, ST.den_free hz h.2]
  | eq x y => intro h; simp only [BT.free, Bool.and_eq_true] at h; simp only [BT.den, IT.den_free hz h.1, IT.den_free hz h.2]
  | lt x y => intro h; simp only [BT.free, Bool.and_eq_true] at h; simp only [BT.den, IT.den_free hz h.1, IT.den_free hz h.2]
  | le x y => intro h; simp only [BT.free, Bool.and_eq_true] at h; simp only [BT.den, IT.den_free hz h.1, IT.den_free hz h.2]
  | and x y ihx ihy => intro h; simp only [BT.free, Bool.and_eq_true] at h; simp only [BT.den, ihx h.1, ihy h.2]
  | not x ih => intro h; simp only [BT.free] at h; simp only [BT.den, ih h]

abbrev Sig := List (Nat × IT)
def colT (vs : List Nat) (p t : IT) (σ : Sig) : Sig :=
  match p with
  | .var i => if vs.contains i && (lookN σ i).isNone then (i, t) :: σ else σ
  | _ => σ
def colC (vs : List Nat) : Chunk → Chunk → Sig → Sig
  | .int p _, .int t _, σ => colT vs p t σ
  | .n _ p, .n _ t, σ => colT vs p t σ
  | .mag p _, .mag t _, σ => colT vs p t σ
  | _, _, σ => σ
def colCs (vs : List Nat) : List Chunk → List Chunk → Sig → Sig
  | c :: cs, d :: ds, σ => colCs vs cs ds (colC vs c d σ)
  | _, _, σ => σ
def colV (vs : List Nat) : AV → AV → Sig → Sig
  | .val _ cs, .val _ ds, σ => colCs vs cs ds σ
  | _, _, σ => σ
def colS (I : LInv) (S : St) : Sig :=
  I.vr.foldl (fun σ p => match S.var p.1 with | some ds => colCs I.vs p.2 ds σ | none => σ) (I.lk.foldl (fun σ p => match S.look p.1 with | some x => colV I.vs p.2 x σ | none => σ) [])
def okT (vs : List Nat) (σ : Sig) (p t : IT) : Bool :=
  match p with
  | .var i => if vs.contains i then (match lookN σ i with | some u => u.beq t | none => false) else t.beq (.var i)
  | p => p.free vs && p.beq t
def okL (I : LInv) (p : IT) (l m : Nat) : Bool :=
  match p with
  | .var i => if I.vs.contains i then I.lm.contains (i, l) else decide (m ≤ l)
  | _ => decide (m ≤ l)
def okC (I : LInv) (σ : Sig) : Chunk → Chunk → Bool
  | .b p, .b t => p.free I.vs && p.beq t
  | .n k p, .n j t => decide (k = j) && okT I.vs σ p t
  | .int p l, .int t m => okT I.vs σ p t && okL I p l m
  | .mag p l, .mag t m => okT I.vs σ p t && okL I p l m
  | .raw i, .raw j => i == j
  | .rmag i, .rmag j => i == j
  | .fn f, .fn g => f == g
  | .nilSlice, .nilSlice => true
  | .str s l, .str t m => s.free I.vs && (s.beq t && decide (m ≤ l))
  | _, _ => false
def okCs (I : LInv) (σ : Sig) : List Chunk → List Chunk → Bool
  | [], [] => true
  | c :: cs, d :: ds => okC I σ c d && okCs I σ cs ds
  | _, _ => false
def okV (I : LInv) (σ : Sig) : AV → AV → Bool
  | .val a cs, .val b ds => a == b && okCs I σ cs ds
  | .ptr x o, .ptr y p => (x == y && o == p) && (lookN I.vr x).isSome
  | .bad, .bad => true
  | _, _ => false
def okS (I : LInv) (σ : Sig) (S : St) : Bool :=
  (I.lk.all fun p => match S.look p.1 with | some x => okV I σ p.2 x | none => false) &&
  (I.vr.all fun p => match S.var p.1 with | some ds => okCs I σ p.2 ds && !(sizes p.2 == 0) | none => false)
def sigT (I : LInv) (σ : Sig) : List IT := I.vs.map fun i => (lookN σ i).getD (.lit 0)
def matchS (I : LInv) (S : St) : Option (List IT) := if okS I (colS I S) S then some (sigT I (colS I S)) else none
def enterL (Good : Env → Prop) (I : LInv) (ts : List IT) (E : Env) : Prop :=
  I.G.holds (E.upd I.vs (ts.map (IT.den E))) ∧ Good (E.upd I.vs (ts.map (IT.den E))) ∧ ∀ p ∈ I.lm, Lim p.2 ((E.upd I.vs (ts.map (IT.den E))).i p.1)

section
variable {E : Env} {n B : Nat} {w w0 : World} {a : Act} {I : LInv} {σ : Sig} {S : St} {ts : List IT}
theorem okT_spec (hts : ts = sigT I σ) {p t : IT} (h : okT I.vs σ p t = true) : p.den (E.upd I.vs (ts.map (IT.den E))) = t.den E := by
  have hlen : (ts.map (IT.den E)).length = I.vs.length := by rw [hts]; simp [sigT]
  have key : ∀ (q u : IT), (q.free I.vs && q.beq u) = true → q.den (E.upd I.vs (ts.map (IT.den E))) = u.den E := by
    intro q u hq
    rw [Bool.and_eq_true] at hq
    rw [IT.den_free hlen hq.1, IT.eq_of_beq hq.2]
  unfold okT at h
  split at h
  · rename_i i
    split at h
    · rename_i hi
      split at h
      · rename_i u hu
        have : ts.map (IT.den E) = I.vs.map (fun i => ((lookN σ i).getD (.lit 0)).den E) := by rw [hts]; simp [sigT, Function.comp_def]
        simp only [IT.den, Env.upd]
        rw [this, updI_map]
        rw [List.contains_iff_mem] at hi
        rw [if_pos hi]
        simp only [Option.getD_some, hu]
        rw [IT.eq_of_beq h]
      · cases h
    · rename_i hi
      refine Eq.trans ?_ (congrArg (IT.den E) (IT.eq_of_beq h).symm)
      exact IT.den_free (t := .var i) hlen (by simpa [IT.free] using hi)
  · exact key _ _ h
theorem okL_spec {Good : Env → Prop} (he : enterL Good I ts E) {p t : IT} {l m : Nat} (hp : p.den (E.upd I.vs (ts.map (IT.den E))) = t.den E) (h : okL I p l m = true) (hm : Lim m (t.den E)) : Lim l (p.den (E.upd I.vs (ts.map (IT.den E)))) := by
  unfold okL at h
  split at h
  · rename_i i
    split at h
    · rw [List.contains_iff_mem] at h
      exact he.2.2 _ h
    · rw [hp]; exact hm.mono (of_decide_eq_true h)
  · rw [hp]; exact hm.mono (of_decide_eq_true h)
theorem okC_spec {Good : Env → Prop} (hts : ts = sigT I σ) (he : enterL Good I ts E) : ∀ {c d : Chunk} {vs : List Value}, okC I σ c d = true → d.holds E w vs → c.holds (E.upd I.vs (ts.map (IT.den E))) w vs ∧ c.size = d.size := by
  intro c d vs h hd
  have hlen : (ts.map (IT.den E)).length = I.vs.length := by rw [hts]; simp [sigT]
  cases c <;> cases d <;> simp only [okC, Bool.false_eq_true, Bool.and_eq_true, beq_iff_eq, decide_eq_true_iff] at h
  · rename_i p t
    refine ⟨?_, rfl⟩
    simp only [Chunk.holds] at hd ⊢
    rw [hd, BT.den_free hlen h.1, BT.den_of_beq E h.2]
  · rename_i k p j t
    obtain ⟨rfl, h⟩ := h
    refine ⟨?_, rfl⟩
    simp only [Chunk.holds] at hd ⊢
    rw [hd, okT_spec hts h]
  · rename_i p l t m
    obtain ⟨x, y, hv, hI, hm⟩ := hd
    have hp := okT_spec (E := E) hts h.1
    exact ⟨⟨x, y, hv, by rw [hp]; exact hI, okL_spec he hp h.2 hm⟩, rfl⟩
  · subst h
    obtain ⟨x, y, hv, hR⟩ := hd
    exact ⟨⟨x, y, hv, hR⟩, rfl⟩
  · rename_i p l t m
    obtain ⟨x, hv, hI, hm⟩ := hd
    have hp := okT_spec (E := E) hts h.1
    exact ⟨⟨x, hv, by rw [hp]; exact hI, okL_spec he hp h.2 hm⟩, rfl⟩
  · subst h
    obtain ⟨x, hv, ao, c, h1, h2, h3, h4⟩ := hd
    exact ⟨⟨x, hv, ao, c, h1, h2, h3, h4⟩, rfl⟩
  · subst h; exact ⟨hd, rfl⟩
  · exact ⟨hd, rfl⟩
  · obtain ⟨h1, h2, h3⟩ := h
    refine ⟨?_, rfl⟩
    obtain ⟨hv, hl⟩ := hd
    rw [← ST.eq_of_beq h2] at hv hl
    exact ⟨by rw [ST.den_free hlen h1]; exact hv, by rw [ST.den_free hlen h1]; exact Nat.le_trans hl h3⟩
theorem okCs_spec {Good : Env → Prop} (hts : ts = sigT I σ) (he : enterL Good I ts E) : ∀ {cs ds : List Chunk} {vs : List Value}, okCs I σ cs ds = true → chunks E w ds vs → chunks (E.upd I.vs (ts.map (IT.den E))) w cs vs
  | [], [], _, _, hd => hd
  | c :: cs, d :: ds, _, h, ⟨l, r, hv, h1, h2⟩ => by
    simp only [okCs, Bool.and_eq_true] at h
    exact ⟨l, r, hv, (okC_spec hts he h.1 h1).1, okCs_spec hts he h.2 h2⟩
  | [], _ :: _, _, h, _ => by simp [okCs] at h
  | _ :: _, [], _, h, _ => by simp [okCs] at h
theorem matchS_spec {Good : Env → Prop} (h : matchS I S = some ts) (he : enterL Good I ts E) (hS : S.holds E n B w0 a w) : I.st.holds (E.upd I.vs (ts.map (IT.den E))) n B w0 a w := by
  unfold matchS at h
  split at h
  · rename_i hok
    injection h with h
    have hts := h.symm
    unfold okS at hok
    rw [Bool.and_eq_true, List.all_eq_true, List.all_eq_true] at hok
    obtain ⟨h1, h2⟩ := hok
    obtain ⟨β, hS⟩ := hS
    have hvar : ∀ x cs, I.st.var x = some cs → ∃ ds, S.var x = some ds ∧ okCs I (colS I S) cs ds = true ∧ sizes cs ≠ 0 := by
      intro x cs hx
      have := h2 _ (lookN_mem hx)
      simp only at this
      split at this
      · rename_i ds hds
        rw [Bool.and_eq_true, Bool.not_eq_true', beq_eq_false_iff_ne] at this
        exact ⟨ds, hds, this⟩
      · cases this
    refine ⟨β, fun t x hx => ?_, fun x cs hx => ?_, fun x y hx hy he => ?_, fun t x off hx => ?_, hS.sz, hS.nd, hS.hp, hS.bl, fun x cs hx => ?_⟩
    · have := h1 _ (lookN_mem hx)
      simp only at this
      split at this
      · rename_i y hy
        have hv := hS.sl t y hy
        cases x with
        | val ag cs =>
          cases y with
          | val bg ds =>
            simp only [okV, Bool.and_eq_true, beq_iff_eq] at this
            obtain ⟨rfl, hc⟩ := this
            cases ag
            · exact ⟨okCs_spec hts he hc hv.1, hv.2⟩
            · obtain ⟨us, hu, hcs⟩ := hv
              exact ⟨us, hu, okCs_spec hts he hc hcs⟩
          | _ => simp [okV] at this
        | ptr z o =>
          cases y with
          | ptr z' o' =>
            simp only [okV, Bool.and_eq_true, beq_iff_eq] at this
            obtain ⟨⟨rfl, rfl⟩, _⟩ := this
            exact hv
          | _ => simp [okV] at this
        | tup l => cases y <;> simp [okV] at this
        | bad =>
          cases y with
          | bad => exact hv
          | _ => simp [okV] at this
      · cases this
    · obtain ⟨ds, hds, hc, _⟩ := hvar x cs hx
      obtain ⟨k1, us, k2, k3⟩ := hS.vr x ds hds
      exact ⟨k1, us, okCs_spec hts he hc k2, k3⟩
    · obtain ⟨cs, hcs⟩ := Option.isSome_iff_exists.1 hx
      obtain ⟨ds, hds⟩ := Option.isSome_iff_exists.1 hy
      obtain ⟨c1, e1, _⟩ := hvar x cs hcs
      obtain ⟨c2, e2, _⟩ := hvar y ds hds
      exact hS.inj x y (by rw [e1]; rfl) (by rw [e2]; rfl) he
    · have := h1 _ (lookN_mem hx)
      simp only at this
      split at this
      · rename_i y hy
        cases y with
        | ptr z' o' =>
          simp only [okV, Bool.and_eq_true] at this
          exact this.2
        | _ => simp [okV] at this
      · cases this
    · exact (hvar x cs hx).choose_spec.2.2
  · cases h
end
inductive LTree where
  | leaf (l : List (Bool × List Chunk))
  | ite (b : BT) (t e : LTree)
  | loop (d : Nat) (I : LInv) (ts : List IT) (T : LTree)
  | again (d : Nat) (ts : List IT)
abbrev Stk := Nat → Option (LInv × LTree)
def Stk.set (K : Stk) (d : Nat) (p : LInv × LTree) : Stk := fun j => if j = d then some p else K j
inductive Run (Good : Env → Prop) : Stk → LTree → Env → Nat → Env → List (Bool × List Chunk) → Prop where
  | leaf {K l E} : Run Good K (.leaf l) E 0 E l
  | iteT {K b t e E m E' l} : b.den E = true → Run Good K t E m E' l → Run Good K (.ite b t e) E m E' l
  | iteF {K b t e E m E' l} : b.den E = false → Run Good K e E m E' l → Run Good K (.ite b t e) E m E' l
  | loop {K d I ts T E m E' l} : enterL Good I ts E → Run Good (K.set d (I, T)) T (E.upd I.vs (ts.map (IT.den E))) m E' l → Run Good K (.loop d I ts T) E m E' l
  | again {K : Stk} {d I ts T E m E' l} : K d = some (I, T) → enterL Good I ts E → Run Good K T (E.upd I.vs (ts.map (IT.den E))) m E' l → Run Good K (.again d ts) E (m + 1) E' l

def regTL (C : Cfg) (n : Nat) (l : List Oper) (drawn : Bool) (k : Asm → St → Option LTree) : Nat → Asm → St → Option LTree
  | 0, _, _ => none
  | f + 1, G, S => match regE C G n l drawn S with
    | some S' => k G S'
    | none => match needE C G n l.toArray l S with
      | some b => match regTL C n l drawn k f ((b, true) :: G) S, regTL C n l drawn k f ((b, false) :: G) S with
        | some t, some e => some (.ite b t e)
        | _, _ => none
      | none => none
def firstId : Code → Option Nat
  | .region id _ _ => some id
  | .seq a b => match firstId a with | some i => some i | none => firstId b
  | .block _ c => firstId c
  | .cond _ a b => match firstId a with | some i => some i | none => firstId b
  | .loop c => firstId c
  | _ => none
def St.fgt (S : St) (d : Nat) : St := ⟨fun t => match S.look t with | some (.ptr x o) => if x = d then none else some (.ptr x o) | y => y, fun x => if x = d then none else S.var x⟩
def dropA : List Oper → St → St
  | [], S => S
  | o :: l, S => dropA l (match o.op, o.dst with | .alloc _, some d => S.fgt d | _, _ => S)
theorem drop_holds {E : Env} {n B : Nat} {w0 : World} {S : St} {a : Act} {w : World} (h : S.holds E n B w0 a w) (d : Nat) : (S.fgt d).holds E n B w0 a w := by
  obtain ⟨β, h⟩ := h
  have hv : ∀ x cs, (S.fgt d).var x = some cs → S.var x = some cs := fun x cs hx => by
    simp only [St.fgt] at hx
    split at hx
    · cases hx
    · exact hx
  have hvs : ∀ x, ((S.fgt d).var x).isSome = true → (S.var x).isSome = true := fun x hx => by
    obtain ⟨cs, hc⟩ := Option.isSome_iff_exists.1 hx
    rw [hv x cs hc]; rfl
  have hl : ∀ t x, (S.fgt d).look t = some x → S.look t = some x ∧ ∀ y o, x = .ptr y o → y ≠ d := fun t x hx => by
    simp only [St.fgt] at hx
    split at hx
    · rename_i y o e
      split at hx
      · cases hx
      · rename_i hne
        injection hx with hx
        subst hx
        exact ⟨e, fun y' o' e' => by injection e' with e1 _; rw [← e1]; exact hne⟩
    · rename_i hno
      refine ⟨hx, fun y o e => ?_⟩
      subst e
      exact absurd hx (hno y o)
  refine ⟨β, fun t x hx => h.sl t x (hl t x hx).1, fun x cs hx => h.vr x cs (hv x cs hx), fun x y hx hy => h.inj x y (hvs x hx) (hvs y hy), fun t x off hx => ?_, h.sz, h.nd, h.hp, h.bl, fun x cs hx => h.nz x cs (hv x cs hx)⟩
  obtain ⟨h1, h2⟩ := hl t _ hx
  have h3 := h.wf t x off h1
  have hne := h2 x off rfl
  show ((if x = d then none else S.var x)).isSome = true
  rw [if_neg hne]
  exact h3
theorem dropA_holds {E : Env} {n B : Nat} {w0 : World} {a : Act} {w : World} : ∀ (l : List Oper) {S : St}, S.holds E n B w0 a w → (dropA l S).holds E n B w0 a w
  | [], _, h => h
  | o :: l, S, h => by
    unfold dropA
    refine dropA_holds l ?_
    split
    · exact drop_holds h _
    · exact h
def execL (C : Cfg) (L : Nat → Option LInv) (n : Nat) : Code → Nat → (Asm → St → Ex → Option LTree) → Asm → St → Option LTree
  | .skip, _, k, G, S => k G S .norm
  | .ret, _, k, G, S => k G S .ret
  | .exit id, _, k, G, S => k G S (.exit id)
  | .region _ ops drawn, _, k, G, S => regTL C n ops.toList drawn (fun G S => k G S .norm) 64 G (dropA ops.toList S)
  | .seq a b, d, k, G, S => execL C L n a d (fun G S e => match e with | .norm => execL C L n b d k G S | e => k G S e) G S
  | .loop c, d, k, _, S => match (firstId c).bind L with
    | some I => match matchS I S with
      | some ts => match execL C L n c (d + 1) (fun G S e => match e with | .norm => (matchS I S).map (.again d) | e => k G S e) I.G I.st with
        | some T => some (.loop d I ts T)
        | none => none
      | none => none
    | none => none
  | .block id c, d, k, G, S => execL C L n c d (fun G S e => match e with | .exit j => if j = id then k G S .norm else k G S (.exit j) | e => k G S e) G S
  | .cond c x y, d, k, G, S => match opnd S.look c with
    | some (.val false [.b tt]) => match tt.ev G with
      | some true => execL C L n x d k G S
      | some false => execL C L n y d k G S
      | none => match tt.ev ((tt.base, true) :: G), tt.ev ((tt.base, false) :: G) with
        | some b1, some b2 =>
          match (if b1 then execL C L n x d k ((tt.base, true) :: G) S else execL C L n y d k ((tt.base, true) :: G) S), (if b2 then execL C L n x d k ((tt.base, false) :: G) S else execL C L n y d k ((tt.base, false) :: G) S) with
          | some t, some e => some (.ite tt.base t e)
          | _, _ => none
        | _, _ => none
    | _ => none
  | _, _, _, _, _ => none

section
variable {P : Program} {n B : Nat} {w0 : World} {C : Cfg} {L : Nat → Option LInv} {Good : Env → Prop} {E' : Env} {l : List (Bool × List Chunk)}
def KOK (Good : Env → Prop) (n B : Nat) (w0 : World) (E' : Env) (l : List (Bool × List Chunk)) (k : Asm → St → Ex → Option LTree) (Q : Exit → Act → World → Prop) (K : Stk) (d m : Nat) : Prop :=
  ∀ (K' : Stk) G S e T E m', m' ≤ m → (∀ j, j < d → K' j = K j) → k G S e = some T → Run Good K' T E m' E' l → G.holds E → Good E → ∀ a w, S.holds E n B w0 a w → Q e.to a w
theorem regTL_sound (hm : P.follows .mixedOrders = true) {E : Env} (hC : CfgAt P E C B w0) {id : Nat} {lo : List Oper} {drawn : Bool} {k : Asm → St → Option LTree} {Q : Exit → Act → World → Prop} {K : Stk} {m : Nat} {w : World} {a : Act} : ∀ (f : Nat) (G : Asm) (S : St) (T : LTree), G.holds E → S.holds E n B w0 a w →
    regTL C n lo drawn k f G S = some T → Run Good K T E m E' l →
    (∀ G' S' T', k G' S' = some T' → G'.holds E → Run Good K T' E m E' l → ∀ a' w', S'.holds E n B w0 a' w' → Q .normal a' w') → (Code.region id lo.toArray drawn).wp P Q a w
  | 0, _, _, _, _, _, h, _, _ => by simp [regTL] at h
  | f + 1, G, S, T, hG, hS, h, hR, hk => by
    unfold regTL at h
    split at h
    · rename_i S' hS'
      exact regE_sound hm hC hG hS hS' (fun a' w' h' => hk G S' T h hG hR a' w' h')
    · split at h
      · rename_i b hb
        split at h
        · rename_i t e ht he
          injection h with h
          subst h
          cases hR with
          | iteT hbv hR => exact regTL_sound hm hC f _ S t (asm_cons hG hbv) hS ht hR hk
          | iteF hbv hR => exact regTL_sound hm hC f _ S e (asm_cons hG hbv) hS he hR hk
        · cases h
      · cases h
theorem execL_sound (hm : P.follows .mixedOrders = true) (hC : ∀ E, Good E → CfgAt P E C B w0) : ∀ (c : Code) (d : Nat) (k : Asm → St → Ex → Option LTree) (Q : Exit → Act → World → Prop) (K : Stk) (G : Asm) (S : St) (T : LTree) (E : Env) (m : Nat) (a : Act) (w : World), G.holds E → Good E → S.holds E n B w0 a w →
    execL C L n c d k G S = some T → Run Good K T E m E' l → KOK Good n B w0 E' l k Q K d m → c.wp P Q a w := by
  intro c
  induction c with
  | skip => intro d k Q K G S T E m a w hG hE hS h hR hk; exact wp_skip (hk K G S .norm T E m (Nat.le_refl _) (fun _ _ => rfl) h hR hG hE a w hS)
  | ret => intro d k Q K G S T E m a w hG hE hS h hR hk; exact wp_ret (hk K G S .ret T E m (Nat.le_refl _) (fun _ _ => rfl) h hR hG hE a w hS)
  | exit id => intro d k Q K G S T E m a w hG hE hS h hR hk; exact wp_exit (hk K G S (.exit id) T E m (Nat.le_refl _) (fun _ _ => rfl) h hR hG hE a w hS)
  | region id ops drawn =>
    intro d k Q K G S T E m a w hG hE hS h hR hk
    have := regTL_sound (id := id) (Q := Q) hm (hC E hE) 64 G _ T hG (dropA_holds _ hS) h hR (fun G' S' T' h1 h2 h3 a' w' h4 => hk K G' S' .norm T' E m (Nat.le_refl _) (fun _ _ => rfl) h1 h3 h2 hE a' w' h4)
    simpa using this
  | seq x y ihx ihy =>
    intro d k Q K G S T E m a w hG hE hS h hR hk
    refine wp_seq (ihx d _ _ K G S T E m a w hG hE hS h hR (fun K' G' S' e T' E1 m' hm' hK' h1 hR' hG' hE' a' w' h4 => ?_))
    cases e with
    | norm => exact ihy d k Q K' G' S' T' E1 m' a' w' hG' hE' h4 h1 hR' (fun K2 G2 S2 e2 T2 E2 m2 j1 j2 j3 j4 j5 j6 => hk K2 G2 S2 e2 T2 E2 m2 (Nat.le_trans j1 hm') (fun j hj => (j2 j hj).trans (hK' j hj)) j3 j4 j5 j6)
    | ret => exact hk K' G' S' .ret T' E1 m' hm' hK' h1 hR' hG' hE' a' w' h4
    | exit id => exact hk K' G' S' (.exit id) T' E1 m' hm' hK' h1 hR' hG' hE' a' w' h4
  | block id c ih =>
    intro d k Q K G S T E m a w hG hE hS h hR hk
    refine wp_block (ih d _ _ K G S T E m a w hG hE hS h hR (fun K' G' S' e T' E1 m' hm' hK' h1 hR' hG' hE' a' w' h4 => ?_))
    cases e with
    | norm => exact hk K' G' S' .norm T' E1 m' hm' hK' h1 hR' hG' hE' a' w' h4
    | ret => exact hk K' G' S' .ret T' E1 m' hm' hK' h1 hR' hG' hE' a' w' h4
    | exit j =>
      simp only at h1
      show (if j = id then Q .normal a' w' else Q (.exit j) a' w')
      by_cases hj : j = id
      · rw [if_pos hj] at h1 ⊢
        exact hk K' G' S' .norm T' E1 m' hm' hK' h1 hR' hG' hE' a' w' h4
      · rw [if_neg hj] at h1 ⊢
        exact hk K' G' S' (.exit j) T' E1 m' hm' hK' h1 hR' hG' hE' a' w' h4
  | loop c ih =>
    intro d k Q K G S T E m a w hG hE hS h hR hk
    simp only [execL] at h
    split at h
    · rename_i I hI
      split at h
      · rename_i ts hts
        split at h
        · rename_i T0 hT0
          injection h with h
          subst h
          cases hR with
          | loop hen hR =>
            have key : ∀ (m0 : Nat), ∀ (K1 : Stk) (E1 : Env) (a : Act) (w : World) (f : Nat), m0 ≤ m → m0 < f → K1 d = some (I, T0) → (∀ j, j < d → K1 j = K j) → I.G.holds E1 → Good E1 → I.st.holds E1 n B w0 a w → Run Good K1 T0 E1 m0 E' l → Code.rounds P c Q f a w := by
              intro m0
              induction m0 using Nat.strongRecOn with
              | ind m0 ihm =>
                intro K1 E1 a w f hm0 hf hKd hKj hG1 hE1 hS1 hR1
                match f, hf with
                | f + 1, hf =>
                  rw [rounds_succ]
                  refine ih (d + 1) _ _ K1 I.G I.st T0 E1 m0 a w hG1 hE1 hS1 hT0 hR1 (fun K' G' S' e T' E2 m' hm' hK' h1 hR' hG' hE' a' w' h4 => ?_)
                  cases e with
                  | norm =>
                    obtain ⟨ts', hts', rfl⟩ := Option.map_eq_some_iff.1 h1
                    cases hR' with
                    | again hd hen' hR2 =>
                      rename_i I2 T2 m2
                      have : K' d = some (I, T0) := (hK' d (by omega)).trans hKd
                      rw [this] at hd
                      injection hd with hd
                      injection hd with e1 e2
                      subst e1 e2
                      exact ihm m2 (by omega) K' _ a' w' f (by omega) (by omega) this (fun j hj => (hK' j (by omega)).trans (hKj j hj)) hen'.1 hen'.2.1 (matchS_spec hts' hen' h4) hR2
                  | ret => exact hk K' G' S' .ret T' E2 m' (by omega) (fun j hj => (hK' j (by omega)).trans (hKj j hj)) h1 hR' hG' hE' a' w' h4
                  | exit id => exact hk K' G' S' (.exit id) T' E2 m' (by omega) (fun j hj => (hK' j (by omega)).trans (hKj j hj)) h1 hR' hG' hE' a' w' h4
            exact wp_loop_rounds (m + 1) (key m _ _ a w (m + 1) (Nat.le_refl _) (by omega) (by simp [Stk.set]) (fun j hj => by simp [Stk.set]; omega) hen.1 hen.2.1 (matchS_spec hts hen hS) hR)
        · cases h
      · cases h
    · cases h
  | cond c x y ihx ihy =>
    intro d k Q K G S T E m a w hG hE hS h hR hk
    simp only [execL] at h
    split at h
    · rename_i tt hc
      obtain ⟨β, hS'⟩ := hS
      have hv := z13q (E := E) (β := β) (w := w) hS'.sl hc
      have hSS : S.holds E n B w0 a w := ⟨β, hS'⟩
      obtain ⟨⟨l1, r1, h1, h2, h3⟩, _⟩ := hv
      simp only [Chunk.holds] at h2
      simp only [chunks] at h3
      subst h2 h3
      injection h1 with h1
      split at h
      · rename_i hev
        rw [BT.ev_spec hG hev] at h1
        exact wp_cond_true h1 (ihx d k Q K G S T E m a w hG hE hSS h hR hk)
      · rename_i hev
        rw [BT.ev_spec hG hev] at h1
        exact wp_cond_false h1 (ihy d k Q K G S T E m a w hG hE hSS h hR hk)
      · split at h
        · rename_i b1 b2 e1 e2
          split at h
          · rename_i t e ht he
            injection h with h
            subst h
            cases hR with
            | iteT hbv hR =>
              have hG2 := asm_cons hG hbv
              rw [BT.ev_spec hG2 e1] at h1
              cases b1 with
              | true => exact wp_cond_true h1 (ihx d k Q K _ S t E m a w hG2 hE hSS ht hR hk)
              | false => exact wp_cond_false h1 (ihy d k Q K _ S t E m a w hG2 hE hSS ht hR hk)
            | iteF hbv hR =>
              have hG2 := asm_cons hG hbv
              rw [BT.ev_spec hG2 e2] at h1
              cases b2 with
              | true => exact wp_cond_true h1 (ihx d k Q K _ S e E m a w hG2 hE hSS he hR hk)
              | false => exact wp_cond_false h1 (ihy d k Q K _ S e E m a w hG2 hE hSS he hR hk)
          · cases h
        · cases h
    · cases h
  | _ => intro d k Q K G S T E m a w hG hE hS h hR hk; simp [execL] at h

def funL (C : Cfg) (L : Nat → Option LInv) (fn : Func) (G : Asm) (args : List AV) : Option LTree :=
  match fn.body with
  | some c => execL C L fn.ntmps c 0 (fun _ S e => match e with
    | .norm => (resE C S fn.results.toList).map .leaf
    | .ret => (resE C S fn.results.toList).map .leaf
    | .exit _ => none) G ⟨fun t => args[t]?, fun _ => none⟩
  | none => none
def noStk : Stk := fun _ => none
theorem loops_sound (hm : P.follows .mixedOrders = true) (hC : ∀ E, Good E → CfgOK P E C) {E : Env} {G : Asm} (hG : G.holds E) (hE : Good E) {f : FuncId} {fn : Func} (hf : P.funcs[f]? = some fn) (h4 : fn.results.toList.length ≤ 4) {args : List AV} {T : LTree} (hT : funL C L fn G args = some T) (hn : args.length ≤ fn.ntmps) (hnp : args.all noPtr = true)
    {m : Nat} (hR : Run Good noStk T E m E' l) (w : World) (vs : List Value) (hl : vs.length = args.length) (hv : ∀ (i : Nat) (x : AV), args[i]? = some x → ∃ β v, vs[i]? = some v ∧ x.holds E β w v) (hwk : ∀ w', Ext w w' → C.wok w' := by intros; exact True.intro) :
    Calls P f vs.toArray w fun e w' => ∃ β v, e = .returned v ∧ (toAV l).holds E' β w' v ∧ Ext w w' := by
  unfold funL at hT
  split at hT
  · rename_i c hb
    refine calls_of_wp hf hb ?_
    refine execL_sound (B := w.heap.size) (w0 := w) (n := fn.ntmps) (E' := E') (l := l) hm (fun E hE => ⟨hC E hE, hwk⟩) c 0 _ _ noStk G _ T E m _ w hG hE ⟨fun _ => 0, ?_⟩ hT hR ?_
    · refine ⟨fun t x hx => ?_, fun x cs h => (by cases h), fun x y h => (by cases h), fun t x off h => ?_, ?_, rfl, Nat.le_refl _, Below.refl _ _, fun x cs h => (by cases h)⟩
      · obtain ⟨β, v, h1, h2⟩ := hv t x hx
        have hlt := (List.getElem?_eq_some_iff.1 h1).1
        have e : (vs.toArray ++ Array.replicate (fn.ntmps - vs.toArray.size) Go.undef).getD t Go.undef = v := by
          rw [Array.getD_eq_getD_getElem?, Array.getElem?_append_left (by simpa using hlt)]
          simp [h1]
        rw [e]
        have hnp' : noPtr x = true := List.all_eq_true.1 hnp x (List.mem_of_getElem? hx)
        cases x with
        | ptr y off => cases hnp'
        | _ => exact h2
      · have hnp' : noPtr (.ptr x off) = true := List.all_eq_true.1 hnp _ (List.mem_of_getElem? h)
        cases hnp'
      · simp; omega
    · intro K' G' S' e T' E1 m' hm' hK' h1 hR' hG' hE' a' w' h4'
      have fin : (resE C S' fn.results.toList).map LTree.leaf = some T' → a'.defers = [] ∧ ∃ v, (results fn a'.tmps).run P w' = .ok v w' ∧ (∃ β v', Ending.returned v = .returned v' ∧ (toAV l).holds E' β w' v' ∧ Ext w w') := by
        intro hh
        obtain ⟨l', hl, rfl⟩ := Option.map_eq_some_iff.1 hh
        cases hR' with
        | leaf =>
          obtain ⟨β, v, r1, r2⟩ := resE_sound (hC _ hE') h4' (fn := fn) (rs := fn.results.toList) (by simp) h4 hl
          obtain ⟨β', hS⟩ := h4'
          exact ⟨hS.nd, v, r1, β, v, rfl, r2, hS.bl⟩
      cases e with
      | norm => exact fin h1
      | ret => exact fin h1
      | exit id => cases h1
  · cases hT
end
end Go.Proofs.YtifeacfljfmnpaaGreat
end

section
set_option maxRecDepth 100000
namespace Go.Proofs.YtifeacfljfmnpaaGreat
open Go.RowKit Go.Shelf
end Go.Proofs.YtifeacfljfmnpaaGreat
end

section
set_option maxRecDepth 100000
namespace Go.Proofs.YtifeacfljfmnpaaGreat
open Go.RowKit
def dv (l : List UInt8) : Nat := l.foldl (fun v c => v * 10 + (c.toNat - 48)) 0
end Go.Proofs.YtifeacfljfmnpaaGreat
end

section
set_option maxRecDepth 100000
namespace Go.Proofs.YtifeacfljfmnpaaGreat
open Go.RowKit Go.Shelf
end Go.Proofs.YtifeacfljfmnpaaGreat
end

section
set_option maxRecDepth 100000
namespace Go.Proofs.YtifeacfljfmnpaaGreat
open Go.RowKit Go.Shelf
end Go.Proofs.YtifeacfljfmnpaaGreat
end

section
set_option maxRecDepth 100000
namespace Go.Proofs.YtifeacfljfmnpaaGreat
open Go.RowKit Go.Shelf
def coB (n d : Int) : Bool := decide (0 < d) && ((Nat.gcd n.natAbs d.natAbs : Nat) : Int) == 1
end Go.Proofs.YtifeacfljfmnpaaGreat
end

section
set_option maxRecDepth 100000
namespace Go.Proofs.YtifeacfljfmnpaaGreat
open Go.RowKit Go.Shelf
def kFmt : Con
  | [.val true [.int x l]], _ => if decide (l ≤ 100000) then some (.val false [.str (.fmt x) (9 * l + 2)]) else none
  | _, _ => none
def dgC (z : Int) : List UInt8 := (if z < 0 then [45] else []) ++ [UInt8.ofNat (48 + z.natAbs)]
def fmtC (n d : Int) : List UInt8 := if d == 1 then dgC n else dgC n ++ [47] ++ dgC d
def kFmtL : Con
  | [.val true [.int x l, .int y m]], _ => match x.cl, y.cl with
    | some n, some d => if decide (n.natAbs < 10) && (decide (d.natAbs < 10) && (decide (l ≤ 100000) && decide (m ≤ 100000))) then some (.val false [.str (.lit (fmtC n d)) (fmtC n d).length]) else none
    | _, _ => none
  | _, _ => none
def llen (z : Int) : Nat := (limbs z.natAbs).length
def sqN (n d : Int) (z : Int) : Int := if sqB n && sqB d then isq z else 0
def tSq : Tree := .ite (.and (.eq (.a1 3 (.var 0)) (.lit 0)) (.eq (.a2 3 (.a2 2 (.a1 2 (.var 0)) (.a1 2 (.var 0))) (.var 0)) (.lit 0)))
  (.ite (.and (.eq (.a1 3 (.var 1)) (.lit 0)) (.eq (.a2 3 (.a2 2 (.a1 2 (.var 1)) (.a1 2 (.var 1))) (.var 1)) (.lit 0))) (.leaf [(true, [.int (.a1 2 (.var 0)) 100000, .int (.a1 2 (.var 1)) 100000]), (false, [.b (.lit true)])])
    (.leaf [(true, [.int (.lit 0) 0, .int (.lit 0) 0]), (false, [.b (.lit false)])]))
  (.leaf [(true, [.int (.lit 0) 0, .int (.lit 0) 0]), (false, [.b (.lit false)])])
def RetSqQ (n d : Int) (w : World) (e : Ending) (w' : World) : Prop := ∃ v, e = .returned (.tuple #[v, .bool (sqB n && sqB d)]) ∧ IsPair w' v (sqN n d n) (sqN n d d) ∧ Ext w w'
theorem open_qb {E : Env} {β : Nat → Nat} {w : World} {v : Value} {x y : IT} {k m : Nat} {t : BT} (hx : (AV.tup [(true, [.int x k, .int y m]), (false, [.b t])]).holds E β w v) : ∃ p, v = .tuple #[p, .bool (t.den E)] ∧ IsPair w p (x.den E) (y.den E) := by
  obtain ⟨vs, rfl, u1, r1, rfl, k1, u2, r2, rfl, k2, hn⟩ := hx
  simp only [tupAll] at hn
  subst hn
  have k2' := z11q.1 k2
  subst k2'
  exact ⟨u1, rfl, (one_pair.1 k1).1⟩
theorem sqrtQ_calls (w : World) (v : Value) (n d : Int) (h : IsPair w v n d) (l1 : Lim 100000 n) (l2 : Lim 100000 d) : Calls Tryz.prog 125 #[v] w (RetSqQ n d w) := by
  refine (z5q (C := cfgOf tabSqr) (E := zE [n, d]) (args := [argQ 0]) (T := tSq)
    mixed (cfg_ok tabSqr_ok) z8q Tryz.func125 (by decide +kernel) (by kernel_rfl) (by decide +kernel) rfl w [v] rfl ?_).mono ?_
  · intro i x hx
    match i, hx with
    | 0, hx => injection hx with hx; subst hx; exact ⟨fun _ => 0, v, rfl, argP_holds h l1 l2 rfl rfl⟩
  · rintro e w' ⟨β, u, rfl, hh, ex⟩
    have d0 : (BT.and (.eq (.a1 3 (.var 0)) (.lit 0)) (.eq (.a2 3 (.a2 2 (.a1 2 (.var 0)) (.a1 2 (.var 0))) (.var 0)) (.lit 0))).den (zE [n, d]) = sqB n := rfl
    have d1 : (BT.and (.eq (.a1 3 (.var 1)) (.lit 0)) (.eq (.a2 3 (.a2 2 (.a1 2 (.var 1)) (.a1 2 (.var 1))) (.var 1)) (.lit 0))).den (zE [n, d]) = sqB d := rfl
    unfold tSq at hh
    simp only [Tree.pick, d0, d1] at hh
    unfold RetSqQ sqN
    cases h0 : sqB n <;> cases h1 : sqB d <;> rw [h0, h1] at hh
    · obtain ⟨p, rfl, hp⟩ := open_qb hh
      exact ⟨p, rfl, hp, ex⟩
    · obtain ⟨p, rfl, hp⟩ := open_qb hh
      exact ⟨p, rfl, hp, ex⟩
    · obtain ⟨p, rfl, hp⟩ := open_qb hh
      exact ⟨p, rfl, hp, ex⟩
    · obtain ⟨p, rfl, hp⟩ := open_qb hh
      exact ⟨p, rfl, hp, ex⟩
def kSqrtL : Con
  | [.val true [.int (.lit n) l, .int (.lit d) m]], _ => if decide (l ≤ 100000) && decide (m ≤ 100000) then
      some (.tup [(true, [.int (.lit (sqN n d n)) (llen (sqN n d n)), .int (.lit (sqN n d d)) (llen (sqN n d d))]), (false, [.b (.lit (sqB n && sqB d))])]) else none
  | _, _ => none
theorem kSqrtL_ok {E : Env} : ConOK Tryz.prog E 125 kSqrtL := by
  refine ⟨?_, ?_, ⟨_, Tryz.func125, by decide +kernel, by kernel_rfl⟩⟩
  · intro args As r h hG β w vs hv hlen
    unfold kSqrtL at h
    split at h
    · split at h
      · rename_i hm
        simp only [Bool.and_eq_true, decide_eq_true_iff] at hm
        injection h with h
        subst h
        obtain ⟨v, rfl, h1⟩ := args1 hv hlen
        obtain ⟨p1, a1, a2⟩ := one_pair.1 h1
        refine (sqrtQ_calls w v _ _ p1 (a1.mono hm.1) (a2.mono hm.2)).mono ?_
        rintro e w' ⟨u, rfl, hp, ex⟩
        exact ⟨_, rfl, ⟨[u, .bool _], rfl, u, _, rfl, one_pair.2 ⟨hp, Nat.le_refl _, Nat.le_refl _⟩, _, _, rfl, z11q.2 rfl, rfl⟩, ex⟩
      · cases h
    · cases h
  · intro args As r h x off
    unfold kSqrtL at h
    split at h
    · split at h
      · injection h with h; subst h; intro e; cases e
      · cases h
    · cases h
def kFlQ : Con
  | [.val true [.int x l, .int y m]], _ => if canon x y && (ql l && ql m) then some (.val true [.int (.a2 4 x y) l]) else none
  | _, _ => none
theorem kFlQ_ok {E : Env} (hE : QEnv E) : ConOK Tryz.prog E 209 kFlQ := by
  refine ⟨?_, ?_, ⟨_, Tryz.func209, by decide +kernel, by kernel_rfl⟩⟩
  · intro args As r h hG β w vs hv hlen
    unfold kFlQ at h
    split at h
    · split at h
      · rename_i hm
        simp only [ql, Bool.and_eq_true, decide_eq_true_iff] at hm
        obtain ⟨c1, b1, b2⟩ := hm
        injection h with h
        subst h
        obtain ⟨v, rfl, h1⟩ := args1 hv hlen
        obtain ⟨q, _, e1, e2, hq, m1, m2⟩ := one_ratQ hE c1 h1
        refine (floor_rat_calls w v q hq ⟨m1.mono b1, m2.mono b2⟩).mono ?_
        rintro e w' ⟨u, rfl, hI, ex⟩
        refine ⟨_, rfl, z10q.2 ⟨?_, ?_⟩, ex⟩
        · show IsInt w' u (dq _ _)
          rw [e1, e2]; exact hI
        · show Lim _ (dq _ _)
          rw [e1, e2]; exact m1.natAbs_le (dq_abs _ _)
      · cases h
    · cases h
  · intro args As r h x off
    unfold kFlQ at h
    split at h
    · split at h
      · injection h with h; subst h; intro e; cases e
      · cases h
    · cases h
end Go.Proofs.YtifeacfljfmnpaaGreat
end

section
set_option maxRecDepth 100000
namespace Go.Proofs.YtifeacfljfmnpaaGreat
open Go.RowKit
def sgQ (q : Rat) : Int := cmpZ q.num 0
theorem num_pos_iff (q : Rat) : 0 < q.num ↔ 0 < q := by
  have h1 : 0 ≤ q.num ↔ 0 ≤ q := Rat.num_nonneg
  have h2 : q.num = 0 ↔ q = 0 := Rat.num_eq_zero
  constructor
  · intro h
    have a := h1.1 (by omega)
    have b : q ≠ 0 := fun e => by have := h2.2 e; omega
    grind
  · intro h
    have a := h1.2 (by grind)
    have b : q.num ≠ 0 := fun e => by have := h2.1 e; grind
    omega
theorem sgQ_cases (q : Rat) : (q < 0 ∧ sgQ q = -1) ∨ (q = 0 ∧ sgQ q = 0) ∨ (0 < q ∧ sgQ q = 1) := by
  have h1 := num_pos_iff q
  have h2 : q.num = 0 ↔ q = 0 := Rat.num_eq_zero
  unfold sgQ
  rcases z2q q.num 0 with ⟨h, e⟩ | ⟨h, e⟩ | ⟨h, e⟩
  · refine .inl ⟨?_, e⟩
    have a : ¬ 0 < q := fun k => by have := h1.2 k; omega
    have b : q ≠ 0 := fun k => by have := h2.2 k; omega
    grind
  · exact .inr (.inl ⟨h2.1 h, e⟩)
  · exact .inr (.inr ⟨h1.1 h, e⟩)
theorem sgQ_pos {q : Rat} (h : 0 < q) : sgQ q = 1 := by rcases sgQ_cases q with ⟨k, e⟩ | ⟨k, e⟩ | ⟨k, e⟩ <;> grind
theorem sgQ_neg' {q : Rat} (h : q < 0) : sgQ q = -1 := by rcases sgQ_cases q with ⟨k, e⟩ | ⟨k, e⟩ | ⟨k, e⟩ <;> grind
theorem sgQ_opp (q : Rat) : sgQ (-q) = - sgQ q := by
  rcases sgQ_cases q with ⟨k, e⟩ | ⟨k, e⟩ | ⟨k, e⟩
  · rw [e, sgQ_pos (by grind)]; rfl
  · rw [e, k]; rfl
  · rw [e, sgQ_neg' (by grind)]
theorem sgQ_mul (a b : Rat) : sgQ (a * b) = sgQ a * sgQ b := by
  rcases sgQ_cases a with ⟨k, e⟩ | ⟨k, e⟩ | ⟨k, e⟩ <;> rcases sgQ_cases b with ⟨j, f⟩ | ⟨j, f⟩ | ⟨j, f⟩ <;> rw [e, f]
  · have := Rat.mul_pos (a := -a) (b := -b) (by grind) (by grind)
    rw [sgQ_pos (by grind)]; rfl
  · rw [j, Rat.mul_zero]; rfl
  · have := Rat.mul_pos (a := -a) (b := b) (by grind) (by grind)
    rw [sgQ_neg' (by grind)]; rfl
  · rw [k, Rat.zero_mul]; rfl
  · rw [k, Rat.zero_mul]; rfl
  · rw [k, Rat.zero_mul]; rfl
  · have := Rat.mul_pos (a := a) (b := -b) (by grind) (by grind)
    rw [sgQ_neg' (by grind)]; rfl
  · rw [j, Rat.mul_zero]; rfl
  · rw [sgQ_pos (Rat.mul_pos k j)]; rfl
theorem cmpQ_sub (a b : Rat) : cmpZ (a.num * (b.den : Int)) (b.num * (a.den : Int)) = sgQ (a - b) := by
  have h1 := Rat.lt_iff a b
  have h2 := Rat.lt_iff b a
  rcases z2q (a.num * (b.den : Int)) (b.num * (a.den : Int)) with ⟨h, e⟩ | ⟨h, e⟩ | ⟨h, e⟩
  · have := h1.2 h
    rw [e, sgQ_neg' (by grind)]
  · have k1 : ¬ a < b := fun k => by have := h1.1 k; omega
    have k2 : ¬ b < a := fun k => by have := h2.1 k; omega
    have : a - b = 0 := by grind
    rw [e, this]; rfl
  · have := h2.2 h
    rw [e, sgQ_pos (by grind)]
def qcmp (p q : IT2) : IT := .a2 3 (.a2 2 p.1 q.2) (.a2 2 q.1 p.2)
theorem rep_cmp {E : Env} {p q : IT2} {a b : Rat} (hp : RepQ E p a) (hq : RepQ E q b) : (qcmp p q).den E = sgQ (a - b) := by
  show cmpZ (p.1.den E * q.2.den E) (q.1.den E * p.2.den E) = _
  rw [hp.1, hp.2, hq.1, hq.2, cmpQ_sub]
end Go.Proofs.YtifeacfljfmnpaaGreat
end

section
set_option maxRecDepth 100000
namespace Go.Proofs.YtifeacfljfmnpaaGreat
open Go.RowKit
theorem run_append_own_limbs (w : World) (B : Nat) (hB : B ≤ w.heap.size) (ty : TypeId) (v : Value) (zs : List Nat) (lz : zs.length ≤ 1099511627776) (hz : 0 < zs.length) (hown : w.ownsRow B 149 1 v zs.length (zs.map fun x => Value.int .u32 ((x : Nat) : Int))) (b : Nat) (xs : List Nat) (c : Nat) (lx : xs.length ≤ 1099511627776)
    (h : ∀ i, i < xs.length → w.cell? ⟨b, i, none⟩ = some (.int .u32 ((xs.getD i 0 : Nat) : Int))) :
    ∃ ao' cap w1, (Builtin.append_ #[22, 22] ty #[v, .slice (some ⟨b, 0, none⟩) xs.length c]).run Tryz.prog w = .ok (.slice ao' (zs.length + xs.length) cap) w1 ∧
      zs.length + xs.length ≤ cap ∧ cap ≤ 9223372036854775807 ∧ Below B w w1 ∧ Cells w1 ao' (zs ++ xs) := by
  obtain ⟨i0, hi, hz0, hz1, hz2⟩ := info_parts info_u32
  have hnews : ∀ j u, (xs.map fun x => Value.int .u32 ((x : Nat) : Int))[j]? = some u → w.cell? ((⟨b, 0, none⟩ : Addr).add j) = some u := by
    intro j u hu
    rw [List.getElem?_map] at hu
    obtain ⟨x, hx1, rfl⟩ := Option.map_eq_some_iff.1 hu
    have hj : j < xs.length := (List.getElem?_eq_some_iff.1 hx1).1
    have := h j hj
    rw [List.getD_eq_getElem?_getD, hx1] at this
    by_cases h0 : j = 0
    · subst h0; simpa [Addr.add] using this
    · simpa [Addr.add, h0] using this
  obtain ⟨v', w1, hrun, hown1, hgrow, hnil⟩ := run_append_own (P := Tryz.prog) w B 22 ty 149 i0 (.int .u32 0) 1 4 Tryz.underlying22 hi hz0 hz1 hz2 rfl (by decide) _ _ _ hown ⟨b, 0, none⟩ xs.length c (xs.map fun x => Value.int .u32 ((x : Nat) : Int)) (by simp) hnews
    (by intro u hu; obtain ⟨x, _, rfl⟩ := List.mem_map.1 hu; rfl) (by unfold maxLen; omega) (by omega) hB
  rw [← List.map_append, ← List.length_append] at hown1
  have hE : Below B w w1 := Below.grown (Below.refl _ _) hgrow hB (fun k hk => (hown.lt k hk).1)
  rcases hown1.2 with ⟨rfl, h0⟩ | ⟨g, cap, cur, rfl, hg, _, hnc, hcm, _, _⟩
  · exfalso
    rw [List.length_append] at h0
    omega
  · rw [List.length_append] at hnc
    exact ⟨_, cap, w1, by rw [hrun, List.length_append], hnc, by unfold maxLen at hcm; omega, hE, (Blk.of_owns hown1).cells⟩

def sqI : LInv where
  lk := [(1, .ptr 1 0), (2, .ptr 2 0), (4, .ptr 4 0), (5, .ptr 5 0)]
  vr := [(1, [.int (.var 0) 100000]), (2, [.int (.lit 0) 0]), (4, [.int (.var 1) 100001]), (5, [.int (.lit 2) 3])]
  vs := [1]
  G := []
  lm := [(1, 100001)]
def sqNext : IT := .a2 4 (.a2 0 (.var 1) (.a2 4 (.var 0) (.var 1))) (.lit 2)
def sqLeaf : List (Bool × List Chunk) := [(true, [.int (.var 1) 100001]), (false, [.n .i64 (.lit 0)])]
def sqTree : LTree := .ite (.le (.lit 0) (.a2 3 sqNext (.var 1))) (.leaf sqLeaf) (.again 0 [sqNext])
def tabRsq : List (Nat × Con) := [(164, kDM), (100, kII (.a2 0) (fun l m => max l m + 1)), (95, kIIn (.a2 3))]
theorem tabRsq_ok {E : Env} : TabOK Tryz.prog E tabRsq :=
  .cons (kDMg_ok (fun w v u a b h k l1 l2 => rdivMod_fn w v u a b h k l1 l2) ⟨_, Tryz.func164, by decide +kernel, by kernel_rfl⟩)
    (.cons (tabR1_ok.all (100, kII (.a2 0) (fun l m => max l m + 1)) (by simp [tabR1]))
      (.cons (kIIn_ok cmpZ (fun _ _ => rfl) (fun w v1 v2 z1 z2 h1 h2 => rcmp_calls w v1 v2 z1 z2 h1 h2) ⟨_, Tryz.func95, by decide +kernel, by kernel_rfl⟩) .nil))

theorem VarAt.new {E : Env} {w : World} {cs : List Chunk} {vs : List Value} {t : TypeId} (h : chunks E w cs vs) : VarAt E (w.alloc (.cells vs.toArray t)) w.heap.size cs := by
  have hk := Kp.of (B := w.heap.size) ((Ext.refl w).alloc (.cells vs.toArray t)) (Nat.le_refl _)
  have hh : (w.alloc (.cells vs.toArray t)).heap[w.heap.size]? = some (.cells vs.toArray t (0, 0)) := heap_alloc_new w _
  refine ⟨vs, chunks_keep hk h, fun i v hi => ⟨?_, ?_⟩⟩
  · simp only [World.cell?, hh]
    simpa using hi
  · simp only [World.frozen?, hh]
    simp
theorem chunks_int {E : Env} {w : World} {x y : Value} {t : IT} {l : Nat} {z : Int} (h : IsInt w (.agg #[x, y]) z) (hz : t.den E = z) (hl : Lim l z) : chunks E w [.int t l] [x, y] :=
  ⟨[x, y], [], rfl, ⟨x, y, rfl, by rw [hz]; exact h, by rw [hz]; exact hl⟩, rfl⟩
theorem sq_run (n : Nat) (hn : 0 < n) : ∀ (x : Nat), 0 < x → n < (x + 1) * (x + 1) → Lim 100001 (x : Int) → ∃ m E', Run (fun _ => True) (noStk.set 0 (sqI, sqTree)) sqTree ((zE [(n : Int), 0]).upd [1] [(x : Int)]) m E' sqLeaf ∧ E'.i 1 = (isqN n : Int) := by
  intro x
  induction x using Nat.strongRecOn with
  | ind x ih =>
    intro hx hu hl
    have hq : dq (n : Int) (x : Int) = ((n / x : Nat) : Int) := by rw [dq_pos (by omega)]; exact (Int.natCast_ediv n x).symm
    have hy : sqNext.den ((zE [(n : Int), 0]).upd [1] [(x : Int)]) = (((x + n / x) / 2 : Nat) : Int) := by
      show dq ((x : Int) + dq (n : Int) (x : Int)) 2 = _
      rw [hq, dq_pos (by omega)]
      omega
    have hc : (IT.a2 3 sqNext (.var 1)).den ((zE [(n : Int), 0]).upd [1] [(x : Int)]) = cmpZ (((x + n / x) / 2 : Nat) : Int) (x : Int) := by
      show cmpZ (sqNext.den _) (x : Int) = _
      rw [hy]
    by_cases hge : x ≤ (x + n / x) / 2
    · refine ⟨0, _, .iteT ?_ .leaf, ?_⟩
      · show decide ((0 : Int) ≤ (IT.a2 3 sqNext (.var 1)).den _) = true
        rw [hc, decide_eq_true_iff]
        rcases z2q (((x + n / x) / 2 : Nat) : Int) (x : Int) with ⟨h, e⟩ | ⟨h, e⟩ | ⟨h, e⟩ <;> omega
      · show (x : Int) = _
        rw [isqN_spec_eq (newton_stop hx hu hge)]
    · have hp := newton_pos hx hn
      have hnx := newton_next (n := n) hx
      obtain ⟨m, E', hR, hE⟩ := ih _ (by omega) hp hnx (hl.natAbs_le (by omega))
      refine ⟨m + 1, E', .iteF ?_ (.again (I := sqI) (T := sqTree) (by simp [Stk.set]) ⟨z8q, trivial, ?_⟩ ?_), hE⟩
      · show decide ((0 : Int) ≤ (IT.a2 3 sqNext (.var 1)).den _) = false
        rw [hc, decide_eq_false_iff_not]
        rcases z2q (((x + n / x) / 2 : Nat) : Int) (x : Int) with ⟨h, e⟩ | ⟨h, e⟩ | ⟨h, e⟩ <;> omega
      · intro p hp
        simp only [sqI, List.mem_cons, List.not_mem_nil, or_false] at hp
        subst hp
        show Lim 100001 (sqNext.den _)
        rw [hy]
        exact hl.natAbs_le (by omega)
      · have : Env.upd ((zE [(n : Int), 0]).upd [1] [(x : Int)]) sqI.vs ([sqNext].map (IT.den ((zE [(n : Int), 0]).upd [1] [(x : Int)]))) = (zE [(n : Int), 0]).upd [1] [(((x + n / x) / 2 : Nat) : Int)] := by
          simp only [List.map_cons, List.map_nil, hy]
          unfold Env.upd
          congr 1
          funext k
          simp only [sqI, updI]
          by_cases hk : k = 1
          · simp [hk]
          · simp [hk]
        rw [this]
        exact hR

set_option maxRecDepth 100000 in
set_option maxHeartbeats 1600000 in
theorem rsqrt_pos (w : World) (v : Value) (z : Int) (h : IsInt w v z) (l : Lim 100000 z) (hz : 0 < z) : Calls Tryz.prog 101 #[v] w (RetSqA z w) := by
  obtain ⟨ao, cap, s, n, rfl, h1, h2, h3, H4, H5, H6⟩ := h.open_
  obtain ⟨W, hW, eW, c0, c1, r0, r1, f0, f1⟩ := boxes1r w (.bool s) (.slice ao (limbs n).length cap) 24
  have hs : s = false := by
    cases s
    · rfl
    · have h5 := H5.out; have h6 := H6.out rfl; simp only [sgn, if_true] at h5; omega
  subst hs
  have hz2 : z = (n : Int) := H5.out
  have hl0 : 0 < (limbs n).length := limbs_pos (by omega)
  have l' := l
  unfold Lim at l'
  rw [← H4.out] at l'
  subst hz2
  obtain ⟨K, hK⟩ : ∃ K, K = ((limbs n).length + 1) / 2 := ⟨_, rfl⟩
  have hKI : (((limbs n).length : Int) + 1).tdiv 2 = (K : Int) := by rw [Int.tdiv_eq_ediv_of_nonneg (by omega)]; omega
  have hmk := run_mk K (by omega) ↑K rfl
  have hKb : K ≤ 100000 := by omega
  have hWs : W.heap.size = w.heap.size + 2 := by rw [← hW]; simp
  have HI := Lib.hid (show IsInt W (.agg #[.bool false, .slice ao (limbs n).length cap]) (n : Int) from h.ext eW)
  -- the zeros, the one, and what the append leaves
  have hown : ((W.alloc (.cells (u32s (List.replicate K 0)) 149)).alloc (.cells #[.int .u32 1] 149)).ownsRow W.heap.size 149 1 (.slice (some ⟨W.heap.size, 0, none⟩) K K) (List.replicate K 0).length ((List.replicate K 0).map fun x => Value.int .u32 ((x : Nat) : Int)) := by
    have h0 : (W.alloc (.cells (u32s (List.replicate K 0)) 149)).ownsRow W.heap.size 149 1 (.slice (some ⟨W.heap.size, 0, none⟩) K K) K ((List.replicate K 0).map fun x => Value.int .u32 ((x : Nat) : Int)) :=
      ⟨by simp, .inr ⟨W.heap.size, K, u32s (List.replicate K 0), rfl, by omega, heap_alloc_new W _, Nat.le_refl _, by unfold maxLen; omega, by simp [u32s], by rw [Nat.mul_one]; simp only [u32s]; exact List.take_of_length_le (by simp)⟩⟩
    have := h0.alloc (.cells #[.int .u32 1] 149)
    rwa [List.length_replicate]
  obtain ⟨a3, c3, w3, hrun, k1, k2, hB3, k3⟩ := run_append_own_limbs _ W.heap.size (by simp; omega) 22 _ (List.replicate K 0) (by simp; omega) (by simp; omega) hown (W.heap.size + 1) [1] 1 (by simp) (fun i hi => by
    have : i = 0 := by simpa using hi
    subst this
    simp)
  rw [List.length_replicate, show [1].length = 1 from rfl] at hrun k1
  obtain ⟨x0, hx0⟩ : ∃ x0, x0 = 1000000000 ^ K := ⟨_, rfl⟩
  have hsh := limbs_shift K 1 (by omega)
  rw [Nat.mul_one, ← hx0, limbs_of_one] at hsh
  rw [← hsh] at k3
  have hxl : K + 1 = (limbs x0).length := by rw [hsh]; simp
  have HX : Hid (IsInt w3 (.agg #[.bool false, .slice a3 (K + 1) c3]) (x0 : Int)) := by
    rw [hxl]
    exact ⟨a3, c3, by simp, by rw [Int.natAbs_natCast, ← hxl]; exact k1, k2, by rw [Int.natAbs_natCast]; exact k3⟩
  have e3 : Ext W w3 := by
    refine Below.trans ?_ hB3
    exact ((Ext.refl W).alloc _).alloc _
  have V1 : Hid (VarAt (zE [(n : Int), (x0 : Int)]) W w.heap.size [.int (.var 0) 100000]) := by
    unfold Hid
    rw [← hW]
    refine VarAt.ext (w := w.alloc (.cells #[.bool false, .slice ao (limbs n).length cap] 24)) ?_ ((Ext.refl _).alloc _)
    exact VarAt.new (vs := [_, _]) (chunks_int h rfl l)
  have V2 : Hid (VarAt (zE [(n : Int), (x0 : Int)]) W (w.heap.size + 1) [.int (.lit 0) 0]) := by
    unfold Hid
    rw [← hW]
    have := VarAt.new (E := zE [(n : Int), (x0 : Int)]) (w := w.alloc (.cells #[.bool false, .slice ao (limbs n).length cap] 24)) (vs := [_, _]) (t := 24) (chunks_int (t := .lit 0) (l := 0) (isInt_zero _) rfl lim_zero)
    rwa [World.size_alloc] at this
  have HL3 : Hid (Lim 100001 (x0 : Int)) := by unfold Hid Lim; rw [Int.natAbs_natCast, ← hxl]; omega
  have HRUN := Lib.hid hrun
  have HK := Lib.hid hK
  have Hx0 := Lib.hid hx0
  clear hK H4 H5 H6 h hrun hown hx0 hsh k1 k2 k3 hxl hB3
  go_enter Tryz.func101, Tryz.ntmps101
  have hWs2 := Lib.hid hWs
  clear hWs
  go_wp2_with (at_builtin; refine wpList_append_run' rfl _ _ 22 rfl rfl rfl HRUN.out ?_)
  obtain ⟨w4, hw4⟩ : ∃ w4, w4 = w3.alloc (.cells #[.bool false, .slice a3 (K + 1) c3] 24) := ⟨_, rfl⟩
  rw [← hw4]
  refine (rfromInt64_calls w4 2 (by decide) (by decide)).mono ?_
  rintro e w5 ⟨v5, rfl, hI5, e5⟩
  obtain ⟨ao5, cap5, s5, n5, rfl, _⟩ := IsInt.open_ hI5
  have HI5 := Lib.hid hI5
  clear hI5
  go_wp2_with fail
  have hx0p : 0 < x0 := by rw [Hx0.out]; exact Nat.pow_pos (by omega)
  have hnx : n < (x0 + 1) * (x0 + 1) := by
    refine lt_next_sq ?_
    rw [Hx0.out, ← Nat.pow_add]
    exact Nat.lt_of_lt_of_le (z4q (Nat.le_refl _)) (Nat.pow_le_pow_right (by omega) (by have := HK.out; omega))
  obtain ⟨m, E', hR, hE⟩ := sq_run n (by omega) x0 hx0p hnx HL3.out
  have hup : (zE [(n : Int), (x0 : Int)]).upd sqI.vs ([IT.var 1].map (IT.den (zE [(n : Int), (x0 : Int)]))) = (zE [(n : Int), 0]).upd [1] [(x0 : Int)] := by
    unfold Env.upd
    congr 1
    funext k
    show (if k = 1 then some (x0 : Int) else none).getD (([(n : Int), (x0 : Int)]).getD k 0) = (if k = 1 then some (x0 : Int) else none).getD (([(n : Int), 0]).getD k 0)
    by_cases hk : k = 1
    · rw [if_pos hk]; rfl
    · rw [if_neg hk]
      match k, hk with
      | 0, _ => rfl
      | k + 2, _ => rfl
  have e35 : Ext w3 w5 := by
    have := (Ext.refl w3).alloc (.cells #[.bool false, .slice a3 (K + 1) c3] 24)
    rw [← hw4] at this
    exact this.trans e5
  have e6 := (Ext.refl w5).alloc (.cells #[.bool s5, .slice ao5 (limbs n5).length cap5] 24)
  have V4 : VarAt (zE [(n : Int), (x0 : Int)]) w4 w3.heap.size [.int (.var 1) 100001] := by
    rw [hw4]
    exact VarAt.new (vs := [_, _]) (chunks_int HX.out rfl HL3.out)
  have V5 := VarAt.new (E := zE [(n : Int), (x0 : Int)]) (vs := [_, _]) (t := 24) (chunks_int (t := .lit 2) (l := 3) HI5.out rfl (lim3 (by decide) (by decide)))
  have sz3 := e3.size
  have sz35 := e35.size
  have sz4 : w4.heap.size = w3.heap.size + 1 := by rw [hw4]; simp
  have sz5 := e5.size
  have hs2 := hWs2.out
  refine execL_sound (Good := fun _ => True) (C := cfgOf tabRsq) (L := fun _ => some sqI) (w0 := w) (B := w.heap.size) (n := Tryz.f101.ntmps) (l := sqLeaf) (E' := E') mixed (fun _ _ => ⟨cfg_ok tabRsq_ok, fun _ _ => True.intro⟩) _ 0 (fun _ S e => match e with | .ret => (resE (cfgOf tabRsq) S Tryz.f101.results.toList).map .leaf | _ => none) _ noStk [] ⟨lookN sqI.lk, lookN sqI.vr⟩ (.loop 0 sqI [.var 1] sqTree) (zE [(n : Int), (x0 : Int)]) m _ _ z8q trivial ?_ (by kernel_rfl) (.loop ⟨z8q, trivial, ?_⟩ (by rw [hup]; exact hR)) ?_
  · have hz2 : ∀ t x, lookN sqI.lk t = some x → t = 1 ∧ x = .ptr 1 0 ∨ t = 2 ∧ x = .ptr 2 0 ∨ t = 4 ∧ x = .ptr 4 0 ∨ t = 5 ∧ x = .ptr 5 0 := by
      intro t x hx
      have := lookN_mem hx
      simpa [sqI] using this
    have hz3 : ∀ t x, lookN sqI.vr t = some x → t = 1 ∧ x = [.int (.var 0) 100000] ∨ t = 2 ∧ x = [.int (.lit 0) 0] ∨ t = 4 ∧ x = [.int (.var 1) 100001] ∨ t = 5 ∧ x = [.int (.lit 2) 3] := by
      intro t x hx
      have := lookN_mem hx
      simpa [sqI] using this
    refine ⟨fun t => if t = 1 then w.heap.size else if t = 2 then w.heap.size + 1 else if t = 4 then w3.heap.size else w5.heap.size, ⟨?_, ?_, ?_, ?_, by kernel_rfl, rfl, ?_, ?_, ?_⟩⟩
    · intro t x hx
      rcases hz2 t x hx with ⟨rfl, rfl⟩ | ⟨rfl, rfl⟩ | ⟨rfl, rfl⟩ | ⟨rfl, rfl⟩ <;> rfl
    · intro t x hx
      rcases hz3 t x hx with ⟨rfl, rfl⟩ | ⟨rfl, rfl⟩ | ⟨rfl, rfl⟩ | ⟨rfl, rfl⟩
      · exact ⟨fun _ => Nat.le_refl _, (V1.out.ext (e3.trans e35)).ext e6⟩
      · exact ⟨fun _ => by show w.heap.size ≤ w.heap.size + 1; omega, (V2.out.ext (e3.trans e35)).ext e6⟩
      · exact ⟨fun _ => by show w.heap.size ≤ w3.heap.size; omega, (V4.ext e5).ext e6⟩
      · exact ⟨fun _ => by show w.heap.size ≤ w5.heap.size; omega, V5⟩
    · intro x y hx hy he
      obtain ⟨cs, hcs⟩ := Option.isSome_iff_exists.1 hx
      obtain ⟨ds, hds⟩ := Option.isSome_iff_exists.1 hy
      rcases hz3 x cs hcs with ⟨rfl, _⟩ | ⟨rfl, _⟩ | ⟨rfl, _⟩ | ⟨rfl, _⟩ <;> rcases hz3 y ds hds with ⟨rfl, _⟩ | ⟨rfl, _⟩ | ⟨rfl, _⟩ | ⟨rfl, _⟩ <;> first | rfl | (exfalso; revert he; simp; done) | (exfalso; revert he; simp; omega)
    · intro t x off hx
      rcases hz2 t _ hx with ⟨rfl, hh⟩ | ⟨rfl, hh⟩ | ⟨rfl, hh⟩ | ⟨rfl, hh⟩ <;> (injection hh with h1 h2; subst h1; rfl)
    · simp; omega
    · exact (eW.trans (e3.trans e35)).trans (Below.mono e6 (by omega))
    · intro x cs hx
      rcases hz3 x cs hx with ⟨rfl, rfl⟩ | ⟨rfl, rfl⟩ | ⟨rfl, rfl⟩ | ⟨rfl, rfl⟩ <;> decide
  · intro p hp
    simp only [sqI, List.mem_cons, List.not_mem_nil, or_false] at hp
    subst hp
    rw [hup]
    exact HL3.out
  · intro K' G' S' e T' E1 m' hm' hK' h1 hR' hG' hE' a' w' h4'
    cases e with
    | norm => cases h1
    | exit id => cases h1
    | ret =>
      obtain ⟨l', hl, rfl⟩ := Option.map_eq_some_iff.1 h1
      cases hR' with
      | leaf =>
        obtain ⟨β, v, r1, r2⟩ := resE_sound (cfg_ok tabRsq_ok) h4' (fn := Tryz.f101) (rs := Tryz.f101.results.toList) (by simp) (by decide +kernel) hl
        obtain ⟨β', hS⟩ := h4'
        refine ⟨hS.nd, v, r1, ?_⟩
        obtain ⟨vs, rfl, u1, r1, rfl, k1, u2, r2, rfl, k2, hn⟩ := r2
        simp only [tupAll] at hn
        subst hn
        have k2' := z9q.1 k2
        subst k2'
        have k1' := (z10q.1 k1).1
        refine ⟨u1, ?_, ?_, hS.bl⟩
        · show _ = Ending.returned (.tuple #[u1, .int .i64 (isqE (n : Int))])
          rw [show isqE (n : Int) = 0 from if_neg (by omega)]
          rfl
        · rw [show isq (n : Int) = (isqN n : Int) by unfold isq; rw [if_neg (by omega), Int.natAbs_natCast], ← hE]
          exact k1'

theorem open_iq {E : Env} {β : Nat → Nat} {w : World} {v : Value} {x u : IT} {l : Nat} (hx : (AV.tup [(true, [.int x l]), (false, [.n .i64 u])]).holds E β w v) : ∃ p, v = .tuple #[p, .int .i64 (u.den E)] ∧ IsInt w p (x.den E) := by
  obtain ⟨vs, rfl, u1, r1, rfl, k1, u2, r2, rfl, k2, hn⟩ := hx
  simp only [tupAll] at hn
  subst hn
  have k2' := z9q.1 k2
  subst k2'
  exact ⟨u1, rfl, (z10q.1 k1).1⟩
theorem rsqrt_any (w : World) (v : Value) (z : Int) (h : IsInt w v z) (l : Lim 100000 z) : Calls Tryz.prog 101 #[v] w (RetSqA z w) := by
  by_cases hz : 0 < z
  · exact rsqrt_pos w v z h l hz
  · by_cases h0 : z = 0
    · subst h0
      refine (z5q (C := cfgOf []) (E := zE []) (args := [.val true [.int (.lit 0) 0]]) (T := .leaf [(true, [.int (.lit 0) 0]), (false, [.n .i64 (.lit 0)])])
        mixed (cfg_ok .nil) z8q Tryz.func101 (by decide +kernel) (by kernel_rfl) (by decide +kernel) rfl w [v] rfl ?_).mono ?_
      · intro i x hx
        match i, hx with
        | 0, hx => injection hx with hx; subst hx; exact ⟨fun _ => 0, v, rfl, z10q.2 ⟨h, lim_zero⟩⟩
      · rintro e w' ⟨β, u, rfl, hh, ex⟩
        obtain ⟨p, rfl, hp⟩ := open_iq hh
        exact ⟨p, rfl, hp, ex⟩
    · have hneg : z < 0 := by omega
      refine (z5q (C := cfgOf []) (E := zE [z]) (G := [(.lt (.var 0) (.lit 0), true)]) (args := [.val true [.int (.var 0) 100000]]) (T := .leaf [(true, [.int (.lit 0) 0]), (false, [.n .i64 (.lit 7)])])
        mixed (cfg_ok .nil) (asm_cons z8q (by show decide (z < 0) = true; exact decide_eq_true hneg)) Tryz.func101 (by decide +kernel) (by kernel_rfl) (by decide +kernel) rfl w [v] rfl ?_).mono ?_
      · intro i x hx
        match i, hx with
        | 0, hx => injection hx with hx; subst hx; exact ⟨fun _ => 0, v, rfl, z10q.2 ⟨h, l⟩⟩
      · rintro e w' ⟨β, u, rfl, hh, ex⟩
        obtain ⟨p, rfl, hp⟩ := open_iq hh
        refine ⟨p, ?_, ?_, ex⟩
        · rw [show isqE z = 7 from if_pos hneg]; rfl
        · rw [show isq z = 0 from if_pos hneg]; exact hp

end Go.Proofs.YtifeacfljfmnpaaGreat
end

section
set_option maxRecDepth 100000
namespace Go.Proofs.YtifeacfljfmnpaaGreat
open Go.RowKit
def kSqRef : Con
  | [.val true [.int x l]], _ => if decide (l ≤ 100000) then some (.tup [(true, [.int (.a1 2 x) l]), (false, [.n .i64 (.a1 3 x)])]) else none
  | _, _ => none
theorem kSqRef_ok {E : Env} : ConOK Tryz.prog E 101 kSqRef := by
  refine ⟨?_, ?_, ⟨_, Tryz.func101, by decide +kernel, by kernel_rfl⟩⟩
  · intro args As r h hG β w vs hv hlen
    unfold kSqRef at h
    split at h
    · split at h
      · rename_i hlo
        injection h with h
        subst h
        simp only [decide_eq_true_iff] at hlo
        obtain ⟨v, rfl, h1⟩ := args1 hv hlen
        obtain ⟨i1, l1⟩ := z10q.1 h1
        refine (rsqrt_any w v _ i1 (l1.mono hlo)).mono ?_
        rintro e w' ⟨u, rfl, k1, ex⟩
        exact ⟨_, rfl, ⟨[u, .int .i64 _], rfl, u, _, rfl, z10q.2 ⟨k1, isq_lim l1⟩, _, _, rfl, z9q.2 rfl, rfl⟩, ex⟩
      · cases h
    · cases h
  · intro args As r h x off
    unfold kSqRef at h
    split at h
    · split at h
      · injection h with h; subst h; intro e; cases e
      · cases h
    · cases h
theorem open_ib' {E : Env} {β : Nat → Nat} {w : World} {v : Value} {x : IT} {k : Nat} {t : BT} (hx : (AV.tup [(true, [.int x k]), (false, [.b t])]).holds E β w v) : ∃ p, v = .tuple #[p, .bool (t.den E)] ∧ IsInt w p (x.den E) := by
  obtain ⟨vs, rfl, u1, r1, rfl, k1, u2, r2, rfl, k2, hn⟩ := hx
  simp only [tupAll] at hn
  subst hn
  have k2' := z11q.1 k2
  subst k2'
  exact ⟨u1, rfl, (z10q.1 k1).1⟩
theorem perfect_calls (w : World) (v : Value) (z : Int) (h : IsInt w v z) (l : Lim 100000 z) :
    Calls Tryz.prog 141 #[v] w fun e w' => ∃ u, e = .returned (.tuple #[u, .bool (sqB z)]) ∧ IsInt w' u (isq z) ∧ Ext w w' := by
  refine (z5q (C := cfgOf ((101, kSqRef) :: (87, kIIb fun x y => .eq x y) :: tabR1)) (E := zE [z]) (args := [.val true [.int (.var 0) 100000]])
    (T := .ite (.eq (.a1 3 (.var 0)) (.lit 0)) (.leaf [(true, [.int (.a1 2 (.var 0)) 100000]), (false, [.b (.eq (.a2 2 (.a1 2 (.var 0)) (.a1 2 (.var 0))) (.var 0))])]) (.leaf [(true, [.int (.a1 2 (.var 0)) 100000]), (false, [.b (.lit false)])]))
    mixed (cfg_ok (.cons kSqRef_ok (.cons (kIIb_ok (fun x y => x == y) (fun _ _ => rfl) (fun w v1 v2 z1 z2 h1 h2 => (rsame_calls w v1 v2 z1 z2 h1 h2).mono (fun e w' h => ⟨by rw [h.1]; by_cases hz : z1 = z2 <;> simp [hz], h.2⟩)) ⟨_, Tryz.func87, by decide +kernel, by kernel_rfl⟩) tabR1_ok)))
    z8q Tryz.func141 (by decide +kernel) (by kernel_rfl) (by decide +kernel) rfl w [v] rfl ?_).mono ?_
  · intro i x hx
    match i, hx with
    | 0, hx => injection hx with hx; subst hx; exact ⟨fun _ => 0, v, rfl, z10q.2 ⟨h, l⟩⟩
  · rintro e w' ⟨β, u, rfl, hh, ex⟩
    simp only [Tree.pick] at hh
    split at hh
    · rename_i hz
      obtain ⟨p, rfl, hp⟩ := open_ib' hh
      refine ⟨p, ?_, hp, ex⟩
      have hz' : (isqE z == 0) = true := hz
      have e1 : (BT.eq (.a2 2 (.a1 2 (.var 0)) (.a1 2 (.var 0))) (.var 0)).den (zE [z]) = (cmpZ (isq z * isq z) z == 0) := by
        show (isq z * isq z == z) = _
        rw [Bool.eq_iff_iff, beq_iff_eq, beq_iff_eq]
        rcases z2q (isq z * isq z) z with ⟨h, e⟩ | ⟨h, e⟩ | ⟨h, e⟩ <;> rw [e] <;> omega
      rw [e1]
      unfold sqB
      rw [hz', Bool.true_and]
    · rename_i hz
      obtain ⟨p, rfl, hp⟩ := open_ib' hh
      have hz' : (isqE z == 0) = false := by
        cases hb : (isqE z == 0) with
        | false => rfl
        | true => exact absurd hb hz
      refine ⟨p, ?_, hp, ex⟩
      unfold sqB
      rw [hz', Bool.false_and]
      rfl
theorem kPf_ok {E : Env} : ConOK Tryz.prog E 141 kSqr := by
  refine ⟨?_, ?_, ⟨_, Tryz.func141, by decide +kernel, by kernel_rfl⟩⟩
  · intro args As r h hG β w vs hv hlen
    unfold kSqr at h
    split at h
    · split at h
      · rename_i hlo
        injection h with h
        subst h
        simp only [decide_eq_true_iff] at hlo
        obtain ⟨v, rfl, h1⟩ := args1 hv hlen
        obtain ⟨i1, l1⟩ := z10q.1 h1
        refine (perfect_calls w v _ i1 (l1.mono hlo)).mono ?_
        rintro e w' ⟨u, rfl, k1, ex⟩
        exact ⟨_, rfl, ⟨[u, .bool _], rfl, u, _, rfl, z10q.2 ⟨k1, isq_lim l1⟩, _, _, rfl, z11q.2 rfl, rfl⟩, ex⟩
      · cases h
    · cases h
  · intro args As r h x off
    unfold kSqr at h
    split at h
    · split at h
      · injection h with h; subst h; intro e; cases e
      · cases h
    · cases h
theorem rsqrtQ_calls (w : World) (v : Value) (n d : Int) (h : IsPair w v n d) (l1 : Lim 100000 n) (l2 : Lim 100000 d) : Calls Tryz.prog 73 #[v] w (RetSqQ n d w) := by
  refine (z5q (C := cfgOf [(141, kSqr)]) (E := zE [n, d]) (args := [argQ 0]) (T := tSq)
    mixed (cfg_ok (.cons kPf_ok .nil)) z8q Tryz.func73 (by decide +kernel) (by kernel_rfl) (by decide +kernel) rfl w [v] rfl ?_).mono ?_
  · intro i x hx
    match i, hx with
    | 0, hx => injection hx with hx; subst hx; exact ⟨fun _ => 0, v, rfl, argP_holds h l1 l2 rfl rfl⟩
  · rintro e w' ⟨β, u, rfl, hh, ex⟩
    have d0 : (BT.and (.eq (.a1 3 (.var 0)) (.lit 0)) (.eq (.a2 3 (.a2 2 (.a1 2 (.var 0)) (.a1 2 (.var 0))) (.var 0)) (.lit 0))).den (zE [n, d]) = sqB n := rfl
    have d1 : (BT.and (.eq (.a1 3 (.var 1)) (.lit 0)) (.eq (.a2 3 (.a2 2 (.a1 2 (.var 1)) (.a1 2 (.var 1))) (.var 1)) (.lit 0))).den (zE [n, d]) = sqB d := rfl
    unfold tSq at hh
    simp only [Tree.pick, d0, d1] at hh
    unfold RetSqQ sqN
    cases h0 : sqB n <;> cases h1 : sqB d <;> rw [h0, h1] at hh
    · obtain ⟨p, rfl, hp⟩ := open_qb hh
      exact ⟨p, rfl, hp, ex⟩
    · obtain ⟨p, rfl, hp⟩ := open_qb hh
      exact ⟨p, rfl, hp, ex⟩
    · obtain ⟨p, rfl, hp⟩ := open_qb hh
      exact ⟨p, rfl, hp, ex⟩
    · obtain ⟨p, rfl, hp⟩ := open_qb hh
      exact ⟨p, rfl, hp, ex⟩

theorem mul_self_parts (a : Rat) : (a * a).num = a.num * a.num ∧ (a * a).den = a.den * a.den := by
  have hc : (a.num * a.num).natAbs.Coprime (a.den * a.den) := by
    rw [Int.natAbs_mul]
    exact (Nat.Coprime.mul_left a.reduced a.reduced).symm.mul_left (Nat.Coprime.mul_left a.reduced a.reduced).symm |>.symm
  have hn : a.den * a.den ≠ 0 := Nat.mul_ne_zero a.den_nz a.den_nz
  have e : a * a = ⟨a.num * a.num, a.den * a.den, hn, hc⟩ := by
    rw [Rat.mk_eq_divInt]
    have h : Rat.divInt a.num a.den * Rat.divInt a.num a.den = a * a := by rw [Rat.num_divInt_den]
    rw [← h, Rat.divInt_mul_divInt, Int.natCast_mul]
  rw [e]
  exact ⟨rfl, rfl⟩
theorem isq_self (n : Int) : isq (n * n) = (n.natAbs : Int) ∧ sqB (n * n) = true := by
  have h0 : ¬ n * n < 0 := by
    have e : ((n.natAbs : Int)) * (n.natAbs : Int) = n * n := Int.natAbs_mul_self
    have h := Int.natCast_nonneg (n.natAbs * n.natAbs)
    rw [Int.natCast_mul, e] at h
    omega
  have e1 : isq (n * n) = (n.natAbs : Int) := by
    unfold isq
    rw [if_neg h0, Int.natAbs_mul]
    congr 1
    refine isqN_spec_eq ⟨Nat.le_refl _, ?_⟩
    exact Nat.mul_lt_mul'' (by omega) (by omega)
  refine ⟨e1, ?_⟩
  unfold sqB
  rw [e1]
  have e2 : ((n.natAbs : Int)) * (n.natAbs : Int) = n * n := Int.natAbs_mul_self
  rw [e2, cmpZ_eq rfl]
  unfold isqE
  rw [if_neg h0]
  rfl
theorem sqB_spec {z : Int} (h : sqB z = true) : isq z * isq z = z := by
  unfold sqB at h
  rw [Bool.and_eq_true, beq_iff_eq, beq_iff_eq] at h
  rcases z2q (isq z * isq z) z with ⟨_, e⟩ | ⟨k, _⟩ | ⟨_, e⟩
  · have := h.2; omega
  · exact k
  · have := h.2; omega
theorem root_rat {a : Rat} (h : sqB a.num = true) (k : sqB (a.den : Int) = true) : ∃ s : Rat, s.num = isq a.num ∧ (s.den : Int) = isq (a.den : Int) := by
  have e1 := sqB_spec h
  have e2 := sqB_spec k
  have hd : (a.den : Int) ≠ 0 := den_ne a
  have hp : 0 ≤ isq (a.den : Int) := by unfold isq; split <;> omega
  have hne : (isq (a.den : Int)).natAbs ≠ 0 := by
    intro e
    have : isq (a.den : Int) = 0 := by omega
    rw [this] at e2
    omega
  have hc : (isq a.num).natAbs.Coprime (isq (a.den : Int)).natAbs := by
    have h1 : (isq a.num).natAbs * (isq a.num).natAbs = a.num.natAbs := by rw [← Int.natAbs_mul, e1]
    have h2 : (isq (a.den : Int)).natAbs * (isq (a.den : Int)).natAbs = a.den := by rw [← Int.natAbs_mul, e2, Int.natAbs_natCast]
    have hr := a.reduced
    rw [← h1, ← h2] at hr
    exact (Nat.Coprime.coprime_mul_left (Nat.Coprime.coprime_mul_left hr).symm).symm
  refine ⟨⟨isq a.num, (isq (a.den : Int)).natAbs, hne, hc⟩, rfl, ?_⟩
  show (((isq (a.den : Int)).natAbs : Nat) : Int) = _
  omega
end Go.Proofs.YtifeacfljfmnpaaGreat
end
