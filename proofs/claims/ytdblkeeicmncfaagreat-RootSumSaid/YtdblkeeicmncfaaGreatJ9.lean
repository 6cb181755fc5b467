/-
  Texts of this seat, joined.
-/
import Derived.Test.YtdblkeeicmncfaaGreatJ8
import Derived.Test.YtdblkeeicmncfaaGreatRows
import Derived.ProofKit
import Derived.OpenShut
import Derived.ChangeOld
import Derived.Lib.SmallJoins
import Derived.LaidLaws
import Derived.Handed
/- ---- Rtl ---- -/
section
/-
  A configuration for the laws of roots: awake, small, and the table.
-/
set_option maxRecDepth 100000
namespace Go.Proofs.YtdblkeeicmncfaaGreat
open Go.RowKit

/-- awake, taken at its text. -/
noncomputable def aw1 : List (Nat × Func) := [(14, Tryz.f14), (15, Tryz.f15), (30, Tryz.f30), (39, Tryz.f39), (26, Tryz.f26), (40, Tryz.f40), (17, Tryz.f17), (57, Tryz.f57)]
noncomputable def aw2 : List (Nat × Func) := [(56, Tryz.f56), (54, Tryz.f54), (37, Tryz.f37)]
theorem aw1_ok : InlOK Tryz.prog aw1 :=
  .cons Tryz.func14 (by decide +kernel) (by kernel_rfl) <| .cons Tryz.func15 (by decide +kernel) (by kernel_rfl) <| .cons Tryz.func30 (by decide +kernel) (by kernel_rfl) <| .cons Tryz.func39 (by decide +kernel) (by kernel_rfl) <| .cons Tryz.func26 (by decide +kernel) (by kernel_rfl) <|
  .cons Tryz.func40 (by decide +kernel) (by kernel_rfl) <| .cons Tryz.func17 (by decide +kernel) (by kernel_rfl) <| .cons Tryz.func57 (by decide +kernel) (by kernel_rfl) .nil
theorem aw2_ok : InlOK Tryz.prog aw2 :=
  .cons Tryz.func56 (by decide +kernel) (by kernel_rfl) <| .cons Tryz.func54 (by decide +kernel) (by kernel_rfl) <| .cons Tryz.func37 (by decide +kernel) (by kernel_rfl) .nil
noncomputable def tbA : List (Nat × Con) := [(59, kSqQ), (65, kSqQ), (81, kDv)]
theorem tbA_ok {E : Env} (hE : QEnv E) : TabOK Tryz.prog E tbA :=
  .cons (kSqQ_ok (fun w v n d h l m => sqrtQ_calls w v n d h l m) ⟨_, Tryz.func59, by decide +kernel, by kernel_rfl⟩)
    (.cons (kSqQ_ok (fun w v n d h l m => rsqrtQ_calls w v n d h l m) ⟨_, Tryz.func65, by decide +kernel, by kernel_rfl⟩)
      (.cons (kDv_ok hE (fun w v1 v2 a b h1 h2 l1 l2 => div_rat_calls w v1 v2 a b h1 h2 l1 l2) ⟨_, Tryz.func81, by decide +kernel, by kernel_rfl⟩) .nil))
noncomputable def cA1 : Cfg := cfgI (cR tbA) (cR tbA) aw1
noncomputable def cA2 : Cfg := cfgI cA1 cA1 aw2
theorem cA2_ok {E : Env} (hE : QEnv E) : CfgOK Tryz.prog E cA2 := cfgI_ok mixed (cfgI_ok mixed (cR_ok hE (tbA_ok hE)) (cR_ok hE (tbA_ok hE)) (fun _ => trivial) aw1_ok) (cfgI_ok mixed (cR_ok hE (tbA_ok hE)) (cR_ok hE (tbA_ok hE)) (fun _ => trivial) aw1_ok) (fun _ => trivial) aw2_ok
theorem awakeR_calls (w : World) : Calls Tryz.prog 12 #[] w fun e w' => e = .returned (.bool true) ∧ Ext w w' := by
  refine (fun_sound (C := cA2) (E := qE []) (args := []) (T := lfB (.lit true)) mixed (cA2_ok (qE_ok _)) no_asm Tryz.func12 (by decide +kernel) (by kernel_rfl) (by decide +kernel) rfl w [] rfl (fun i x hx => by simp at hx)).mono ?_
  rintro e w' ⟨β, u, rfl, hh, ex⟩
  rw [lfB_out hh]
  exact ⟨rfl, ex⟩
def kTru : Con
  | [], _ => some (.val false [.b (.lit true)])
  | _, _ => none
theorem kAw_ok {E : Env} : ConOK Tryz.prog E 12 kTru := by
  refine ⟨?_, ?_, ⟨_, Tryz.func12, by decide +kernel, by kernel_rfl⟩⟩
  · intro args G r h hG β w vs hv hlen
    unfold kTru at h
    split at h
    · injection h with h
      subst h
      obtain rfl : vs = [] := by simpa using hlen
      refine (awakeR_calls w).mono ?_
      rintro e w' ⟨rfl, ex⟩
      exact ⟨_, rfl, one_bool.2 rfl, ex⟩
    · cases h
  · intro args G r h x off
    unfold kTru at h
    split at h
    · injection h with h; subst h; intro e; cases e
    · cases h
/-- Equality of roots, of any numbers. -/
def b12 (i l : Nat) : AV := .val true [.int (.var i) l, .int (.var (i + 1)) l, .int (.var (i + 2)) l, .int (.var (i + 3)) l, .int (.var (i + 4)) l, .int (.var (i + 5)) l]
theorem int_conv {E E' : Env} {w : World} {s t : IT} {l m : Nat} {vs : List Value} (h : (Chunk.int s l).holds E w vs) (e : t.den E' = s.den E) (k : l ≤ m) : (Chunk.int t m).holds E' w vs := by
  obtain ⟨x, y, rfl, h1, h2⟩ := h
  exact ⟨x, y, rfl, by rw [e]; exact h1, by rw [e]; exact h2.mono k⟩
def smT6 (x1 x2 x3 x4 x5 x6 y1 y2 y3 y4 y5 y6 : IT) : BT := .and (.and (.eq x1 y1) (.eq x2 y2)) (.and (.and (.eq x3 y3) (.eq x4 y4)) (.and (.eq x5 y5) (.eq x6 y6)))
def kRSm : Con
  | [.val true [.int x1 l1, .int x2 l2, .int x3 l3, .int x4 l4, .int x5 l5, .int x6 l6], .val true [.int y1 m1, .int y2 m2, .int y3 m3, .int y4 m4, .int y5 m5, .int y6 m6]], _ =>
    if (decide (l1 ≤ 100000) && (decide (l2 ≤ 100000) && (decide (l3 ≤ 100000) && (decide (l4 ≤ 100000) && (decide (l5 ≤ 100000) && decide (l6 ≤ 100000)))))) && (decide (m1 ≤ 100000) && (decide (m2 ≤ 100000) && (decide (m3 ≤ 100000) && (decide (m4 ≤ 100000) && (decide (m5 ≤ 100000) && decide (m6 ≤ 100000)))))) then
      some (.val false [.b (smT6 x1 x2 x3 x4 x5 x6 y1 y2 y3 y4 y5 y6)]) else none
  | _, _ => none
theorem kRSm_ok {E : Env} : ConOK Tryz.prog E 17 kRSm := by
  refine ⟨?_, ?_, ⟨_, Tryz.func17, by decide +kernel, by kernel_rfl⟩⟩
  · intro args G r h hG β w vs hv hlen
    unfold kRSm at h
    split at h
    · rename_i x1 l1 x2 l2 x3 l3 x4 l4 x5 l5 x6 l6 y1 m1 y2 m2 y3 m3 y4 m4 y5 m5 y6 m6
      split at h
      · rename_i hcd
        simp only [Bool.and_eq_true, decide_eq_true_iff] at hcd
        obtain ⟨⟨a1, a2, a3, a4, a5, a6⟩, b1, b2, b3, b4, b5, b6⟩ := hcd
        injection h with h
        subst h
        obtain ⟨v, u, rfl, h1, h2⟩ := args2 hv hlen
        obtain ⟨E', hE'⟩ : ∃ E', E' = zE [x1.den E, x2.den E, x3.den E, x4.den E, x5.den E, x6.den E, y1.den E, y2.den E, y3.den E, y4.den E, y5.den E, y6.den E] := ⟨_, rfl⟩
        have k1 : (b12 0 100000).holds E' β w v := by
          obtain ⟨us, rfl, u0, r0, rfl, c0, u1, r1, rfl, c1, u2, r2, rfl, c2, u3, r3, rfl, c3, u4, r4, rfl, c4, u5, r5, rfl, c5, hn⟩ := h1
          subst hE'
          exact ⟨_, rfl, u0, _, rfl, int_conv c0 rfl a1, u1, _, rfl, int_conv c1 rfl a2, u2, _, rfl, int_conv c2 rfl a3, u3, _, rfl, int_conv c3 rfl a4, u4, _, rfl, int_conv c4 rfl a5, u5, _, rfl, int_conv c5 rfl a6, hn⟩
        have k2 : (b12 6 100000).holds E' β w u := by
          obtain ⟨us, rfl, u0, r0, rfl, c0, u1, r1, rfl, c1, u2, r2, rfl, c2, u3, r3, rfl, c3, u4, r4, rfl, c4, u5, r5, rfl, c5, hn⟩ := h2
          subst hE'
          exact ⟨_, rfl, u0, _, rfl, int_conv c0 rfl b1, u1, _, rfl, int_conv c1 rfl b2, u2, _, rfl, int_conv c2 rfl b3, u3, _, rfl, int_conv c3 rfl b4, u4, _, rfl, int_conv c4 rfl b5, u5, _, rfl, int_conv c5 rfl b6, hn⟩
        refine (fun_sound (C := cfgOf [(21, kSame)]) (E := E') (args := [b12 0 100000, b12 6 100000]) (G := [])
          (T := .ite (.and (.eq (.var 0) (.var 6)) (.eq (.var 1) (.var 7))) (.ite (.and (.eq (.var 2) (.var 8)) (.eq (.var 3) (.var 9))) (lfB (.and (.eq (.var 4) (.var 10)) (.eq (.var 5) (.var 11)))) (lfB (.lit false))) (lfB (.lit false)))
          mixed (cfg_ok (.cons kSame_ok .nil)) no_asm Tryz.func17 (by decide +kernel) (by kernel_rfl) (by decide +kernel) rfl w [v, u] rfl ?_).mono ?_
        · intro i x hx
          match i, hx with
          | 0, hx => injection hx with hx; subst hx; exact ⟨β, v, rfl, k1⟩
          | 1, hx => injection hx with hx; subst hx; exact ⟨β, u, rfl, k2⟩
        · rintro e w' ⟨β', y, rfl, hh, ex⟩
          refine ⟨_, rfl, one_bool.2 ?_, ex⟩
          subst hE'
          simp only [Tree.pick] at hh
          show y = .bool ((x1.den E == y1.den E && x2.den E == y2.den E) && ((x3.den E == y3.den E && x4.den E == y4.den E) && (x5.den E == y5.den E && x6.den E == y6.den E)))
          have e0 : (BT.and (.eq (.var 0) (.var 6)) (.eq (.var 1) (.var 7))).den (zE [x1.den E, x2.den E, x3.den E, x4.den E, x5.den E, x6.den E, y1.den E, y2.den E, y3.den E, y4.den E, y5.den E, y6.den E]) = (x1.den E == y1.den E && x2.den E == y2.den E) := rfl
          have e1 : (BT.and (.eq (.var 2) (.var 8)) (.eq (.var 3) (.var 9))).den (zE [x1.den E, x2.den E, x3.den E, x4.den E, x5.den E, x6.den E, y1.den E, y2.den E, y3.den E, y4.den E, y5.den E, y6.den E]) = (x3.den E == y3.den E && x4.den E == y4.den E) := rfl
          rw [e0, e1] at hh
          cases h0 : (x1.den E == y1.den E && x2.den E == y2.den E) <;> rw [h0] at hh
          · exact lfB_out hh
          · cases h1 : (x3.den E == y3.den E && x4.den E == y4.den E) <;> rw [h1] at hh
            · exact lfB_out hh
            · exact lfB_out hh
      · cases h
    · cases h
  · intro args G r h x off
    unfold kRSm at h
    split at h
    · split at h
      · injection h with h; subst h; intro e; cases e
      · cases h
    · cases h
/-- A helper that takes a row, as an oracle tells. -/
def cfgS (f0 : Nat) (sm : List Chunk → Nat → Option Bool) (C : Cfg) : Cfg :=
  { C with calls := fun f args M G => if f = f0 then (match args, M with
      | [.ptr _ off], [some cs] => (sm cs off).map fun c => .val false [.b (.lit c)]
      | _, _ => none) else C.calls f args M G }
def RowSm (E : Env) (f0 : Nat) (sm : List Chunk → Nat → Option Bool) : Prop := ∀ cs off c, sm cs off = some c → ∀ (w : World) (b : Nat), VarAt E w b cs → Calls Tryz.prog f0 #[pv b off] w fun e w' => e = .returned (.bool c) ∧ Ext w w'
theorem cfgS_ok {E : Env} {f0 : Nat} {sm : List Chunk → Nat → Option Bool} {C : Cfg} (h : CfgOK Tryz.prog E C) (hs : RowSm E f0 sm) (hb : ∃ fn, Tryz.prog.funcs[f0]? = some fn ∧ fn.name ≠ "runtime.NumGoroutine" ∧ fn.body.isNone = false) : CfgOK Tryz.prog E (cfgS f0 sm C) := by
  refine ⟨h.zero, h.ag, h.fld, h.flds, h.bool, h.row, h.arr, ?_, ?_, ?_, h.slc, h.strT, h.cnv, h.apd⟩
  · intro f args M G r hr hG β w vs hwk hv hlen hm
    simp only [cfgS] at hr
    split at hr
    · rename_i hf
      subst hf
      split at hr
      · rename_i x off cs
        obtain ⟨c, hc, rfl⟩ := Option.map_eq_some_iff.1 hr
        obtain ⟨v, rfl, h1⟩ := args1 hv hlen
        have h1' : v = pv (β x) off := h1
        subst h1'
        refine (hs cs off c hc w (β x) (hm 0 x off cs rfl rfl)).mono ?_
        rintro e w' ⟨rfl, ex⟩
        exact ⟨_, rfl, one_bool.2 rfl, ex⟩
      · cases hr
    · exact h.calls f args M G r hr hG β w vs hwk hv hlen hm
  · intro f args M G r hr x off
    simp only [cfgS] at hr
    split at hr
    · split at hr
      · obtain ⟨c, hc, rfl⟩ := Option.map_eq_some_iff.1 hr
        intro e; cases e
      · cases hr
    · exact h.nptr f args M G r hr x off
  · intro f args M G r hr
    simp only [cfgS] at hr
    split at hr
    · rename_i hf
      subst hf
      exact hb
    · exact h.body f args M G r hr
/-- small of rows of roots. -/
def roE (l : List RI) : Env := ⟨fun _ => 0, fun q => smR (l.getD (6 * q) (false, [])) (l.getD (6 * q + 1) (false, [])) (l.getD (6 * q + 2) (false, [])) (l.getD (6 * q + 3) (false, [])) (l.getD (6 * q + 4) (false, [])) (l.getD (6 * q + 5) (false, [])), fun i => l.getD i (false, []), fun _ => []⟩
def kSmRw : Con
  | [.val true [.raw i, .raw i1, .raw i2, .raw i3, .raw i4, .raw i5], .val false [.n .i64 (.lit z)]], _ => if (i % 6 == 0 && (i1 == i + 1 && (i2 == i + 2 && (i3 == i + 3 && (i4 == i + 4 && i5 == i + 5))))) && z == 4 then some (.val false [.b (.var (i / 6))]) else none
  | _, _ => none
theorem kSmRw_ok (l : List RI) : ConOK Tryz.prog (roE l) 70 kSmRw := by
  refine ⟨?_, ?_, ⟨_, Tryz.func70, by decide +kernel, by kernel_rfl⟩⟩
  · intro args G r h hG β w vs hv hlen
    unfold kSmRw at h
    split at h
    · rename_i i i1 i2 i3 i4 i5 z
      split at h
      · rename_i hcd
        simp only [Bool.and_eq_true, beq_iff_eq] at hcd
        obtain ⟨⟨hi, rfl, rfl, rfl, rfl, rfl⟩, rfl⟩ := hcd
        injection h with h
        subst h
        obtain ⟨v, u, rfl, h1, h2⟩ := args2 hv hlen
        have h2' := one_num.1 h2
        subst h2'
        have hr := (one_rwC (i := i)).1 h1
        refine (smallR_calls w v _ _ _ _ _ _ hr).mono ?_
        rintro e w' ⟨rfl, ex⟩
        refine ⟨_, rfl, one_bool.2 ?_, ex⟩
        show _ = Value.bool ((roE l).b (i / 6))
        unfold roE
        simp only [show 6 * (i / 6) = i by omega]
      · cases h
    · cases h
  · intro args G r h x off
    unfold kSmRw at h
    split at h
    · split at h
      · injection h with h; subst h; intro e; cases e
      · cases h
    · cases h
def rowR : Nat → List Chunk
  | 0 => []
  | n + 1 => rowR n ++ rwC (6 * n)
theorem smallR_row {l : List RI} {n : Nat} (hT : funR (cfgOf [(70, kSmRw)]) Tryz.f25 [] (rowR n) (big + n) = some (tSm 0 n)) (h0 : sizes (rowR n) ≠ 0) (w : World) (b : Nat) (h : VarAt (roE l) w b (rowR n)) :
    Calls Tryz.prog 25 #[pv b (big + n)] w fun e w' => ∃ c, e = .returned (.bool c) ∧ (c = true ↔ ∀ i, i < n → (roE l).b i = true) ∧ Ext w w' := by
  refine (row_sound mixed (cfg_ok (.cons (kSmRw_ok l) .nil)) no_asm Tryz.func25 (by decide +kernel) hT (by decide +kernel) w b h h0).mono ?_
  rintro e w' ⟨β, v, rfl, hh, ex⟩
  obtain ⟨c, h1, h2⟩ := tSm_pick (E := roE l) n 0
  rw [h1] at hh
  have := one_bool.1 hh
  subst this
  refine ⟨c, rfl, ?_, ex⟩
  rw [h2]
  constructor
  · intro h i hi; have := h i hi; rwa [Nat.zero_add] at this
  · intro h i hi; rw [Nat.zero_add]; exact h i hi
theorem smallR_row1 {l : List RI} (w : World) (b : Nat) (h : VarAt (roE l) w b (rowR 1)) : Calls Tryz.prog 25 #[pv b (big + 1)] w fun e w' => ∃ c, e = .returned (.bool c) ∧ (c = true ↔ ∀ i, i < 1 → (roE l).b i = true) ∧ Ext w w' := smallR_row (n := 1) (by kernel_rfl) (by decide) w b h
theorem smallR_row2 {l : List RI} (w : World) (b : Nat) (h : VarAt (roE l) w b (rowR 2)) : Calls Tryz.prog 25 #[pv b (big + 2)] w fun e w' => ∃ c, e = .returned (.bool c) ∧ (c = true ↔ ∀ i, i < 2 → (roE l).b i = true) ∧ Ext w w' := smallR_row (n := 2) (by kernel_rfl) (by decide) w b h
end Go.Proofs.YtdblkeeicmncfaaGreat
end

/- ---- Rtm ---- -/
section
/-
  The laws of roots: what they share.
-/
set_option maxRecDepth 100000
namespace Go.Proofs.YtdblkeeicmncfaaGreat
open Go.RowKit

noncomputable def tabL : List (Nat × Con) := [(12, kTru), (28, kRNg true), (29, kRNg false), (30, kRSc false), (31, kRSc true),
  (33, kRAd false), (34, kRAd true), (35, kRMu false), (36, kRMu true), (37, kRIv), (38, kRIv),
  (26, kRSg), (27, kRSg), (40, kRFl), (42, kRFl), (17, kRSm), (49, kVl)]
theorem tabL_ok {E : Env} (hE : QEnv E) : TabOK Tryz.prog E tabL :=
  .cons kAw_ok <|
  .cons (kRNg_ok hE (fun _ _ _ _ _ R h l => p_neg (R rfl) h l) ⟨_, Tryz.func28, by decide +kernel, by kernel_rfl⟩) <|
  .cons (kRNg_ok hE (fun _ _ _ _ _ _ h l => r_neg h l) ⟨_, Tryz.func29, by decide +kernel, by kernel_rfl⟩) <|
  .cons (kRSc_ok hE (fun _ _ _ _ _ _ _ _ h hu l lk => p_scale h hu l lk) ⟨_, Tryz.func30, by decide +kernel, by kernel_rfl⟩) <|
  .cons (kRSc_ok hE (fun _ _ _ _ _ _ _ R h hu l lk => r_scale (R rfl) h hu l lk) ⟨_, Tryz.func31, by decide +kernel, by kernel_rfl⟩) <|
  .cons (kRAd_ok hE (fun _ _ _ _ _ _ _ _ _ _ _ h hu l l' => p_add h hu l l') ⟨_, Tryz.func33, by decide +kernel, by kernel_rfl⟩) <|
  .cons (kRAd_ok hE (fun _ _ _ _ _ _ _ _ _ R R' h hu l l' => r_add (R rfl) (R' rfl) h hu l l') ⟨_, Tryz.func34, by decide +kernel, by kernel_rfl⟩) <|
  .cons (kRMu_ok hE (fun _ _ _ _ _ _ _ _ _ _ _ h hu l l' => p_mul h hu l l') ⟨_, Tryz.func35, by decide +kernel, by kernel_rfl⟩) <|
  .cons (kRMu_ok hE (fun _ _ _ _ _ _ _ _ _ R R' h hu l l' => r_mul (R rfl) (R' rfl) h hu l l') ⟨_, Tryz.func36, by decide +kernel, by kernel_rfl⟩) <|
  .cons (kRIv_ok hE (fun _ _ _ _ _ R h l => p_inv R h l) ⟨_, Tryz.func37, by decide +kernel, by kernel_rfl⟩) <|
  .cons (kRIv_ok hE (fun _ _ _ _ _ R h l => r_inv R h l) ⟨_, Tryz.func38, by decide +kernel, by kernel_rfl⟩) <|
  .cons (kRSg_ok hE (fun _ _ _ _ _ R h l => p_sign R h l) ⟨_, Tryz.func26, by decide +kernel, by kernel_rfl⟩) <|
  .cons (kRSg_ok hE (fun _ _ _ _ _ R h l => r_sign R h l) ⟨_, Tryz.func27, by decide +kernel, by kernel_rfl⟩) <|
  .cons (kRFl_ok hE (fun _ _ _ _ _ R h l => p_floor R h l) ⟨_, Tryz.func40, by decide +kernel, by kernel_rfl⟩) <|
  .cons (kRFl_ok hE (fun _ _ _ _ _ R h l => r_floor R h l) ⟨_, Tryz.func42, by decide +kernel, by kernel_rfl⟩) <|
  .cons kRSm_ok <|
  .cons (kVl_ok hE (fun w v s1 s2 xs1 xs2 h l1 l2 => rvalid_rat_calls w v s1 s2 xs1 xs2 h l1 l2) ⟨_, Tryz.func49, by decide +kernel, by kernel_rfl⟩) .nil
noncomputable def lw1 : List (Nat × Func) := [(16, Tryz.f16), (100, Tryz.f100), (39, Tryz.f39), (20, Tryz.f20), (22, Tryz.f22), (14, Tryz.f14), (15, Tryz.f15)]
noncomputable def lw2 : List (Nat × Func) := [(45, Tryz.f45), (54, Tryz.f54)]
theorem lw1_ok : InlOK Tryz.prog lw1 :=
  .cons Tryz.func16 (by decide +kernel) (by kernel_rfl) <| .cons Tryz.func100 (by decide +kernel) (by kernel_rfl) <| .cons Tryz.func39 (by decide +kernel) (by kernel_rfl) <| .cons Tryz.func20 (by decide +kernel) (by kernel_rfl) <|
  .cons Tryz.func22 (by decide +kernel) (by kernel_rfl) <| .cons Tryz.func14 (by decide +kernel) (by kernel_rfl) <| .cons Tryz.func15 (by decide +kernel) (by kernel_rfl) .nil
theorem lw2_ok : InlOK Tryz.prog lw2 := .cons Tryz.func45 (by decide +kernel) (by kernel_rfl) <| .cons Tryz.func54 (by decide +kernel) (by kernel_rfl) .nil
noncomputable def cL1 (tab : List (Nat × Con)) : Cfg := cfgI (cR (tab ++ tabL)) (cR (tab ++ tabL)) lw1
noncomputable def cL (tab : List (Nat × Con)) (sm : List Chunk → Nat → Option Bool) : Cfg := cfgS 25 sm (cfgI (cL1 tab) (cL1 tab) lw2)
theorem cL1_ok {E : Env} (hE : QEnv E) {tab : List (Nat × Con)} (h : TabOK Tryz.prog E tab) : CfgOK Tryz.prog E (cL1 tab) := cfgI_ok mixed (cR_ok hE (TabOK.app h (tabL_ok hE))) (cR_ok hE (TabOK.app h (tabL_ok hE))) (fun _ => trivial) lw1_ok
theorem cL_ok {E : Env} (hE : QEnv E) {tab : List (Nat × Con)} (h : TabOK Tryz.prog E tab) {sm : List Chunk → Nat → Option Bool} (hs : RowSm E 25 sm) : CfgOK Tryz.prog E (cL tab sm) :=
  cfgS_ok (cfgI_ok mixed (cL1_ok hE h) (cL1_ok hE h) (fun _ => trivial) lw2_ok) hs ⟨_, Tryz.func25, by decide +kernel, by kernel_rfl⟩
/-- Rows of small roots, and of any. -/
def isV4 : Nat → List Chunk → Bool
  | _, [] => true
  | i, .int (.var j) l :: cs => (j == i && l == 4) && isV4 (i + 1) cs
  | _, _ => false
theorem isV4_spec : ∀ {cs : List Chunk} {i : Nat}, isV4 i cs = true → cs = (List.range cs.length).map fun k => .int (.var (i + k)) 4
  | [], _, _ => rfl
  | .int (.var j) l :: cs, i, h => by
    simp only [isV4, Bool.and_eq_true, beq_iff_eq] at h
    obtain ⟨⟨rfl, rfl⟩, h⟩ := h
    have := isV4_spec h
    rw [List.length_cons, List.range_succ_eq_map, List.map_cons, List.map_map, Nat.add_zero]
    congr 1
    refine Eq.trans this (List.map_congr_left fun k _ => ?_)
    show Chunk.int _ _ = Chunk.int _ _
    rw [show j + 1 + k = j + (k + 1) by omega]
  | .int (.lit _) _ :: _, _, h | .int (.rlen _) _ :: _, _, h | .int (.slen _) _ :: _, _, h | .int (.a1 _ _) _ :: _, _, h | .int (.a2 _ _ _) _ :: _, _, h | .int (.a4 _ _ _ _ _) _ :: _, _, h => by cases h
  | .b _ :: _, _, h | .n _ _ :: _, _, h | .raw _ :: _, _, h | .mag _ _ :: _, _, h | .rmag _ :: _, _, h | .fn _ :: _, _, h | .nilSlice :: _, _, h | .str _ _ :: _, _, h => by cases h
def smRT (n : Nat) (cs : List Chunk) (off : Nat) : Option Bool := if isV4 0 cs && (cs.length == 6 * n && off == big + n) then some true else none
def smRF (n : Nat) (cs : List Chunk) (off : Nat) : Option Bool := if isRaw 0 cs && (cs.length == 6 * n && off == big + n) then some false else none
def rawsOf (a b c : Rat) : List RI := rawOf a ++ (rawOf b ++ rawOf c)
theorem smN_rawOf {w : World} {v : Value} {q : Rat} (h : IsRat w v q) (l : LimQ 4 q) : smN 4 (decide (q.num < 0), limbs q.num.natAbs) (decide ((q.den : Int) < 0), limbs (q.den : Int).natAbs) = true := by
  unfold smN
  have l1 : (limbs q.num.natAbs).length ≤ 4 := l.1
  have l2 : (limbs (q.den : Int).natAbs).length ≤ 4 := l.2
  rw [(rat_raw h).2, decide_eq_true l1, decide_eq_true l2]
  rfl
theorem rq_rawOf (q : Rat) : rq (decide (q.num < 0), limbs q.num.natAbs) (decide ((q.den : Int) < 0), limbs (q.den : Int).natAbs) = q := by
  have e3 : sgn (decide (q.num < 0)) (val (limbs q.num.natAbs)) = q.num := by rw [val_limbs]; exact sgn_self q.num
  have e4 : sgn (decide ((q.den : Int) < 0)) (val (limbs (q.den : Int).natAbs)) = (q.den : Int) := by rw [val_limbs]; exact sgn_self (q.den : Int)
  show Rat.divInt _ _ = _
  rw [e3, e4]
  exact Rat.num_divInt_den q
/-- A small root. -/
structure SmRt (w : World) (v : Value) (a b c : Rat) : Prop where
  is : IsRoot w v a b c
  lim : LimR 4 a b c
  rd : Rd b c
theorem SmRt.sm {w : World} {v : Value} {a b c : Rat} (h : SmRt w v a b c) {l : List RI} {k : Nat} (e : ∀ i, i < 6 → l.getD (6 * k + i) (false, []) = (rawsOf a b c).getD i (false, [])) : (roE l).b k = true := by
  obtain ⟨⟨x, y, z, rfl, h1, h2, h3⟩, ⟨l1, l2, l3⟩, R⟩ := h
  show smR _ _ _ _ _ _ = true
  have e0 := e 0 (by omega)
  have e1 := e 1 (by omega)
  have e2 := e 2 (by omega)
  have e3 := e 3 (by omega)
  have e4 := e 4 (by omega)
  have e5 := e 5 (by omega)
  rw [Nat.add_zero] at e0
  rw [e0, e1, e2, e3, e4, e5]
  unfold smR
  have k1 := smN_rawOf h1 l1
  have k2 := smN_rawOf h2 l2
  have k3 := smN_rawOf h3 l3
  have k4 := rq_rawOf b
  have k5 := rq_rawOf c
  show (smN 4 (decide (a.num < 0), limbs a.num.natAbs) (decide ((a.den : Int) < 0), limbs (a.den : Int).natAbs) && (smN 4 (decide (b.num < 0), limbs b.num.natAbs) (decide ((b.den : Int) < 0), limbs (b.den : Int).natAbs) && (smN 4 (decide (c.num < 0), limbs c.num.natAbs) (decide ((c.den : Int) < 0), limbs (c.den : Int).natAbs) && Rdb (rq (decide (b.num < 0), limbs b.num.natAbs) (decide ((b.den : Int) < 0), limbs (b.den : Int).natAbs)) (rq (decide (c.num < 0), limbs c.num.natAbs) (decide ((c.den : Int) < 0), limbs (c.den : Int).natAbs))))) = true
  rw [k1, k2, k3, k4, k5, Rdb_iff.2 R]
  rfl
theorem ints_raws {E E' : Env} {w : World} : ∀ (n i : Nat) (vs : List Value), chunks E w ((List.range n).map fun k => .int (.var (i + k)) 4) vs → (∀ k, k < n → E'.r (i + k) = (decide (E.i (i + k) < 0), limbs (E.i (i + k)).natAbs)) → chunks E' w ((List.range n).map fun k => .raw (i + k)) vs := by
  intro n
  induction n with
  | zero => intro i vs h _; exact h
  | succ n ih =>
    intro i vs h e
    rw [List.range_succ_eq_map, List.map_cons, List.map_map] at h ⊢
    obtain ⟨l, r, rfl, h1, h2⟩ := h
    refine ⟨l, r, rfl, int_chunk h1 (e 0 (by omega)), ?_⟩
    have key := ih (i + 1) r (by
      have : (List.range n).map ((fun k => Chunk.int (.var (i + k)) 4) ∘ Nat.succ) = (List.range n).map fun k => Chunk.int (.var (i + 1 + k)) 4 := List.map_congr_left fun k _ => by simp only [Function.comp]; rw [show i + (k + 1) = i + 1 + k by omega]
      rw [← this]; exact h2) (fun k hk => by
        have := e (k + 1) (by omega)
        rwa [show i + (k + 1) = i + 1 + k by omega] at this)
    have : (List.range n).map ((fun k => Chunk.raw (i + k)) ∘ Nat.succ) = (List.range n).map fun k => Chunk.raw (i + 1 + k) := List.map_congr_left fun k _ => by simp only [Function.comp]; rw [show i + (k + 1) = i + 1 + k by omega]
    rw [this]; exact key
theorem smRT_ok1 {w0 : World} {v : Value} {a b c : Rat} {l : List Rat} (h : SmRt w0 v a b c) : RowSm (qE (a :: b :: c :: l)) 25 (smRT 1) := by
  intro cs off x hx w bl hv
  unfold smRT at hx
  split at hx
  · rename_i hbb
    injection hx with hx
    subst hx
    simp only [Bool.and_eq_true, beq_iff_eq] at hbb
    obtain ⟨h1, h2, rfl⟩ := hbb
    have hcs := isV4_spec h1
    rw [h2] at hcs
    rw [hcs] at hv
    have hv' : VarAt (roE (rawsOf a b c)) w bl (rowR 1) := by
      obtain ⟨vs, hc, hcell⟩ := hv
      refine ⟨vs, ?_, hcell⟩
      exact ints_raws 6 0 vs hc (fun k hk => by
        match k, hk with
        | 0, _ => rfl
        | 1, _ => rfl
        | 2, _ => rfl
        | 3, _ => rfl
        | 4, _ => rfl
        | 5, _ => rfl)
    refine (smallR_row1 w bl hv').mono ?_
    rintro e w' ⟨y, rfl, hy, ex⟩
    have : y = true := hy.2 (fun i hi => by
      match i, hi with
      | 0, _ => exact h.sm (fun i _ => by rw [Nat.mul_zero, Nat.zero_add]))
    subst this
    exact ⟨rfl, ex⟩
  · cases hx
theorem smRT_ok2 {w0 w1 : World} {v u : Value} {a b c a' b' c' : Rat} {l : List Rat} (h : SmRt w0 v a b c) (h' : SmRt w1 u a' b' c') : RowSm (qE (a :: b :: c :: a' :: b' :: c' :: l)) 25 (smRT 2) := by
  intro cs off x hx w bl hv
  unfold smRT at hx
  split at hx
  · rename_i hbb
    injection hx with hx
    subst hx
    simp only [Bool.and_eq_true, beq_iff_eq] at hbb
    obtain ⟨h1, h2, rfl⟩ := hbb
    have hcs := isV4_spec h1
    rw [h2] at hcs
    rw [hcs] at hv
    have hv' : VarAt (roE (rawsOf a b c ++ rawsOf a' b' c')) w bl (rowR 2) := by
      obtain ⟨vs, hc, hcell⟩ := hv
      refine ⟨vs, ?_, hcell⟩
      exact ints_raws 12 0 vs hc (fun k hk => by
        match k, hk with
        | 0, _ => rfl
        | 1, _ => rfl
        | 2, _ => rfl
        | 3, _ => rfl
        | 4, _ => rfl
        | 5, _ => rfl
        | 6, _ => rfl
        | 7, _ => rfl
        | 8, _ => rfl
        | 9, _ => rfl
        | 10, _ => rfl
        | 11, _ => rfl)
    refine (smallR_row2 w bl hv').mono ?_
    rintro e w' ⟨y, rfl, hy, ex⟩
    have : y = true := hy.2 (fun i hi => by
      match i, hi with
      | 0, _ => exact h.sm (fun i hi => by
          match i, hi with
          | 0, _ => rfl
          | 1, _ => rfl
          | 2, _ => rfl
          | 3, _ => rfl
          | 4, _ => rfl
          | 5, _ => rfl)
      | 1, _ => exact h'.sm (fun i hi => by
          match i, hi with
          | 0, _ => rfl
          | 1, _ => rfl
          | 2, _ => rfl
          | 3, _ => rfl
          | 4, _ => rfl
          | 5, _ => rfl))
    subst this
    exact ⟨rfl, ex⟩
  · cases hx
theorem isRaw_row {cs : List Chunk} (h : isRaw 0 cs = true) : cs = (List.range cs.length).map fun k => .raw (0 + k) := by
  have := isRaw_spec h
  exact this
/-- A law of one root, of two roots: small ones, or others. -/
theorem lawR1_any {f : Nat} {fn : Func} (hf : Tryz.prog.funcs[f]? = some fn) (h4 : fn.results.toList.length ≤ 4) (hR : funE (cfgS 25 (smRF 1) (cfgOf [(12, kTru)])) fn [] [.val true (rwC 0)] = some (lfB (.lit true))) (hn : 1 ≤ fn.ntmps)
    (w : World) (v : Value) (p1 p2 p3 p4 p5 p6 : RI) (h : RawR w v p1 p2 p3 p4 p5 p6) (hv : ∀ a b c : Rat, SmRt w v a b c → Calls Tryz.prog f #[v] w (IsTrue w)) : Calls Tryz.prog f #[v] w (IsTrue w) := by
  by_cases hc : smR p1 p2 p3 p4 p5 p6 = true
  · have hc' := hc
    unfold smR at hc'
    simp only [Bool.and_eq_true] at hc'
    obtain ⟨c1, c2, c3, c4⟩ := hc'
    obtain ⟨k1, k2⟩ := h.root c1 c2 c3
    exact hv _ _ _ ⟨k1, k2, Rdb_iff.1 c4⟩
  · have hs : RowSm (roE [p1, p2, p3, p4, p5, p6]) 25 (smRF 1) := by
      intro cs off x hx w bl hv
      unfold smRF at hx
      split at hx
      · rename_i hb
        injection hx with hx
        subst hx
        simp only [Bool.and_eq_true, beq_iff_eq] at hb
        obtain ⟨h1, h2, rfl⟩ := hb
        have hcs := isRaw_row h1
        rw [h2] at hcs
        have hcs' : cs = rowR 1 := hcs
        subst hcs'
        refine (smallR_row1 w bl hv).mono ?_
        rintro e w' ⟨y, rfl, hy, ex⟩
        have : y = false := by
          cases y with
          | false => rfl
          | true => exact absurd (hy.1 rfl 0 (by omega)) hc
        subst this
        exact ⟨rfl, ex⟩
      · cases hx
    refine (fun_sound mixed (cfgS_ok (cfg_ok (.cons kAw_ok .nil)) hs ⟨_, Tryz.func25, by decide +kernel, by kernel_rfl⟩) no_asm hf h4 hR hn rfl w [v] rfl ?_).mono ?_
    · intro i x hx
      match i, hx with
      | 0, hx => injection hx with hx; subst hx; exact ⟨fun _ => 0, v, rfl, (one_rwC (i := 0)).2 h⟩
    · rintro e w' ⟨β, u, rfl, hh, ex⟩
      rw [lfB_out hh]
      exact ⟨rfl, ex⟩
theorem lawR2_any {f : Nat} {fn : Func} (hf : Tryz.prog.funcs[f]? = some fn) (h4 : fn.results.toList.length ≤ 4) (hR : funE (cfgS 25 (smRF 2) (cfgOf [(12, kTru)])) fn [] [.val true (rwC 0), .val true (rwC 6)] = some (lfB (.lit true))) (hn : 2 ≤ fn.ntmps)
    (w : World) (v u : Value) (p1 p2 p3 p4 p5 p6 q1 q2 q3 q4 q5 q6 : RI) (h : RawR w v p1 p2 p3 p4 p5 p6) (h' : RawR w u q1 q2 q3 q4 q5 q6) (hv : ∀ a b c a' b' c' : Rat, SmRt w v a b c → SmRt w u a' b' c' → Calls Tryz.prog f #[v, u] w (IsTrue w)) : Calls Tryz.prog f #[v, u] w (IsTrue w) := by
  by_cases hc : smR p1 p2 p3 p4 p5 p6 = true ∧ smR q1 q2 q3 q4 q5 q6 = true
  · obtain ⟨hc1, hc2⟩ := hc
    unfold smR at hc1 hc2
    simp only [Bool.and_eq_true] at hc1 hc2
    obtain ⟨c1, c2, c3, c4⟩ := hc1
    obtain ⟨d1, d2, d3, d4⟩ := hc2
    obtain ⟨k1, k2⟩ := h.root c1 c2 c3
    obtain ⟨j1, j2⟩ := h'.root d1 d2 d3
    exact hv _ _ _ _ _ _ ⟨k1, k2, Rdb_iff.1 c4⟩ ⟨j1, j2, Rdb_iff.1 d4⟩
  · have hs : RowSm (roE [p1, p2, p3, p4, p5, p6, q1, q2, q3, q4, q5, q6]) 25 (smRF 2) := by
      intro cs off x hx w bl hv
      unfold smRF at hx
      split at hx
      · rename_i hb
        injection hx with hx
        subst hx
        simp only [Bool.and_eq_true, beq_iff_eq] at hb
        obtain ⟨h1, h2, rfl⟩ := hb
        have hcs := isRaw_row h1
        rw [h2] at hcs
        have hcs' : cs = rowR 2 := hcs
        subst hcs'
        refine (smallR_row2 w bl hv).mono ?_
        rintro e w' ⟨y, rfl, hy, ex⟩
        have : y = false := by
          cases y with
          | false => rfl
          | true => exact absurd ⟨hy.1 rfl 0 (by omega), hy.1 rfl 1 (by omega)⟩ hc
        subst this
        exact ⟨rfl, ex⟩
      · cases hx
    refine (fun_sound mixed (cfgS_ok (cfg_ok (.cons kAw_ok .nil)) hs ⟨_, Tryz.func25, by decide +kernel, by kernel_rfl⟩) no_asm hf h4 hR hn rfl w [v, u] rfl ?_).mono ?_
    · intro i x hx
      match i, hx with
      | 0, hx => injection hx with hx; subst hx; exact ⟨fun _ => 0, v, rfl, (one_rwC (i := 0)).2 h⟩
      | 1, hx => injection hx with hx; subst hx; exact ⟨fun _ => 0, u, rfl, (one_rwC (i := 6)).2 h'⟩
    · rintro e w' ⟨β, y, rfl, hh, ex⟩
      rw [lfB_out hh]
      exact ⟨rfl, ex⟩
end Go.Proofs.YtdblkeeicmncfaaGreat
end

/- ---- Rtn ---- -/
section
/-
  RootSum, RootSign, RootMul, RootInv, RootFloor.
-/
set_option maxRecDepth 100000
namespace Go.Proofs.YtdblkeeicmncfaaGreat
open Go.RowKit

theorem eq_parts {E : Env} {p q : IT2} {a b : Rat} (hp : RepQ E p a) (hq : RepQ E q b) : (BT.and (.eq p.1 q.1) (.eq p.2 q.2)).den E = decide (a = b) := by
  show (p.1.den E == q.1.den E && p.2.den E == q.2.den E) = _
  rw [hp.1, hp.2, hq.1, hq.2, Bool.eq_iff_iff, Bool.and_eq_true, beq_iff_eq, beq_iff_eq, decide_eq_true_iff]
  exact rat_eq_parts.symm
def rsT (A B C A' B' C' : IT2) : BT := smT6 A.1 A.2 B.1 B.2 C.1 C.2 A'.1 A'.2 B'.1 B'.2 C'.1 C'.2
theorem rs_den {E : Env} {A B C A' B' C' : IT2} {a b c a' b' c' : Rat} (hA : RepQ E A a) (hB : RepQ E B b) (hC : RepQ E C c) (hA' : RepQ E A' a') (hB' : RepQ E B' b') (hC' : RepQ E C' c') : (rsT A B C A' B' C').den E = (decide (a = a') && (decide (b = b') && decide (c = c'))) := by
  show ((BT.and (.eq A.1 A'.1) (.eq A.2 A'.2)).den E && ((BT.and (.eq B.1 B'.1) (.eq B.2 B'.2)).den E && (BT.and (.eq C.1 C'.1) (.eq C.2 C'.2)).den E)) = _
  rw [eq_parts hA hA', eq_parts hB hB', eq_parts hC hC']
theorem rs_true {E : Env} {A B C A' B' C' : IT2} {a b c a' b' c' : Rat} (hA : RepQ E A a) (hB : RepQ E B b) (hC : RepQ E C c) (hA' : RepQ E A' a') (hB' : RepQ E B' b') (hC' : RepQ E C' c') (e1 : a = a') (e2 : b = b') (e3 : c = c') : (rsT A B C A' B' C').den E = true := by
  rw [rs_den hA hB hC hA' hB' hC', decide_eq_true e1, decide_eq_true e2, decide_eq_true e3]; rfl
theorem Ok.symm {b c b' c' : Rat} (h : Ok b c b' c') : Ok b' c' b c := by
  rcases h with h | h | h
  · exact .inr (.inl h)
  · exact .inl h
  · exact .inr (.inr h.symm)
theorem isT {E : Env} {t : BT} {w w' : World} (ex : Ext w w') (h : t.den E = true) : IsTrue w (.returned (.bool (t.den E))) w' := ⟨by rw [h], ex⟩
/-- The common radicand does not depend on the order, where it counts. -/
theorem rC_cm {b c b' c' x : Rat} (h : Ok b c b' c') (hx : x ≠ 0 → b ≠ 0 ∨ b' ≠ 0) : rC x (cm b c c') = rC x (cm b' c' c) := by
  by_cases h0 : x = 0
  · subst h0; rw [rC_zero, rC_zero]
  · rw [rC_ne h0, rC_ne h0]
    by_cases hb : b = 0
    · have hb' : b' ≠ 0 := (hx h0).elim (fun k => absurd hb k) id
      rw [hb, cm_zero, cm_ne hb']
    · rw [cm_ne hb]
      by_cases hb' : b' = 0
      · rw [hb', cm_zero]
      · rw [cm_ne hb']
        rcases h with k | k | k
        · exact absurd k hb
        · exact absurd k hb'
        · exact k
/-- The radicand of a result is reduced. -/
theorem Rd.comb {b c b' c' x : Rat} (R : Rd b c) (R' : Rd b' c') (hx : x ≠ 0 → b ≠ 0 ∨ b' ≠ 0) : Rd x (rC x (cm b c c')) := by
  by_cases h0 : x = 0
  · subst h0; rw [rC_zero]; exact .inl ⟨rfl, rfl⟩
  · rw [rC_ne h0]
    by_cases hb : b = 0
    · have hb' : b' ≠ 0 := (hx h0).elim (fun k => absurd hb k) id
      rw [hb, cm_zero]
      rcases R' with ⟨k, _⟩ | ⟨_, k⟩
      · exact absurd k hb'
      · exact .inr ⟨h0, k⟩
    · rw [cm_ne hb]
      rcases R with ⟨k, _⟩ | ⟨_, k⟩
      · exact absurd k hb
      · exact .inr ⟨h0, k⟩
theorem rd_den {E : Env} {B C : IT2} {b c : Rat} (hB : RepQ E B b) (hC : RepQ E C c) (R : Rd b c) : (rdT B C).den E = true := by rw [rdT_den hB hC]; exact Rdb_iff.2 R
theorem nok_f {E : Env} {B C B' C' : IT2} {b c b' c' : Rat} (hB : RepQ E B b) (hC : RepQ E C c) (hB' : RepQ E B' b') (hC' : RepQ E C' c') (h : Ok b c b' c') : (nokT B C B' C').den E = false := (nokT_den hB hC hB' hC').2 h
theorem nok_t {E : Env} {B C B' C' : IT2} {b c b' c' : Rat} (hB : RepQ E B b) (hC : RepQ E C c) (hB' : RepQ E B' b') (hC' : RepQ E C' c') (h : ¬ Ok b c b' c') : (nokT B C B' C').den E = true := by
  cases hh : (nokT B C B' C').den E with
  | true => rfl
  | false => exact absurd ((nokT_den hB hC hB' hC').1 hh) h
theorem asm_nil {E : Env} : Asm.holds E [] := no_asm
theorem asm_and {E : Env} {t : BT} {b : Bool} {G : Asm} (h : t.den E = b) (k : G.holds E) : Asm.holds E ((t, b) :: G) := fun p hp => by
  rcases List.mem_cons.1 hp with rfl | hp
  · exact h
  · exact k p hp
theorem args_r1 {w : World} {v : Value} {a b c : Rat} {l : List Rat} (h : SmRt w v a b c) : ∀ (i : Nat) (x : AV), [aRl 0 4][i]? = some x → ∃ β u, [v][i]? = some u ∧ x.holds (qE (a :: b :: c :: l)) β w u := by
  intro i x hx
  match i, hx with
  | 0, hx => injection hx with hx; subst hx; exact ⟨fun _ => 0, v, rfl, aRl_holds h.is h.lim⟩
theorem args_r2 {w : World} {v u : Value} {a b c a' b' c' : Rat} {l : List Rat} (h : SmRt w v a b c) (h' : SmRt w u a' b' c') : ∀ (i : Nat) (x : AV), [aRl 0 4, aRl 3 4][i]? = some x → ∃ β y, [v, u][i]? = some y ∧ x.holds (qE (a :: b :: c :: a' :: b' :: c' :: l)) β w y := by
  intro i x hx
  match i, hx with
  | 0, hx => injection hx with hx; subst hx; exact ⟨fun _ => 0, v, rfl, aRl_holds h.is h.lim⟩
  | 1, hx => injection hx with hx; subst hx; exact ⟨fun _ => 0, u, rfl, aRl_holds (i := 3) h'.is h'.lim⟩
def g2 (n m : Bool) : Asm := [(rdT (qv 1) (qv 2), true), (rdT (qv 4) (qv 5), true), (nokT (qv 1) (qv 2) (qv 4) (qv 5), n), (nokT (qv 4) (qv 5) (qv 1) (qv 2), m)]
def zsT : BT := smT6 (.lit 0) (.lit 0) (.lit 0) (.lit 0) (.lit 0) (.lit 0) (.lit 0) (.lit 0) (.lit 0) (.lit 0) (.lit 0) (.lit 0)
section
variable {w : World} {v u : Value} {a b c a' b' c' : Rat}
theorem g2_f (R : Rd b c) (R' : Rd b' c') (h : Ok b c b' c') : (g2 false false).holds (qE [a, b, c, a', b', c']) := by
  obtain ⟨ra, rb, rc, ra', rb', rc'⟩ := rep6 (a := a) (b := b) (c := c) (a' := a') (b' := b') (c' := c')
  exact asm_and (rd_den rb rc R) (asm_and (rd_den rb' rc' R') (asm_and (nok_f rb rc rb' rc' h) (asm_and (nok_f rb' rc' rb rc h.symm) asm_nil)))
theorem g2_t (R : Rd b c) (R' : Rd b' c') (h : ¬ Ok b c b' c') : (g2 true true).holds (qE [a, b, c, a', b', c']) := by
  obtain ⟨ra, rb, rc, ra', rb', rc'⟩ := rep6 (a := a) (b := b) (c := c) (a' := a') (b' := b') (c' := c')
  exact asm_and (rd_den rb rc R) (asm_and (rd_den rb' rc' R') (asm_and (nok_t rb rc rb' rc' h) (asm_and (nok_t rb' rc' rb rc (fun k => h k.symm)) asm_nil)))
def rtA : IT2 × IT2 × IT2 := (qv 0, qv 1, qv 2)
def rtB : IT2 × IT2 × IT2 := (qv 3, qv 4, qv 5)
def cmA : IT2 := cmT (qv 1) (qv 2) (qv 5)
def cmB : IT2 := cmT (qv 4) (qv 5) (qv 2)
/-- RootSum. -/
theorem sum_small (h : SmRt w v a b c) (h' : SmRt w u a' b' c') : Calls Tryz.prog 6 #[v, u] w (IsTrue w) := by
  obtain ⟨ra, rb, rc, ra', rb', rc'⟩ := rep6 (a := a) (b := b) (c := c) (a' := a') (b' := b') (c' := c')
  by_cases hok : Ok b c b' c'
  · refine (fun_sound (E := qE [a, b, c, a', b', c']) (G := g2 false false) (T := lfB (rsT (addA rtA rtB) (addB rtA rtB) (qop 5 (addB rtA rtB) cmA) (addA rtB rtA) (addB rtB rtA) (qop 5 (addB rtB rtA) cmB)))
      mixed (cL_ok (tab := []) (qE_ok _) .nil (smRT_ok2 h h')) (g2_f h.rd h'.rd hok) Tryz.func6 (by decide +kernel) (by kernel_rfl) (by decide +kernel) rfl w [v, u] rfl (args_r2 h h')).mono ?_
    rintro e w' ⟨β, y, rfl, hh, ex⟩
    rw [lfB_out hh]
    refine isT ex (rs_true (rep_add ra ra') (rep_add rb rb') (rep_rC (rep_add rb rb') (rep_cm rb rc rc')) (rep_add ra' ra) (rep_add rb' rb) (rep_rC (rep_add rb' rb) (rep_cm rb' rc' rc)) (by grind) (by grind) ?_)
    rw [show b' + b = b + b' by grind]
    exact rC_cm hok (fun h0 => by
      by_cases hb : b = 0
      · exact .inr (fun hb' => h0 (by rw [hb, hb']; grind))
      · exact .inl hb)
  · refine (fun_sound (E := qE [a, b, c, a', b', c']) (G := g2 true true) (T := lfB zsT)
      mixed (cL_ok (tab := []) (qE_ok _) .nil (smRT_ok2 h h')) (g2_t h.rd h'.rd hok) Tryz.func6 (by decide +kernel) (by kernel_rfl) (by decide +kernel) rfl w [v, u] rfl (args_r2 h h')).mono ?_
    rintro e w' ⟨β, y, rfl, hh, ex⟩
    rw [lfB_out hh]
    exact ⟨rfl, ex⟩
end
theorem rootSum_calls (w : World) (v u : Value) (p1 p2 p3 p4 p5 p6 q1 q2 q3 q4 q5 q6 : RI) (h : RawR w v p1 p2 p3 p4 p5 p6) (h' : RawR w u q1 q2 q3 q4 q5 q6) : Calls Tryz.prog 6 #[v, u] w (IsTrue w) :=
  lawR2_any Tryz.func6 (by decide +kernel) (by kernel_rfl) (by decide +kernel) w v u p1 p2 p3 p4 p5 p6 q1 q2 q3 q4 q5 q6 h h' (fun _ _ _ _ _ _ k k' => sum_small k k')
/-- Make with the denominator 1. -/
def kMk1 : Con
  | [.val true [.int x l], .val true [.int (.lit z) _]], _ => if lo l && z == 1 then some (.tup [(true, [.int x l, .int (.lit 1) 1]), (false, [.n .i64 (.lit 0)])]) else none
  | _, _ => none
theorem kMk1_ok {E : Env} {f : Nat} (hc : ∀ (w : World) (v u : Value) (a b : Int), IsInt w v a → IsInt w u b → Lim 400000 a → Lim 400000 b → Calls Tryz.prog f #[v, u] w (RetMake a b w))
    (hb : ∃ fn, Tryz.prog.funcs[f]? = some fn ∧ fn.name ≠ "runtime.NumGoroutine" ∧ fn.body.isNone = false) : ConOK Tryz.prog E f kMk1 := by
  refine ⟨?_, ?_, hb⟩
  · intro args G r h hG β w vs hv hlen
    unfold kMk1 at h
    split at h
    · rename_i x l z m
      split at h
      · rename_i hcd
        simp only [lo, Bool.and_eq_true, decide_eq_true_iff, beq_iff_eq] at hcd
        obtain ⟨hl, rfl⟩ := hcd
        injection h with h
        subst h
        obtain ⟨v, u, rfl, h1, h2⟩ := args2 hv hlen
        obtain ⟨i1, l1⟩ := one_int.1 h1
        obtain ⟨i2, l2⟩ := one_int.1 h2
        refine (hc w v u _ _ i1 i2 (l1.mono hl) ((lim1 (z := 1) (by decide)).mono (by omega))).mono ?_
        rintro e w' ⟨x0, x1, x2, x3, rfl, k1, k2, ex⟩
        have e1 : Rat.divInt (x.den E) 1 = ((x.den E : Int) : Rat) := (intCast_divInt _).symm
        have e2 : denZ (x.den E) 1 = 1 := by
          unfold denZ
          rw [if_neg (by decide), e1, Rat.den_intCast]; rfl
        have k1' : IsInt w' (.agg #[x0, x1]) (Rat.divInt (x.den E) 1).num := k1
        have k2' : IsInt w' (.agg #[x2, x3]) (denZ (x.den E) 1) := k2
        rw [e1, Rat.num_intCast] at k1'
        rw [e2] at k2'
        exact ⟨_, rfl, ⟨[.agg #[x0, x1, x2, x3], .int .i64 0], rfl, _, _, rfl, one_pair.2 ⟨⟨x0, x1, x2, x3, rfl, k1', k2'⟩, l1, lim1 (z := 1) (by decide)⟩, _, _, rfl, one_num.2 rfl, rfl⟩, ex⟩
      · cases h
    · cases h
  · intro args G r h x off
    unfold kMk1 at h
    split at h
    · split at h
      · injection h with h; subst h; intro e; cases e
      · cases h
    · cases h
end Go.Proofs.YtdblkeeicmncfaaGreat
end

/- ---- Lift ---- -/
section
/-
  How an argument that is a struct of a bool and a slice of uint32 is read.
-/
set_option maxRecDepth 100000
namespace Go.Proofs.YtdblkeeicmncfaaGreat
open Go.ChangeShapes Go.WideShapes Go.ChangeAt Go.RowKit Go.Joins

theorem own : ownKnob Tryz.prog.godebug = none := by kernel_rfl
theorem laidOut : laidOutB Tryz.prog = true := by kernel_rfl

theorem open_cells {H : Type} {enc : TypeId × Value → H} {W : World} {base : Nat} {spare : Nat → Bool} {held : Bool} {v0 v1 : Value} {y0 y1 : DataW H × List MemPlace} {n : Nat}
    (h0 : DataW.trod enc Tryz.prog W base spare held n 4 [v0] = some y0) (h1 : DataW.trod enc Tryz.prog W base spare held n 22 [v1] = some y1) : ∃ neg xs, Raw W (.agg #[v0, v1]) neg xs := by
  obtain ⟨b, hb0, _⟩ := DataW.trod_bool Tryz.underlying4 h0
  simp only [List.cons.injEq, and_true] at hb0
  subst hb0
  rcases open_ints Tryz.underlying22 Tryz.underlying112 (by kernel_rfl) h1 with ⟨hcs, _⟩ | ⟨x, l, c, zs, hcs, _, hl, hm, hz, _, hcell, hwz⟩
  · simp only [List.cons.injEq, and_true] at hcs
    subst hcs
    exact ⟨b, [], none, 0, rfl, by simp, by omega, Cells.nil _ _⟩
  · simp only [List.cons.injEq, and_true] at hcs
    subst hcs
    have hlz : l ≤ zs.length := by rw [hz]; split <;> omega
    have hlen : ((zs.take l).map Int.toNat).length = l := by simp [hlz]
    refine ⟨b, (zs.take l).map Int.toNat, some x, c, by rw [hlen], by rw [hlen]; exact hl, by unfold maxLen at hm; omega, ?_⟩
    rcases Nat.eq_zero_or_pos l with h0 | h0
    · exact .inl (List.eq_nil_of_length_eq_zero (by rw [hlen]; exact h0))
    · obtain ⟨bb, off, rfl, hc⟩ := ints_at hcell (by omega)
      refine .inr ⟨bb, off, rfl, fun i hi => ?_⟩
      rw [hlen] at hi
      rw [hc i (by omega)]
      have hmem : zs.getD i 0 ∈ zs := by
        rw [List.getD_eq_getElem?_getD, List.getElem?_eq_getElem (by omega)]
        exact List.getElem_mem _
      have hw := hwz _ hmem
      have hb2 : 0 ≤ zs.getD i 0 := by
        have : 0 ≤ zs.getD i 0 ∧ zs.getD i 0 ≤ 4294967295 := by simpa [Lit.wf, IntKind.min, IntKind.max, IntKind.signed, IntKind.bits] using hw
        exact this.1
      have he : ((zs.take l).map Int.toNat).getD i 0 = (zs.getD i 0).toNat := by
        simp only [List.getD_eq_getElem?_getD, List.getElem?_map, List.getElem?_take]
        rw [if_pos hi]
        rw [List.getElem?_eq_getElem (by omega)]
        rfl
      rw [he]
      congr 2
      omega

theorem open_arg {H : Type} {enc : TypeId × Value → H} {W : World} {b0 base : Nat} {spare : Nat → Bool} {held : Bool} {r : Reach} {v : Value} {d : DataW H} {p : List MemPlace}
    (hv : Value.okWide Tryz.prog W r b0 24 v) (h : DataW.Trod enc Tryz.prog W base spare held 24 v d p) : ∃ neg xs, Raw W v neg xs := by
  obtain ⟨v0, v1, y0, y1, n, rfl, rfl, rfl, h0, h1⟩ := open_agg2 Tryz.underlying24 (by kernel_rfl) (by kernel_rfl) hv h
  exact open_cells h0 h1

end Go.Proofs.YtdblkeeicmncfaaGreat
end

/- ---- Liftr ---- -/
section
/-
  How arguments that are rational numbers, or roots, are read.
-/
set_option maxRecDepth 100000
namespace Go.Proofs.YtdblkeeicmncfaaGreat
open Go.ChangeShapes Go.WideShapes Go.ChangeAt Go.RowKit Go.Joins

theorem open_two {H : Type} {enc : TypeId × Value → H} {W : World} {base : Nat} {spare : Nat → Bool} {held : Bool} {v0 v1 : Value} {y : DataW H × List MemPlace} {n : Nat}
    (h : DataW.trod enc Tryz.prog W base spare held n 24 [v0, v1] = some y) : ∃ neg xs, Raw W (.agg #[v0, v1]) neg xs := by
  obtain ⟨y0, y1, n, hx, _, h0, h1⟩ := trod_struct2 Tryz.underlying24 h
  have cb : Tryz.prog.cellsOf 4 = 1 := by kernel_rfl
  have cs : Tryz.prog.cellsOf 22 = 1 := by kernel_rfl
  exact open_cells (v0 := v0) (v1 := v1) (by simpa [cb] using h0) (by simpa [cs] using h1)
theorem open_rat4 {H : Type} {enc : TypeId × Value → H} {W : World} {base : Nat} {spare : Nat → Bool} {held : Bool} {c0 c1 c2 c3 : Value} {y : DataW H × List MemPlace} {n : Nat}
    (h : DataW.trod enc Tryz.prog W base spare held n 26 [c0, c1, c2, c3] = some y) : ∃ p q : RI, RawQ W (.agg #[c0, c1, c2, c3]) p.1 p.2 q.1 q.2 := by
  have k2 : Tryz.prog.cellsOf 24 = 2 := by kernel_rfl
  obtain ⟨y0, y1, n, hx, _, h0, h1⟩ := trod_struct2 Tryz.underlying26 h
  obtain ⟨s1, xs1, w1⟩ := open_two (v0 := c0) (v1 := c1) (by simpa [Value.cells, k2] using h0)
  obtain ⟨s2, xs2, w2⟩ := open_two (v0 := c2) (v1 := c3) (by simpa [Value.cells, k2] using h1)
  exact ⟨(s1, xs1), (s2, xs2), c0, c1, c2, c3, rfl, w1, w2⟩
theorem arr4 {cs : Array Value} (h : cs.size = 4) : ∃ c0 c1 c2 c3, cs = #[c0, c1, c2, c3] := by
  obtain ⟨l⟩ := cs
  have h' : l.length = 4 := h
  match l, h' with
  | [c0, c1, c2, c3], _ => exact ⟨c0, c1, c2, c3, rfl⟩
theorem arr12 {cs : Array Value} (h : cs.size = 12) : ∃ c0 c1 c2 c3 c4 c5 c6 c7 c8 c9 c10 c11, cs = #[c0, c1, c2, c3, c4, c5, c6, c7, c8, c9, c10, c11] := by
  obtain ⟨l⟩ := cs
  have h' : l.length = 12 := h
  match l, h' with
  | [c0, c1, c2, c3, c4, c5, c6, c7, c8, c9, c10, c11], _ => exact ⟨c0, c1, c2, c3, c4, c5, c6, c7, c8, c9, c10, c11, rfl⟩
theorem open_rq {H : Type} {enc : TypeId × Value → H} {W : World} {b0 base : Nat} {spare : Nat → Bool} {held : Bool} {r : Reach} {v : Value} {d : DataW H} {p : List MemPlace}
    (hv : Value.okWide Tryz.prog W r b0 26 v) (h : DataW.Trod enc Tryz.prog W base spare held 26 v d p) : ∃ p q : RI, RawQ W v p.1 p.2 q.1 q.2 := by
  obtain ⟨cs, rfl, hsz⟩ := okWide_struct Tryz.underlying26 hv
  have c4 : Tryz.prog.cellsOf 26 = 4 := by kernel_rfl
  obtain ⟨c0, c1, c2, c3, rfl⟩ := arr4 (hsz.trans c4)
  obtain ⟨fuel, hf⟩ := h
  exact open_rat4 (by simpa [Value.cells] using hf)
theorem open_root {H : Type} {enc : TypeId × Value → H} {W : World} {b0 base : Nat} {spare : Nat → Bool} {held : Bool} {r : Reach} {v : Value} {d : DataW H} {p : List MemPlace}
    (hv : Value.okWide Tryz.prog W r b0 30 v) (h : DataW.Trod enc Tryz.prog W base spare held 30 v d p) : ∃ p1 p2 p3 p4 p5 p6 : RI, RawR W v p1 p2 p3 p4 p5 p6 := by
  obtain ⟨cs, rfl, hsz⟩ := okWide_struct Tryz.underlying30 hv
  have c12 : Tryz.prog.cellsOf 30 = 12 := by kernel_rfl
  have k4 : Tryz.prog.cellsOf 26 = 4 := by kernel_rfl
  obtain ⟨c0, c1, c2, c3, c4, c5, c6, c7, c8, c9, c10, c11, rfl⟩ := arr12 (hsz.trans c12)
  obtain ⟨fuel, hf⟩ := h
  obtain ⟨xs, n, _, _, _, hlen, hfl⟩ := DataW.trod_struct Tryz.underlying30 hf
  match xs, hlen with
  | [y0, y1, y2], _ =>
    have h0 := hfl 0 _ rfl
    have h1 := hfl 1 _ rfl
    have h2 := hfl 2 _ rfl
    obtain ⟨p1, p2, w1⟩ := open_rat4 (c0 := c0) (c1 := c1) (c2 := c2) (c3 := c3) (y := y0) (by simpa [Value.cells, k4] using h0)
    obtain ⟨p3, p4, w2⟩ := open_rat4 (c0 := c4) (c1 := c5) (c2 := c6) (c3 := c7) (y := y1) (by simpa [Value.cells, k4] using h1)
    obtain ⟨p5, p6, w3⟩ := open_rat4 (c0 := c8) (c1 := c9) (c2 := c10) (c3 := c11) (y := y2) (by simpa [Value.cells, k4] using h2)
    exact ⟨p1, p2, p3, p4, p5, p6, [c0, c1, c2, c3], [c4, c5, c6, c7], [c8, c9, c10, c11], rfl, w1, w2, w3⟩
end Go.Proofs.YtdblkeeicmncfaaGreat
end
