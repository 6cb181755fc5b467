/-
  small and cp.
-/
import Derived.Test.YtfjaboolfjgleaaAwake2
namespace Go.Proofs.Ytfjaboolfjgleaa
open Go.RowKit

/-- Element k of a slice of structs. -/
def Item (w : World) (g k : Nat) (p : Bool × List Nat) : Prop := ∃ ao cap, w.cell? ⟨g, k * 2, none⟩ = some (.bool p.1) ∧ w.cell? ⟨g, k * 2 + 1, none⟩ = some (.slice ao p.2.length cap) ∧ p.2.length ≤ cap ∧ cap ≤ 9223372036854775807 ∧ Cells w ao p.2
def smB (p : Bool × List Nat) : Bool := decide (p.2.length ≤ 16) && okB p.1 p.2

theorem rsmall16 (w : World) (v : Value) (neg : Bool) (xs : List Nat) (h : Raw w v neg xs) :
    Calls Try.prog 35 #[v, .int .i64 16] w fun e w' => e = .returned (.bool (smB (neg, xs))) ∧ Ext w w' := rsmall_calls w v neg xs 16 h

set_option maxRecDepth 100000 in
set_option maxHeartbeats 1600000 in
theorem small_calls (w : World) (g : Nat) (L : List (Bool × List Nat)) (hL : L.length ≤ 1000) (h : ∀ k, k < L.length → Item w g k (L.getD k (false, []))) :
    Calls Try.prog 15 #[.slice (some ⟨g, 0, none⟩) L.length L.length] w fun e w' => e = .returned (.bool (L.all smB)) ∧ Ext w w' := by
  have hLI : (L.length : Int) ≤ 1000 := by omega
  clear hL
  have HH := Lib.hid h
  clear h
  go_enter Try.func15, Try.ntmps15
  go_wp2
  go_loopw [4, 7] (fun _ i wr => ∃ k : Nat, k ≤ L.length ∧ i = .int .i64 k ∧ Ext w wr ∧ Hid ((L.take k).all smB = true)) (fun _ i _ => L.length - (intOf i).toNat)
  case atStart => exact ⟨0, Nat.zero_le _, rfl, Ext.refl w, rfl⟩
  case round =>
    obtain ⟨k, hk, rfl, hE, HA⟩ := hrel
    by_cases hk2 : k < L.length
    · obtain ⟨ao, cap, c0, c1, k1, k2, k3⟩ := HH.out k hk2
      have HT : Hid ((L.take (k + 1)).all smB = smB (L.getD k (false, [])) ∧ L.all smB = (smB (L.getD k (false, [])) && (L.drop (k + 1)).all smB)) := by
        have e1 : L.take (k + 1) = L.take k ++ [L.getD k (false, [])] := by
          rw [List.take_succ_eq_append_getElem hk2]; simp [List.getD_eq_getElem?_getD, hk2]
        refine ⟨by rw [e1, List.all_append, HA.out]; simp, ?_⟩
        have e2 : L.all smB = ((L.take (k + 1)).all smB && (L.drop (k + 1)).all smB) := by rw [← List.all_append, List.take_append_drop]
        rw [e2, e1, List.all_append, HA.out]; simp
      replace c0 := hE.cell c0
      replace c1 := hE.cell c1
      replace k3 := k3.ext hE
      generalize L.getD k (false, []) = p at *
      obtain ⟨neg, xs⟩ := p
      have hR : Raw wr (.agg #[.bool neg, .slice ao xs.length cap]) neg xs := ⟨ao, cap, rfl, k1, k2, k3⟩
      obtain ⟨wo, rfl⟩ : ∃ wo : World, wo = wr := ⟨_, rfl⟩
      have HS := Lib.hid (rsmall16 _ _ neg xs (hR.ext ((Ext.refl wo).alloc (.cells #[.bool neg, .slice ao xs.length cap] 24))))
      cases hb : smB (neg, xs)
      · rw [hb] at HS HT
        have HT2 := Lib.hid HT.out.2
        clear hb HT
        go_wp2_with fail
        refine HS.out.mono ?_
        rintro e w1 ⟨rfl, e1⟩
        go_wp2
        go_ret
        exact ⟨ret_bool (by rw [HT2.out]; rfl), (hE.alloc _).trans e1⟩
      · rw [hb] at HS HT
        have HT2 := Lib.hid HT.out.1
        clear hb HT
        go_wp2_with fail
        refine HS.out.mono ?_
        rintro e w1 ⟨rfl, e1⟩
        go_wp2
        go_roundw
        case rel => exact ⟨k + 1, by omega, by go_num, (hE.alloc _).trans e1, HT2.out⟩
        case measure => simp [intOf]; omega
    · have HF : Hid (L.all smB = true) := by
        unfold Hid; have := HA.out; rwa [List.take_of_length_le (by omega)] at this
      go_wp2
      go_ret
      exact ⟨ret_bool HF.out.symm, hE⟩

/-- An append of a slice of uint32 to an empty slice of the call's own. -/
theorem step_append_run {P : Program} {ops : Array Oper} {o : Oper} {a : Act} {w : World} {K : Act → World → Prop} {Q : Exit → Act → World → Prop} {E : Prop} (hgd : o.guard = none) (s x : Operand) (t : TypeId)
    (ho : o.op = .call { callee := .builtin .append, args := #[s, x], argTypes := #[t, t] }) {vs vx v' : Value} {w' : World} (hs : a.eval s = vs) (hx : a.eval x = vx)
    (hrun : (Builtin.append_ #[t, t] o.type #[vs, vx]).run P w = .ok v' w') (h : K (a.put o.dst v') w') :
    if Region.wanted o (yielded ops a.tmps) = true then Oper.wp P o a w K Q else E := by
  have hw : Region.wanted o (yielded ops a.tmps) = true := by simp [Region.wanted, hgd]
  rw [if_pos hw]
  unfold Oper.wp
  simp [execOp, ho, resolve, invoke, builtin, hs, hx, hrun, Result.andThen]
  exact h
theorem run_append_nil {P : Program} {w : World} (base : Nat) (t ty e : TypeId) (i : TypeInfo) (size : Nat) (ht : P.underlying t = some (.slice e)) (hi : P.info? e = some i)
    (v : Value) (n : Nat) (xs : List Value) (hown : w.ownsRow base e size v n xs) (c : Nat) : (Builtin.append_ #[t, t] ty #[v, .slice none 0 c]).run P w = .ok v w := by
  rcases hown.2 with ⟨rfl, rfl⟩ | ⟨g, cap, cur, rfl, _, _, hnc, _⟩
  · simp [Builtin.append_, run_underlying ht, sizeOf, typeInfo, hi, Builtin.lenOf, Builtin.firstCells]
  · simp [Builtin.append_, run_underlying ht, sizeOf, typeInfo, hi, Builtin.lenOf, Builtin.firstCells, hnc, storeCells]
/-- What such an append leaves. -/
theorem run_append_new (w : World) (ty : TypeId) (ao : Option Addr) (xs : List Nat) (c : Nat) (lx : xs.length ≤ 1099511627776) (h : Cells w ao xs) :
    ∃ ao' cap w1, (Builtin.append_ #[22, 22] ty #[.slice (some ⟨w.heap.size, 0, none⟩) 0 0, .slice ao xs.length c]).run Try.prog (w.alloc (.cells #[] 46)) = .ok (.slice ao' xs.length cap) w1 ∧ xs.length ≤ cap ∧ cap ≤ 9223372036854775807 ∧ Ext w w1 ∧ Cells w1 ao' xs := by
  obtain ⟨i0, hi, hz0, hz1, hz2⟩ := info_parts info_u32
  have hown := World.ownsRow_made (base := w.heap.size) (e := 46) (size := 1) w #[] 0 (Nat.le_refl _) (by simp) (by simp)
  rcases ao with _ | a
  · obtain rfl : xs = [] := by
      rcases h with h | ⟨b, off, hh, _⟩
      · exact h
      · cases hh
    exact ⟨_, 0, _, run_append_nil (P := Try.prog) w.heap.size 22 ty 46 i0 1 Try.underlying22 hi _ 0 [] hown c, by simp, by omega, (Ext.refl w).alloc _, Cells.nil _ _⟩
  · have hnews : ∀ j u, (xs.map fun x => Value.int .u32 ((x : Nat) : Int))[j]? = some u → (w.alloc (.cells #[] 46)).cell? (a.add j) = some u := by
      intro j u hu
      refine ((Ext.refl w).alloc _).cell ?_
      rcases h with h | ⟨b, off, hh, hx⟩
      · subst h; simp at hu
      · injection hh with hh
        subst hh
        rw [List.getElem?_map] at hu
        obtain ⟨x, hx1, rfl⟩ := Option.map_eq_some_iff.1 hu
        have hj : j < xs.length := (List.getElem?_eq_some_iff.1 hx1).1
        have := hx j hj
        rw [List.getD_eq_getElem?_getD, hx1] at this
        by_cases h0 : j = 0
        · subst h0; simpa [Addr.add] using this
        · simpa [Addr.add, h0] using this
    obtain ⟨v', w1, hrun, hown1, hgrow, hnil⟩ := run_append_own (P := Try.prog) (w.alloc (.cells #[] 46)) w.heap.size 22 ty 46 i0 (.int .u32 0) 1 4 Try.underlying22 hi hz0 hz1 hz2 rfl (by decide) _ 0 [] hown a xs.length c (xs.map fun x => Value.int .u32 ((x : Nat) : Int)) (by simp) hnews
      (by intro u hu; obtain ⟨x, _, rfl⟩ := List.mem_map.1 hu; rfl) (by unfold maxLen; omega) (by omega) (by simp)
    rw [Nat.zero_add, List.nil_append] at hown1
    have hE : Ext w w1 := Below.grown ((Ext.refl w).alloc _) hgrow (by simp) (fun k hk => by simp [Value.ownBlock] at hk; omega)
    rcases hown1.2 with ⟨rfl, _⟩ | ⟨g, cap, cur, rfl, hg, _, hnc, hcm, _, _⟩
    · exact absurd (hnil.1 rfl).1 (by simp)
    · exact ⟨_, cap, w1, hrun, hnc, by unfold maxLen at hcm; omega, hE, (Blk.of_owns hown1).cells⟩

theorem fin_raw {w w2 : World} {neg b0 : Bool} {ao a0 : Option Addr} {xs : List Nat} {cap l0 k0 : Nat} {r : Nat} (x1 : xs.length ≤ cap) (x2 : cap ≤ 9223372036854775807) (x3 : Cells w2 ao xs)
    (c0 : w2.cell? ⟨r, 0, none⟩ = some (.bool b0)) (c1 : w2.cell? ⟨r, 1, none⟩ = some (.slice a0 l0 k0)) (hr : w.heap.size ≤ r) (e : Ext w w2) :
    Ret (fun v' w' => Raw w' v' neg xs) w (.returned (.agg #[.bool neg, .slice ao xs.length cap])) ((w2.setCell ⟨r, 0, none⟩ (.bool neg)).setCell ⟨r, 1, none⟩ (.slice ao xs.length cap)) := by
  have k1 : (w2.setCell ⟨r, 0, none⟩ (.bool neg)).cell? ⟨r, 1, none⟩ = some (.slice a0 l0 k0) := by
    rw [World.cell?_setCell_other _ _ _ _ (by simp)]; exact c1
  exact ⟨_, rfl, ⟨ao, cap, rfl, x1, x2, (x3.store c0 (by simp) _).store k1 (by simp) _⟩, (e.setCell (p := ⟨r, 0, none⟩) hr _).setCell (p := ⟨r, 1, none⟩) hr _⟩

set_option maxHeartbeats 800000 in
theorem cp_calls (w : World) (v : Value) (neg : Bool) (xs : List Nat) (h : Raw w v neg xs) (lx : xs.length ≤ 1048576) :
    Calls Try.prog 13 #[v] w (Ret (fun v' w' => Raw w' v' neg xs) w) := by
  obtain ⟨ao, cap, rfl, h1, h2, h3⟩ := h
  obtain ⟨W, hW, eW, c0, c1, r0, r1, f0, f1⟩ := boxes1r w (.bool neg) (.slice ao xs.length cap) 24
  obtain ⟨ao', cap', w1, hrun, x1, x2, e1, x3⟩ := run_append_new W.drew 22 ao xs cap (by omega) ((h3.ext eW).drew)
  have HRUN := Lib.hid hrun
  have c01 := e1.of_drew.cell c0
  have c11 := e1.of_drew.cell c1
  have r01 := e1.of_drew.cell r0
  have r11 := e1.of_drew.cell r1
  have f01 := e1.of_drew.frozen (lt_of_cell r0) f0
  have f11 := e1.of_drew.frozen (lt_of_cell r1) f1
  have c0d : W.drew.cell? ⟨w.heap.size, 0, none⟩ = some (.bool neg) := c0
  have c1d : W.drew.cell? ⟨w.heap.size, 1, none⟩ = some (.slice ao xs.length cap) := c1
  clear hrun
  go_enter Try.func13, Try.ntmps13
  go_wp2_with fail
  clear hW
  go_region_held3 (fun w' => w'.cell? ⟨w.heap.size, 0, none⟩ = some (.bool neg) ∧ w'.cell? ⟨w.heap.size, 1, none⟩ = some (.slice ao xs.length cap))
    (first | with_reducible exact ⟨c0d, c1d⟩ | with_reducible exact ⟨c01, c11⟩ | with_reducible exact ⟨keep_store c01 (by omega), keep_store c11 (by omega)⟩ | go_keep) ((refine step_append_run (by rfl) _ _ 22 (by rfl) (by rfl) (by rfl) HRUN.out ?_))
  go_wp2
  exact bodyPost_ret (v := .agg #[.bool neg, .slice ao' xs.length cap']) (by simp [results, Try.results13, go_sem, r01, r11]) rfl (fin_raw x1 x2 x3 r01 r11 (by omega) (eW.trans e1.of_drew))

end Go.Proofs.Ytfjaboolfjgleaa
