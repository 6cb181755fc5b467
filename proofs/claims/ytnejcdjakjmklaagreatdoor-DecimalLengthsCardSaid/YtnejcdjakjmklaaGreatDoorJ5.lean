/-
  Texts of this seat, joined.
-/
import Derived.Test.YtnejcdjakjmklaaGreatDoorJ4
import Derived.Laws.FloatArith
import Derived.Laws.Externs
import Ieee.Arith
import Derived.Lay
import Derived.PinnedBridge
import Derived.Shelf.Strings.SlTrimAscii
section
set_option maxRecDepth 100000
namespace Go.Proofs.YtnejcdjakjmklaaGreatDoor
open Go.RowKit
theorem run_append_own_limbs (w : World) (B : Nat) (hB : B ≤ w.heap.size) (ty : TypeId) (v : Value) (zs : List Nat) (lz : zs.length ≤ 1099511627776) (hz : 0 < zs.length) (hown : w.ownsRow B 97 1 v zs.length (zs.map fun x => Value.int .u32 ((x : Nat) : Int))) (b : Nat) (xs : List Nat) (c : Nat) (lx : xs.length ≤ 1099511627776)
    (h : ∀ i, i < xs.length → w.cell? ⟨b, i, none⟩ = some (.int .u32 ((xs.getD i 0 : Nat) : Int))) :
    ∃ ao' cap w1, (Builtin.append_ #[22, 22] ty #[v, .slice (some ⟨b, 0, none⟩) xs.length c]).run Tryz.prog w = .ok (.slice ao' (zs.length + xs.length) cap) w1 ∧
      zs.length + xs.length ≤ cap ∧ cap ≤ 9223372036854775807 ∧ Below B w w1 ∧ Cells w1 ao' (zs ++ xs) := by
  obtain ⟨i0, hi, hz0, hz1, hz2⟩ := info_parts info_u32
  have hnews : ∀ j u, (xs.map fun x => Value.int .u32 ((x : Nat) : Int))[j]? = some u → w.cell? ((⟨b, 0, none⟩ : Addr).add j) = some u := by
    intro j u hu
    rw [List.getElem?_map] at hu
    obtain ⟨x, hx1, rfl⟩ := Option.map_eq_some_iff.1 hu
    have hj : j < xs.length := (List.getElem?_eq_some_iff.1 hx1).1
    have := h j hj
    rw [List.getD_eq_getElem?_getD, hx1] at this
    by_cases h0 : j = 0
    · subst h0; simpa [Addr.add] using this
    · simpa [Addr.add, h0] using this
  obtain ⟨v', w1, hrun, hown1, hgrow, hnil⟩ := run_append_own (P := Tryz.prog) w B 22 ty 97 i0 (.int .u32 0) 1 4 Tryz.underlying22 hi hz0 hz1 hz2 rfl (by decide) _ _ _ hown ⟨b, 0, none⟩ xs.length c (xs.map fun x => Value.int .u32 ((x : Nat) : Int)) (by simp) hnews
    (by intro u hu; obtain ⟨x, _, rfl⟩ := List.mem_map.1 hu; rfl) (by unfold maxLen; omega) (by omega) hB
  rw [← List.map_append, ← List.length_append] at hown1
  have hE : Below B w w1 := Below.grown (Below.refl _ _) hgrow hB (fun k hk => (hown.lt k hk).1)
  rcases hown1.2 with ⟨rfl, h0⟩ | ⟨g, cap, cur, rfl, hg, _, hnc, hcm, _, _⟩
  · exfalso
    rw [List.length_append] at h0
    omega
  · rw [List.length_append] at hnc
    exact ⟨_, cap, w1, by rw [hrun, List.length_append], hnc, by unfold maxLen at hcm; omega, hE, (Blk.of_owns hown1).cells⟩

def sqI : LInv where
  lk := [(1, .ptr 1 0), (2, .ptr 2 0), (4, .ptr 4 0), (5, .ptr 5 0)]
  vr := [(1, [.int (.var 0) 100000]), (2, [.int (.lit 0) 0]), (4, [.int (.var 1) 100001]), (5, [.int (.lit 2) 3])]
  vs := [1]
  G := []
  lm := [(1, 100001)]
def sqNext : IT := .a2 4 (.a2 0 (.var 1) (.a2 4 (.var 0) (.var 1))) (.lit 2)
def sqLeaf : List (Bool × List Chunk) := [(true, [.int (.var 1) 100001]), (false, [.n .i64 (.lit 0)])]
def sqTree : LTree := .ite (.le (.lit 0) (.a2 3 sqNext (.var 1))) (.leaf sqLeaf) (.again 0 [sqNext])
def tabRsq : List (Nat × Con) := [(90, kDM), (91, kII (.a2 0) (fun l m => max l m + 1)), (56, kIIn (.a2 3))]
theorem tabRsq_ok {E : Env} : TabOK Tryz.prog E tabRsq :=
  .cons (kDMg_ok (fun w v u a b h k l1 l2 => rdivMod_fn w v u a b h k l1 l2) ⟨_, Tryz.func90, by decide +kernel, by kernel_rfl⟩)
    (.cons (tabR1_ok.all (91, kII (.a2 0) (fun l m => max l m + 1)) (by simp [tabR1]))
      (.cons (kIIn_ok cmpZ (fun _ _ => rfl) (fun w v1 v2 z1 z2 h1 h2 => rcmp_calls w v1 v2 z1 z2 h1 h2) ⟨_, Tryz.func56, by decide +kernel, by kernel_rfl⟩) .nil))

theorem VarAt.new {E : Env} {w : World} {cs : List Chunk} {vs : List Value} {t : TypeId} (h : chunks E w cs vs) : VarAt E (w.alloc (.cells vs.toArray t)) w.heap.size cs := by
  have hk := Kp.of (B := w.heap.size) ((Ext.refl w).alloc (.cells vs.toArray t)) (Nat.le_refl _)
  have hh : (w.alloc (.cells vs.toArray t)).heap[w.heap.size]? = some (.cells vs.toArray t (0, 0)) := heap_alloc_new w _
  refine ⟨vs, chunks_keep hk h, fun i v hi => ⟨?_, ?_⟩⟩
  · simp only [World.cell?, hh]
    simpa using hi
  · simp only [World.frozen?, hh]
    simp
theorem chunks_int {E : Env} {w : World} {x y : Value} {t : IT} {l : Nat} {z : Int} (h : IsInt w (.agg #[x, y]) z) (hz : t.den E = z) (hl : Lim l z) : chunks E w [.int t l] [x, y] :=
  ⟨[x, y], [], rfl, ⟨x, y, rfl, by rw [hz]; exact h, by rw [hz]; exact hl⟩, rfl⟩
theorem sq_run (n : Nat) (hn : 0 < n) : ∀ (x : Nat), 0 < x → n < (x + 1) * (x + 1) → Lim 100001 (x : Int) → ∃ m E', Run (fun _ => True) (noStk.set 0 (sqI, sqTree)) sqTree ((zE [(n : Int), 0]).upd [1] [(x : Int)]) m E' sqLeaf ∧ E'.i 1 = (isqN n : Int) := by
  intro x
  induction x using Nat.strongRecOn with
  | ind x ih =>
    intro hx hu hl
    have hq : dq (n : Int) (x : Int) = ((n / x : Nat) : Int) := by rw [dq_pos (by omega)]; exact (Int.natCast_ediv n x).symm
    have hy : sqNext.den ((zE [(n : Int), 0]).upd [1] [(x : Int)]) = (((x + n / x) / 2 : Nat) : Int) := by
      show dq ((x : Int) + dq (n : Int) (x : Int)) 2 = _
      rw [hq, dq_pos (by omega)]
      omega
    have hc : (IT.a2 3 sqNext (.var 1)).den ((zE [(n : Int), 0]).upd [1] [(x : Int)]) = cmpZ (((x + n / x) / 2 : Nat) : Int) (x : Int) := by
      show cmpZ (sqNext.den _) (x : Int) = _
      rw [hy]
    by_cases hge : x ≤ (x + n / x) / 2
    · refine ⟨0, _, .iteT ?_ .leaf, ?_⟩
      · show decide ((0 : Int) ≤ (IT.a2 3 sqNext (.var 1)).den _) = true
        rw [hc, decide_eq_true_iff]
        rcases cmpZ_cases (((x + n / x) / 2 : Nat) : Int) (x : Int) with ⟨h, e⟩ | ⟨h, e⟩ | ⟨h, e⟩ <;> omega
      · show (x : Int) = _
        rw [isqN_spec_eq (newton_stop hx hu hge)]
    · have hp := newton_pos hx hn
      have hnx := newton_next (n := n) hx
      obtain ⟨m, E', hR, hE⟩ := ih _ (by omega) hp hnx (hl.natAbs_le (by omega))
      refine ⟨m + 1, E', .iteF ?_ (.again (I := sqI) (T := sqTree) (by simp [Stk.set]) ⟨no_asm, trivial, ?_⟩ ?_), hE⟩
      · show decide ((0 : Int) ≤ (IT.a2 3 sqNext (.var 1)).den _) = false
        rw [hc, decide_eq_false_iff_not]
        rcases cmpZ_cases (((x + n / x) / 2 : Nat) : Int) (x : Int) with ⟨h, e⟩ | ⟨h, e⟩ | ⟨h, e⟩ <;> omega
      · intro p hp
        simp only [sqI, List.mem_cons, List.not_mem_nil, or_false] at hp
        subst hp
        show Lim 100001 (sqNext.den _)
        rw [hy]
        exact hl.natAbs_le (by omega)
      · have : Env.upd ((zE [(n : Int), 0]).upd [1] [(x : Int)]) sqI.vs ([sqNext].map (IT.den ((zE [(n : Int), 0]).upd [1] [(x : Int)]))) = (zE [(n : Int), 0]).upd [1] [(((x + n / x) / 2 : Nat) : Int)] := by
          simp only [List.map_cons, List.map_nil, hy]
          unfold Env.upd
          congr 1
          funext k
          simp only [sqI, updI]
          by_cases hk : k = 1
          · simp [hk]
          · simp [hk]
        rw [this]
        exact hR

set_option maxRecDepth 100000 in
set_option maxHeartbeats 1600000 in
theorem rsqrt_pos (w : World) (v : Value) (z : Int) (h : IsInt w v z) (l : Lim 100000 z) (hz : 0 < z) : Calls Tryz.prog 168 #[v] w (RetSqA z w) := by
  obtain ⟨ao, cap, s, n, rfl, h1, h2, h3, H4, H5, H6⟩ := h.open_
  obtain ⟨W, hW, eW, c0, c1, r0, r1, f0, f1⟩ := boxes1r w (.bool s) (.slice ao (limbs n).length cap) 24
  have hs : s = false := by
    cases s
    · rfl
    · have h5 := H5.out; have h6 := H6.out rfl; simp only [sgn, if_true] at h5; omega
  subst hs
  have hz2 : z = (n : Int) := H5.out
  have hl0 : 0 < (limbs n).length := limbs_pos (by omega)
  have l' := l
  unfold Lim at l'
  rw [← H4.out] at l'
  subst hz2
  obtain ⟨K, hK⟩ : ∃ K, K = ((limbs n).length + 1) / 2 := ⟨_, rfl⟩
  have hKI : (((limbs n).length : Int) + 1).tdiv 2 = (K : Int) := by rw [Int.tdiv_eq_ediv_of_nonneg (by omega)]; omega
  have hmk := run_mk K (by omega) ↑K rfl
  have hKb : K ≤ 100000 := by omega
  have hWs : W.heap.size = w.heap.size + 2 := by rw [← hW]; simp
  have HI := Lib.hid (show IsInt W (.agg #[.bool false, .slice ao (limbs n).length cap]) (n : Int) from h.ext eW)
  -- the zeros, the one, and what the append leaves
  have hown : ((W.alloc (.cells (u32s (List.replicate K 0)) 97)).alloc (.cells #[.int .u32 1] 97)).ownsRow W.heap.size 97 1 (.slice (some ⟨W.heap.size, 0, none⟩) K K) (List.replicate K 0).length ((List.replicate K 0).map fun x => Value.int .u32 ((x : Nat) : Int)) := by
    have h0 : (W.alloc (.cells (u32s (List.replicate K 0)) 97)).ownsRow W.heap.size 97 1 (.slice (some ⟨W.heap.size, 0, none⟩) K K) K ((List.replicate K 0).map fun x => Value.int .u32 ((x : Nat) : Int)) :=
      ⟨by simp, .inr ⟨W.heap.size, K, u32s (List.replicate K 0), rfl, by omega, heap_alloc_new W _, Nat.le_refl _, by unfold maxLen; omega, by simp [u32s], by rw [Nat.mul_one]; simp only [u32s]; exact List.take_of_length_le (by simp)⟩⟩
    have := h0.alloc (.cells #[.int .u32 1] 97)
    rwa [List.length_replicate]
  obtain ⟨a3, c3, w3, hrun, k1, k2, hB3, k3⟩ := run_append_own_limbs _ W.heap.size (by simp; omega) 22 _ (List.replicate K 0) (by simp; omega) (by simp; omega) hown (W.heap.size + 1) [1] 1 (by simp) (fun i hi => by
    have : i = 0 := by simpa using hi
    subst this
    simp)
  rw [List.length_replicate, show [1].length = 1 from rfl] at hrun k1
  obtain ⟨x0, hx0⟩ : ∃ x0, x0 = 1000000000 ^ K := ⟨_, rfl⟩
  have hsh := limbs_shift K 1 (by omega)
  rw [Nat.mul_one, ← hx0, limbs_of_one] at hsh
  rw [← hsh] at k3
  have hxl : K + 1 = (limbs x0).length := by rw [hsh]; simp
  have HX : Hid (IsInt w3 (.agg #[.bool false, .slice a3 (K + 1) c3]) (x0 : Int)) := by
    rw [hxl]
    exact ⟨a3, c3, by simp, by rw [Int.natAbs_natCast, ← hxl]; exact k1, k2, by rw [Int.natAbs_natCast]; exact k3⟩
  have e3 : Ext W w3 := by
    refine Below.trans ?_ hB3
    exact ((Ext.refl W).alloc _).alloc _
  have V1 : Hid (VarAt (zE [(n : Int), (x0 : Int)]) W w.heap.size [.int (.var 0) 100000]) := by
    unfold Hid
    rw [← hW]
    refine VarAt.ext (w := w.alloc (.cells #[.bool false, .slice ao (limbs n).length cap] 24)) ?_ ((Ext.refl _).alloc _)
    exact VarAt.new (vs := [_, _]) (chunks_int h rfl l)
  have V2 : Hid (VarAt (zE [(n : Int), (x0 : Int)]) W (w.heap.size + 1) [.int (.lit 0) 0]) := by
    unfold Hid
    rw [← hW]
    have := VarAt.new (E := zE [(n : Int), (x0 : Int)]) (w := w.alloc (.cells #[.bool false, .slice ao (limbs n).length cap] 24)) (vs := [_, _]) (t := 24) (chunks_int (t := .lit 0) (l := 0) (isInt_zero _) rfl lim_zero)
    rwa [World.size_alloc] at this
  have HL3 : Hid (Lim 100001 (x0 : Int)) := by unfold Hid Lim; rw [Int.natAbs_natCast, ← hxl]; omega
  have HRUN := Lib.hid hrun
  have HK := Lib.hid hK
  have Hx0 := Lib.hid hx0
  clear hK H4 H5 H6 h hrun hown hx0 hsh k1 k2 k3 hxl hB3
  go_enter Tryz.func168, Tryz.ntmps168
  have hWs2 := Lib.hid hWs
  clear hWs
  go_wp2_with (at_builtin; refine wpList_append_run' rfl _ _ 22 rfl rfl rfl HRUN.out ?_)
  obtain ⟨w4, hw4⟩ : ∃ w4, w4 = w3.alloc (.cells #[.bool false, .slice a3 (K + 1) c3] 24) := ⟨_, rfl⟩
  rw [← hw4]
  refine (rfromInt64_calls w4 2 (by decide) (by decide)).mono ?_
  rintro e w5 ⟨v5, rfl, hI5, e5⟩
  obtain ⟨ao5, cap5, s5, n5, rfl, _⟩ := IsInt.open_ hI5
  have HI5 := Lib.hid hI5
  clear hI5
  go_wp2_with fail
  have hx0p : 0 < x0 := by rw [Hx0.out]; exact Nat.pow_pos (by omega)
  have hnx : n < (x0 + 1) * (x0 + 1) := by
    refine lt_next_sq ?_
    rw [Hx0.out, ← Nat.pow_add]
    exact Nat.lt_of_lt_of_le (lt_of_limbs_len (Nat.le_refl _)) (Nat.pow_le_pow_right (by omega) (by have := HK.out; omega))
  obtain ⟨m, E', hR, hE⟩ := sq_run n (by omega) x0 hx0p hnx HL3.out
  have hup : (zE [(n : Int), (x0 : Int)]).upd sqI.vs ([IT.var 1].map (IT.den (zE [(n : Int), (x0 : Int)]))) = (zE [(n : Int), 0]).upd [1] [(x0 : Int)] := by
    unfold Env.upd
    congr 1
    funext k
    show (if k = 1 then some (x0 : Int) else none).getD (([(n : Int), (x0 : Int)]).getD k 0) = (if k = 1 then some (x0 : Int) else none).getD (([(n : Int), 0]).getD k 0)
    by_cases hk : k = 1
    · rw [if_pos hk]; rfl
    · rw [if_neg hk]
      match k, hk with
      | 0, _ => rfl
      | k + 2, _ => rfl
  have e35 : Ext w3 w5 := by
    have := (Ext.refl w3).alloc (.cells #[.bool false, .slice a3 (K + 1) c3] 24)
    rw [← hw4] at this
    exact this.trans e5
  have e6 := (Ext.refl w5).alloc (.cells #[.bool s5, .slice ao5 (limbs n5).length cap5] 24)
  have V4 : VarAt (zE [(n : Int), (x0 : Int)]) w4 w3.heap.size [.int (.var 1) 100001] := by
    rw [hw4]
    exact VarAt.new (vs := [_, _]) (chunks_int HX.out rfl HL3.out)
  have V5 := VarAt.new (E := zE [(n : Int), (x0 : Int)]) (vs := [_, _]) (t := 24) (chunks_int (t := .lit 2) (l := 3) HI5.out rfl (lim3 (by decide) (by decide)))
  have sz3 := e3.size
  have sz35 := e35.size
  have sz4 : w4.heap.size = w3.heap.size + 1 := by rw [hw4]; simp
  have sz5 := e5.size
  have hs2 := hWs2.out
  refine execL_sound (Good := fun _ => True) (C := cfgOf tabRsq) (L := fun _ => some sqI) (w0 := w) (B := w.heap.size) (n := Tryz.f168.ntmps) (l := sqLeaf) (E' := E') mixed (fun _ _ => ⟨cfg_ok tabRsq_ok, fun _ _ => True.intro⟩) _ 0 (fun _ S e => match e with | .ret => (resE (cfgOf tabRsq) S Tryz.f168.results.toList).map .leaf | _ => none) _ noStk [] ⟨lookN sqI.lk, lookN sqI.vr⟩ (.loop 0 sqI [.var 1] sqTree) (zE [(n : Int), (x0 : Int)]) m _ _ no_asm trivial ?_ (by kernel_rfl) (.loop ⟨no_asm, trivial, ?_⟩ (by rw [hup]; exact hR)) ?_
  · have hz2 : ∀ t x, lookN sqI.lk t = some x → t = 1 ∧ x = .ptr 1 0 ∨ t = 2 ∧ x = .ptr 2 0 ∨ t = 4 ∧ x = .ptr 4 0 ∨ t = 5 ∧ x = .ptr 5 0 := by
      intro t x hx
      have := lookN_mem hx
      simpa [sqI] using this
    have hz3 : ∀ t x, lookN sqI.vr t = some x → t = 1 ∧ x = [.int (.var 0) 100000] ∨ t = 2 ∧ x = [.int (.lit 0) 0] ∨ t = 4 ∧ x = [.int (.var 1) 100001] ∨ t = 5 ∧ x = [.int (.lit 2) 3] := by
      intro t x hx
      have := lookN_mem hx
      simpa [sqI] using this
    refine ⟨fun t => if t = 1 then w.heap.size else if t = 2 then w.heap.size + 1 else if t = 4 then w3.heap.size else w5.heap.size, ⟨?_, ?_, ?_, ?_, by kernel_rfl, rfl, ?_, ?_, ?_⟩⟩
    · intro t x hx
      rcases hz2 t x hx with ⟨rfl, rfl⟩ | ⟨rfl, rfl⟩ | ⟨rfl, rfl⟩ | ⟨rfl, rfl⟩ <;> rfl
    · intro t x hx
      rcases hz3 t x hx with ⟨rfl, rfl⟩ | ⟨rfl, rfl⟩ | ⟨rfl, rfl⟩ | ⟨rfl, rfl⟩
      · exact ⟨fun _ => Nat.le_refl _, (V1.out.ext (e3.trans e35)).ext e6⟩
      · exact ⟨fun _ => by show w.heap.size ≤ w.heap.size + 1; omega, (V2.out.ext (e3.trans e35)).ext e6⟩
      · exact ⟨fun _ => by show w.heap.size ≤ w3.heap.size; omega, (V4.ext e5).ext e6⟩
      · exact ⟨fun _ => by show w.heap.size ≤ w5.heap.size; omega, V5⟩
    · intro x y hx hy he
      obtain ⟨cs, hcs⟩ := Option.isSome_iff_exists.1 hx
      obtain ⟨ds, hds⟩ := Option.isSome_iff_exists.1 hy
      rcases hz3 x cs hcs with ⟨rfl, _⟩ | ⟨rfl, _⟩ | ⟨rfl, _⟩ | ⟨rfl, _⟩ <;> rcases hz3 y ds hds with ⟨rfl, _⟩ | ⟨rfl, _⟩ | ⟨rfl, _⟩ | ⟨rfl, _⟩ <;> first | rfl | (exfalso; revert he; simp; done) | (exfalso; revert he; simp; omega)
    · intro t x off hx
      rcases hz2 t _ hx with ⟨rfl, hh⟩ | ⟨rfl, hh⟩ | ⟨rfl, hh⟩ | ⟨rfl, hh⟩ <;> (injection hh with h1 h2; subst h1; rfl)
    · simp; omega
    · exact (eW.trans (e3.trans e35)).trans (Below.mono e6 (by omega))
    · intro x cs hx
      rcases hz3 x cs hx with ⟨rfl, rfl⟩ | ⟨rfl, rfl⟩ | ⟨rfl, rfl⟩ | ⟨rfl, rfl⟩ <;> decide
  · intro p hp
    simp only [sqI, List.mem_cons, List.not_mem_nil, or_false] at hp
    subst hp
    rw [hup]
    exact HL3.out
  · intro K' G' S' e T' E1 m' hm' hK' h1 hR' hG' hE' a' w' h4'
    cases e with
    | norm => cases h1
    | exit id => cases h1
    | ret =>
      obtain ⟨l', hl, rfl⟩ := Option.map_eq_some_iff.1 h1
      cases hR' with
      | leaf =>
        obtain ⟨β, v, r1, r2⟩ := resE_sound (cfg_ok tabRsq_ok) h4' (fn := Tryz.f168) (rs := Tryz.f168.results.toList) (by simp) (by decide +kernel) hl
        obtain ⟨β', hS⟩ := h4'
        refine ⟨hS.nd, v, r1, ?_⟩
        obtain ⟨vs, rfl, u1, r1, rfl, k1, u2, r2, rfl, k2, hn⟩ := r2
        simp only [tupAll] at hn
        subst hn
        have k2' := one_num.1 k2
        subst k2'
        have k1' := (one_int.1 k1).1
        refine ⟨u1, ?_, ?_, hS.bl⟩
        · show _ = Ending.returned (.tuple #[u1, .int .i64 (isqE (n : Int))])
          rw [show isqE (n : Int) = 0 from if_neg (by omega)]
          rfl
        · rw [show isq (n : Int) = (isqN n : Int) by unfold isq; rw [if_neg (by omega), Int.natAbs_natCast], ← hE]
          exact k1'

theorem open_iq {E : Env} {β : Nat → Nat} {w : World} {v : Value} {x u : IT} {l : Nat} (hx : (AV.tup [(true, [.int x l]), (false, [.n .i64 u])]).holds E β w v) : ∃ p, v = .tuple #[p, .int .i64 (u.den E)] ∧ IsInt w p (x.den E) := by
  obtain ⟨vs, rfl, u1, r1, rfl, k1, u2, r2, rfl, k2, hn⟩ := hx
  simp only [tupAll] at hn
  subst hn
  have k2' := one_num.1 k2
  subst k2'
  exact ⟨u1, rfl, (one_int.1 k1).1⟩
theorem rsqrt_any (w : World) (v : Value) (z : Int) (h : IsInt w v z) (l : Lim 100000 z) : Calls Tryz.prog 168 #[v] w (RetSqA z w) := by
  by_cases hz : 0 < z
  · exact rsqrt_pos w v z h l hz
  · by_cases h0 : z = 0
    · subst h0
      refine (fun_sound (C := cfgOf []) (E := zE []) (args := [.val true [.int (.lit 0) 0]]) (T := .leaf [(true, [.int (.lit 0) 0]), (false, [.n .i64 (.lit 0)])])
        mixed (cfg_ok .nil) no_asm Tryz.func168 (by decide +kernel) (by kernel_rfl) (by decide +kernel) rfl w [v] rfl ?_).mono ?_
      · intro i x hx
        match i, hx with
        | 0, hx => injection hx with hx; subst hx; exact ⟨fun _ => 0, v, rfl, one_int.2 ⟨h, lim_zero⟩⟩
      · rintro e w' ⟨β, u, rfl, hh, ex⟩
        obtain ⟨p, rfl, hp⟩ := open_iq hh
        exact ⟨p, rfl, hp, ex⟩
    · have hneg : z < 0 := by omega
      refine (fun_sound (C := cfgOf []) (E := zE [z]) (G := [(.lt (.var 0) (.lit 0), true)]) (args := [.val true [.int (.var 0) 100000]]) (T := .leaf [(true, [.int (.lit 0) 0]), (false, [.n .i64 (.lit 7)])])
        mixed (cfg_ok .nil) (asm_cons no_asm (by show decide (z < 0) = true; exact decide_eq_true hneg)) Tryz.func168 (by decide +kernel) (by kernel_rfl) (by decide +kernel) rfl w [v] rfl ?_).mono ?_
      · intro i x hx
        match i, hx with
        | 0, hx => injection hx with hx; subst hx; exact ⟨fun _ => 0, v, rfl, one_int.2 ⟨h, l⟩⟩
      · rintro e w' ⟨β, u, rfl, hh, ex⟩
        obtain ⟨p, rfl, hp⟩ := open_iq hh
        refine ⟨p, ?_, ?_, ex⟩
        · rw [show isqE z = 7 from if_pos hneg]; rfl
        · rw [show isq z = 0 from if_pos hneg]; exact hp

end Go.Proofs.YtnejcdjakjmklaaGreatDoor
end

section
set_option maxRecDepth 100000
namespace Go.Proofs.YtnejcdjakjmklaaGreatDoor
open Go.RowKit
def kSqRef : Con
  | [.val true [.int x l]], _ => if decide (l ≤ 100000) then some (.tup [(true, [.int (.a1 2 x) l]), (false, [.n .i64 (.a1 3 x)])]) else none
  | _, _ => none
theorem kSqRef_ok {E : Env} : ConOK Tryz.prog E 168 kSqRef := by
  refine ⟨?_, ?_, ⟨_, Tryz.func168, by decide +kernel, by kernel_rfl⟩⟩
  · intro args As r h hG β w vs hv hlen
    unfold kSqRef at h
    split at h
    · split at h
      · rename_i hlo
        injection h with h
        subst h
        simp only [decide_eq_true_iff] at hlo
        obtain ⟨v, rfl, h1⟩ := args1 hv hlen
        obtain ⟨i1, l1⟩ := one_int.1 h1
        refine (rsqrt_any w v _ i1 (l1.mono hlo)).mono ?_
        rintro e w' ⟨u, rfl, k1, ex⟩
        exact ⟨_, rfl, ⟨[u, .int .i64 _], rfl, u, _, rfl, one_int.2 ⟨k1, isq_lim l1⟩, _, _, rfl, one_num.2 rfl, rfl⟩, ex⟩
      · cases h
    · cases h
  · intro args As r h x off
    unfold kSqRef at h
    split at h
    · split at h
      · injection h with h; subst h; intro e; cases e
      · cases h
    · cases h
theorem open_ib' {E : Env} {β : Nat → Nat} {w : World} {v : Value} {x : IT} {k : Nat} {t : BT} (hx : (AV.tup [(true, [.int x k]), (false, [.b t])]).holds E β w v) : ∃ p, v = .tuple #[p, .bool (t.den E)] ∧ IsInt w p (x.den E) := by
  obtain ⟨vs, rfl, u1, r1, rfl, k1, u2, r2, rfl, k2, hn⟩ := hx
  simp only [tupAll] at hn
  subst hn
  have k2' := one_bool.1 k2
  subst k2'
  exact ⟨u1, rfl, (one_int.1 k1).1⟩
theorem perfect_calls (w : World) (v : Value) (z : Int) (h : IsInt w v z) (l : Lim 100000 z) :
    Calls Tryz.prog 115 #[v] w fun e w' => ∃ u, e = .returned (.tuple #[u, .bool (sqB z)]) ∧ IsInt w' u (isq z) ∧ Ext w w' := by
  refine (fun_sound (C := cfgOf ((168, kSqRef) :: (28, kIIb fun x y => .eq x y) :: tabR1)) (E := zE [z]) (args := [.val true [.int (.var 0) 100000]])
    (T := .ite (.eq (.a1 3 (.var 0)) (.lit 0)) (.leaf [(true, [.int (.a1 2 (.var 0)) 100000]), (false, [.b (.eq (.a2 2 (.a1 2 (.var 0)) (.a1 2 (.var 0))) (.var 0))])]) (.leaf [(true, [.int (.a1 2 (.var 0)) 100000]), (false, [.b (.lit false)])]))
    mixed (cfg_ok (.cons kSqRef_ok (.cons (kIIb_ok (fun x y => x == y) (fun _ _ => rfl) (fun w v1 v2 z1 z2 h1 h2 => (rsame_calls w v1 v2 z1 z2 h1 h2).mono (fun e w' h => ⟨by rw [h.1]; by_cases hz : z1 = z2 <;> simp [hz], h.2⟩)) ⟨_, Tryz.func28, by decide +kernel, by kernel_rfl⟩) tabR1_ok)))
    no_asm Tryz.func115 (by decide +kernel) (by kernel_rfl) (by decide +kernel) rfl w [v] rfl ?_).mono ?_
  · intro i x hx
    match i, hx with
    | 0, hx => injection hx with hx; subst hx; exact ⟨fun _ => 0, v, rfl, one_int.2 ⟨h, l⟩⟩
  · rintro e w' ⟨β, u, rfl, hh, ex⟩
    simp only [Tree.pick] at hh
    split at hh
    · rename_i hz
      obtain ⟨p, rfl, hp⟩ := open_ib' hh
      refine ⟨p, ?_, hp, ex⟩
      have hz' : (isqE z == 0) = true := hz
      have e1 : (BT.eq (.a2 2 (.a1 2 (.var 0)) (.a1 2 (.var 0))) (.var 0)).den (zE [z]) = (cmpZ (isq z * isq z) z == 0) := by
        show (isq z * isq z == z) = _
        rw [Bool.eq_iff_iff, beq_iff_eq, beq_iff_eq]
        rcases cmpZ_cases (isq z * isq z) z with ⟨h, e⟩ | ⟨h, e⟩ | ⟨h, e⟩ <;> rw [e] <;> omega
      rw [e1]
      unfold sqB
      rw [hz', Bool.true_and]
    · rename_i hz
      obtain ⟨p, rfl, hp⟩ := open_ib' hh
      have hz' : (isqE z == 0) = false := by
        cases hb : (isqE z == 0) with
        | false => rfl
        | true => exact absurd hb hz
      refine ⟨p, ?_, hp, ex⟩
      unfold sqB
      rw [hz', Bool.false_and]
      rfl
theorem kPf_ok {E : Env} : ConOK Tryz.prog E 115 kSqr := by
  refine ⟨?_, ?_, ⟨_, Tryz.func115, by decide +kernel, by kernel_rfl⟩⟩
  · intro args As r h hG β w vs hv hlen
    unfold kSqr at h
    split at h
    · split at h
      · rename_i hlo
        injection h with h
        subst h
        simp only [decide_eq_true_iff] at hlo
        obtain ⟨v, rfl, h1⟩ := args1 hv hlen
        obtain ⟨i1, l1⟩ := one_int.1 h1
        refine (perfect_calls w v _ i1 (l1.mono hlo)).mono ?_
        rintro e w' ⟨u, rfl, k1, ex⟩
        exact ⟨_, rfl, ⟨[u, .bool _], rfl, u, _, rfl, one_int.2 ⟨k1, isq_lim l1⟩, _, _, rfl, one_bool.2 rfl, rfl⟩, ex⟩
      · cases h
    · cases h
  · intro args As r h x off
    unfold kSqr at h
    split at h
    · split at h
      · injection h with h; subst h; intro e; cases e
      · cases h
    · cases h
theorem rsqrtQ_calls (w : World) (v : Value) (n d : Int) (h : IsPair w v n d) (l1 : Lim 100000 n) (l2 : Lim 100000 d) : Calls Tryz.prog 67 #[v] w (RetSqQ n d w) := by
  refine (fun_sound (C := cfgOf [(115, kSqr)]) (E := zE [n, d]) (args := [argQ 0]) (T := tSq)
    mixed (cfg_ok (.cons kPf_ok .nil)) no_asm Tryz.func67 (by decide +kernel) (by kernel_rfl) (by decide +kernel) rfl w [v] rfl ?_).mono ?_
  · intro i x hx
    match i, hx with
    | 0, hx => injection hx with hx; subst hx; exact ⟨fun _ => 0, v, rfl, argP_holds h l1 l2 rfl rfl⟩
  · rintro e w' ⟨β, u, rfl, hh, ex⟩
    have d0 : (BT.and (.eq (.a1 3 (.var 0)) (.lit 0)) (.eq (.a2 3 (.a2 2 (.a1 2 (.var 0)) (.a1 2 (.var 0))) (.var 0)) (.lit 0))).den (zE [n, d]) = sqB n := rfl
    have d1 : (BT.and (.eq (.a1 3 (.var 1)) (.lit 0)) (.eq (.a2 3 (.a2 2 (.a1 2 (.var 1)) (.a1 2 (.var 1))) (.var 1)) (.lit 0))).den (zE [n, d]) = sqB d := rfl
    unfold tSq at hh
    simp only [Tree.pick, d0, d1] at hh
    unfold RetSqQ sqN
    cases h0 : sqB n <;> cases h1 : sqB d <;> rw [h0, h1] at hh
    · obtain ⟨p, rfl, hp⟩ := open_qb hh
      exact ⟨p, rfl, hp, ex⟩
    · obtain ⟨p, rfl, hp⟩ := open_qb hh
      exact ⟨p, rfl, hp, ex⟩
    · obtain ⟨p, rfl, hp⟩ := open_qb hh
      exact ⟨p, rfl, hp, ex⟩
    · obtain ⟨p, rfl, hp⟩ := open_qb hh
      exact ⟨p, rfl, hp, ex⟩

theorem mul_self_parts (a : Rat) : (a * a).num = a.num * a.num ∧ (a * a).den = a.den * a.den := by
  have hc : (a.num * a.num).natAbs.Coprime (a.den * a.den) := by
    rw [Int.natAbs_mul]
    exact (Nat.Coprime.mul_left a.reduced a.reduced).symm.mul_left (Nat.Coprime.mul_left a.reduced a.reduced).symm |>.symm
  have hn : a.den * a.den ≠ 0 := Nat.mul_ne_zero a.den_nz a.den_nz
  have e : a * a = ⟨a.num * a.num, a.den * a.den, hn, hc⟩ := by
    rw [Rat.mk_eq_divInt]
    have h : Rat.divInt a.num a.den * Rat.divInt a.num a.den = a * a := by rw [Rat.num_divInt_den]
    rw [← h, Rat.divInt_mul_divInt, Int.natCast_mul]
  rw [e]
  exact ⟨rfl, rfl⟩
theorem isq_self (n : Int) : isq (n * n) = (n.natAbs : Int) ∧ sqB (n * n) = true := by
  have h0 : ¬ n * n < 0 := by
    have e : ((n.natAbs : Int)) * (n.natAbs : Int) = n * n := Int.natAbs_mul_self
    have h := Int.natCast_nonneg (n.natAbs * n.natAbs)
    rw [Int.natCast_mul, e] at h
    omega
  have e1 : isq (n * n) = (n.natAbs : Int) := by
    unfold isq
    rw [if_neg h0, Int.natAbs_mul]
    congr 1
    refine isqN_spec_eq ⟨Nat.le_refl _, ?_⟩
    exact Nat.mul_lt_mul'' (by omega) (by omega)
  refine ⟨e1, ?_⟩
  unfold sqB
  rw [e1]
  have e2 : ((n.natAbs : Int)) * (n.natAbs : Int) = n * n := Int.natAbs_mul_self
  rw [e2, cmpZ_eq rfl]
  unfold isqE
  rw [if_neg h0]
  rfl
theorem sqB_spec {z : Int} (h : sqB z = true) : isq z * isq z = z := by
  unfold sqB at h
  rw [Bool.and_eq_true, beq_iff_eq, beq_iff_eq] at h
  rcases cmpZ_cases (isq z * isq z) z with ⟨_, e⟩ | ⟨k, _⟩ | ⟨_, e⟩
  · have := h.2; omega
  · exact k
  · have := h.2; omega
theorem root_rat {a : Rat} (h : sqB a.num = true) (k : sqB (a.den : Int) = true) : ∃ s : Rat, s.num = isq a.num ∧ (s.den : Int) = isq (a.den : Int) := by
  have e1 := sqB_spec h
  have e2 := sqB_spec k
  have hd : (a.den : Int) ≠ 0 := den_ne a
  have hp : 0 ≤ isq (a.den : Int) := by unfold isq; split <;> omega
  have hne : (isq (a.den : Int)).natAbs ≠ 0 := by
    intro e
    have : isq (a.den : Int) = 0 := by omega
    rw [this] at e2
    omega
  have hc : (isq a.num).natAbs.Coprime (isq (a.den : Int)).natAbs := by
    have h1 : (isq a.num).natAbs * (isq a.num).natAbs = a.num.natAbs := by rw [← Int.natAbs_mul, e1]
    have h2 : (isq (a.den : Int)).natAbs * (isq (a.den : Int)).natAbs = a.den := by rw [← Int.natAbs_mul, e2, Int.natAbs_natCast]
    have hr := a.reduced
    rw [← h1, ← h2] at hr
    exact (Nat.Coprime.coprime_mul_left (Nat.Coprime.coprime_mul_left hr).symm).symm
  refine ⟨⟨isq a.num, (isq (a.den : Int)).natAbs, hne, hc⟩, rfl, ?_⟩
  show (((isq (a.den : Int)).natAbs : Nat) : Int) = _
  omega
end Go.Proofs.YtnejcdjakjmklaaGreatDoor
end

section
set_option maxRecDepth 100000
namespace Go.Proofs.YtnejcdjakjmklaaGreatDoor
open Go.RowKit
def Rd (b c : Rat) : Prop := (b = 0 ∧ c = 0) ∨ (b ≠ 0 ∧ 0 < c ∧ ∀ q : Rat, q * q ≠ c)
theorem sqz_sqB {z : Int} (h : 0 ≤ z) : sqz z = sqB z := by
  unfold sqz sqB isqE
  rw [if_neg (by omega)]
  show _ = (true && _)
  rw [Bool.true_and, Bool.eq_iff_iff, beq_iff_eq, beq_iff_eq]
  rcases cmpZ_cases (isq z * isq z) z with ⟨h, e⟩ | ⟨h, e⟩ | ⟨h, e⟩ <;> rw [e] <;> omega
theorem sq_of_root {c : Rat} (hc : 0 < c) (h : sqz c.num = true) (k : sqz (c.den : Int) = true) : ∃ q : Rat, q * q = c := by
  have hn := (num_pos_iff c).2 hc
  rw [sqz_sqB (by omega)] at h
  rw [sqz_sqB (by omega)] at k
  obtain ⟨s, s1, s2⟩ := root_rat h k
  refine ⟨s, ?_⟩
  obtain ⟨m1, m2⟩ := mul_self_parts s
  refine Rat.ext ?_ ?_
  · rw [m1, s1, sqB_spec h]
  · have : ((s.den * s.den : Nat) : Int) = (c.den : Int) := by rw [Int.natCast_mul, s2, sqB_spec k]
    rw [m2]; omega
theorem root_of_sq {c q : Rat} (h : q * q = c) : sqz c.num = true ∧ sqz (c.den : Int) = true := by
  obtain ⟨m1, m2⟩ := mul_self_parts q
  rw [h] at m1 m2
  obtain ⟨i1, j1⟩ := isq_self q.num
  obtain ⟨i2, j2⟩ := isq_self (q.den : Int)
  refine ⟨?_, ?_⟩
  · unfold sqz
    rw [m1, i1, beq_iff_eq]
    exact Int.natAbs_mul_self
  · unfold sqz
    rw [m2, Int.natCast_mul, i2, beq_iff_eq]
    exact Int.natAbs_mul_self
theorem Rdb_iff {b c : Rat} : Rdb b c = true ↔ Rd b c := by
  have n1 : b.num = 0 ↔ b = 0 := Rat.num_eq_zero
  have n2 : c.num = 0 ↔ c = 0 := Rat.num_eq_zero
  have n3 := num_pos_iff c
  unfold Rdb Rd
  simp only [Bool.or_eq_true, Bool.and_eq_true, beq_iff_eq, bne_iff_ne, decide_eq_true_iff, Bool.not_eq_true', Bool.and_eq_false_iff]
  constructor
  · rintro (⟨h1, h2⟩ | ⟨h1, h2, h3⟩)
    · exact .inl ⟨n1.1 h1, n2.1 h2⟩
    · refine .inr ⟨fun e => h1 (n1.2 e), n3.1 h2, fun q hq => ?_⟩
      obtain ⟨k1, k2⟩ := root_of_sq hq
      rcases h3 with h3 | h3
      · rw [k1] at h3; cases h3
      · rw [k2] at h3; cases h3
  · rintro (⟨h1, h2⟩ | ⟨h1, h2, h3⟩)
    · exact .inl ⟨n1.2 h1, n2.2 h2⟩
    · refine .inr ⟨fun e => h1 (n1.1 e), n3.2 h2, ?_⟩
      cases k1 : sqz c.num with
      | false => exact .inl rfl
      | true =>
        cases k2 : sqz (c.den : Int) with
        | false => exact .inr rfl
        | true =>
          obtain ⟨q, hq⟩ := sq_of_root h2 k1 k2
          exact absurd hq (h3 q)
def rC (b c : Rat) : Rat := if b.num = 0 then 0 else c
def rN (b c : Rat) : Rat := if b.num = 0 then c else 0
def sq2 (b c : Rat) : Rat := if b.num < 0 then - (b * b * c) else b * b * c
theorem rC_zero (c : Rat) : rC 0 c = 0 := rfl
theorem rC_ne {b : Rat} (h : b ≠ 0) (c : Rat) : rC b c = c := if_neg (fun e => h (Rat.num_eq_zero.1 e))
theorem rN_zero (c : Rat) : rN 0 c = c := rfl
theorem rN_ne {b : Rat} (h : b ≠ 0) (c : Rat) : rN b c = 0 := if_neg (fun e => h (Rat.num_eq_zero.1 e))
theorem sq_pos {b : Rat} (h : b ≠ 0) : 0 < b * b := by
  rcases (by grind : b < 0 ∨ 0 < b) with k | k
  · have := Rat.mul_pos (a := -b) (b := -b) (by grind) (by grind)
    grind
  · exact Rat.mul_pos k k
theorem sq_nonneg (b : Rat) : 0 ≤ b * b := by
  by_cases h : b = 0
  · subst h; grind
  · have := sq_pos h; grind
theorem sgQ_add {u v : Rat} (h : v * v < u * u) : sgQ (u + v) = sgQ u := by
  have e : u * u - v * v = (u - v) * (u + v) := by grind
  rcases sgQ_cases u with ⟨k, e1⟩ | ⟨k, e1⟩ | ⟨k, e1⟩
  · rw [e1]
    refine sgQ_neg' ?_
    refine Decidable.byContradiction fun hn => ?_
    have h1 : u - v < 0 := by grind
    by_cases h0 : u + v = 0
    · rw [h0] at e; grind
    · have := Rat.mul_pos (a := -(u - v)) (b := u + v) (by grind) (by grind)
      grind
  · rw [k] at h; have := sq_nonneg v; grind
  · rw [e1]
    refine sgQ_pos ?_
    refine Decidable.byContradiction fun hn => ?_
    have h1 : 0 < u - v := by grind
    by_cases h0 : u + v = 0
    · rw [h0] at e; grind
    · have := Rat.mul_pos (a := u - v) (b := -(u + v)) (by grind) (by grind)
      grind
def nrm (a b c : Rat) : Rat := a * a - b * b * c
def sgN (a b c : Rat) : Int := if 0 < nrm a b c then sgQ a else if nrm a b c < 0 then sgQ b else 0
theorem sgN_pos {a b c : Rat} (h : 0 < nrm a b c) : sgN a b c = sgQ a := if_pos h
theorem sgN_neg {a b c : Rat} (h : nrm a b c < 0) : sgN a b c = sgQ b := by unfold sgN; rw [if_neg (by grind), if_pos h]
theorem sgN_zero {a b c : Rat} (h : nrm a b c = 0) : sgN a b c = 0 := by unfold sgN; rw [if_neg (by grind), if_neg (by grind)]
theorem nrm_mul (a b a' b' c : Rat) : nrm (a * a' + b * b' * c) (a * b' + b * a') c = nrm a b c * nrm a' b' c := by unfold nrm; grind
theorem sgN_mul {a b a' b' c : Rat} (hc : 0 ≤ c) : sgN (a * a' + b * b' * c) (a * b' + b * a') c = sgN a b c * sgN a' b' c := by
  have hm := nrm_mul a b a' b' c
  have lt_mul : ∀ {x y x' y' : Rat}, 0 ≤ x → x < y → 0 ≤ x' → x' < y' → x * x' < y * y' := by
    intro x y x' y' h1 h2 h3 h4
    have e1 := Rat.mul_pos (a := y) (b := y' - x') (by grind) (by grind)
    have e2 : 0 ≤ (y - x) * x' := Rat.mul_nonneg (by grind) h3
    grind
  have bb : ∀ x : Rat, 0 ≤ x * x * c := fun x => Rat.mul_nonneg (sq_nonneg x) hc
  rcases (by grind : nrm a b c < 0 ∨ nrm a b c = 0 ∨ 0 < nrm a b c) with h | h | h <;> rcases (by grind : nrm a' b' c < 0 ∨ nrm a' b' c = 0 ∨ 0 < nrm a' b' c) with k | k | k
  · have hp : 0 < nrm (a * a' + b * b' * c) (a * b' + b * a') c := by
      have := Rat.mul_pos (a := -(nrm a b c)) (b := -(nrm a' b' c)) (by grind) (by grind)
      grind
    rw [sgN_pos hp, sgN_neg h, sgN_neg k]
    unfold nrm at h k
    have := lt_mul (sq_nonneg a) (show a * a < b * b * c by grind) (sq_nonneg a') (show a' * a' < b' * b' * c by grind)
    rw [show a * a' + b * b' * c = b * b' * c + a * a' by grind, sgQ_add (by grind), sgQ_mul, sgQ_mul]
    have hcp : 0 < c := by
      refine Decidable.byContradiction fun hn => ?_
      have : c = 0 := by grind
      rw [this] at h
      have := sq_nonneg a
      grind
    rw [sgQ_pos hcp, Int.mul_one]
  · rw [k, Rat.mul_zero] at hm
    rw [sgN_zero hm, sgN_zero k, Int.mul_zero]
  · have hp : nrm (a * a' + b * b' * c) (a * b' + b * a') c < 0 := by
      have := Rat.mul_pos (a := -(nrm a b c)) (b := nrm a' b' c) (by grind) (by grind)
      grind
    rw [sgN_neg hp, sgN_neg h, sgN_pos k]
    unfold nrm at h k
    have := lt_mul (sq_nonneg a) (show a * a < b * b * c by grind) (bb b') (show b' * b' * c < a' * a' by grind)
    have hcp : 0 < c := by
      refine Decidable.byContradiction fun hn => ?_
      have : c = 0 := by grind
      rw [this] at h
      have := sq_nonneg a
      grind
    have h2 : a * b' * (a * b') < b * a' * (b * a') := by
      refine Decidable.byContradiction fun hn => ?_
      have : 0 ≤ (a * b' * (a * b') - b * a' * (b * a')) * c := Rat.mul_nonneg (by grind) hc
      grind
    rw [show a * b' + b * a' = b * a' + a * b' by grind, sgQ_add h2, sgQ_mul]
  · rw [h, Rat.zero_mul] at hm
    rw [sgN_zero hm, sgN_zero h, Int.zero_mul]
  · rw [h, Rat.zero_mul] at hm
    rw [sgN_zero hm, sgN_zero h, Int.zero_mul]
  · rw [h, Rat.zero_mul] at hm
    rw [sgN_zero hm, sgN_zero h, Int.zero_mul]
  · have hp : nrm (a * a' + b * b' * c) (a * b' + b * a') c < 0 := by
      have := Rat.mul_pos (a := nrm a b c) (b := -(nrm a' b' c)) (by grind) (by grind)
      grind
    rw [sgN_neg hp, sgN_pos h, sgN_neg k]
    unfold nrm at h k
    have := lt_mul (bb b) (show b * b * c < a * a by grind) (sq_nonneg a') (show a' * a' < b' * b' * c by grind)
    have h2 : b * a' * (b * a') < a * b' * (a * b') := by
      refine Decidable.byContradiction fun hn => ?_
      have : 0 ≤ (b * a' * (b * a') - a * b' * (a * b')) * c := Rat.mul_nonneg (by grind) hc
      grind
    rw [sgQ_add h2, sgQ_mul]
  · rw [k, Rat.mul_zero] at hm
    rw [sgN_zero hm, sgN_zero k, Int.mul_zero]
  · have hp : 0 < nrm (a * a' + b * b' * c) (a * b' + b * a') c := by
      have := Rat.mul_pos (a := nrm a b c) (b := nrm a' b' c) (by grind) (by grind)
      grind
    rw [sgN_pos hp, sgN_pos h, sgN_pos k]
    unfold nrm at h k
    have := lt_mul (bb b) (show b * b * c < a * a by grind) (bb b') (show b' * b' * c < a' * a' by grind)
    rw [sgQ_add (by grind), sgQ_mul]
theorem nrm_ne {a b c : Rat} (R : Rd b c) (h : nrm a b c = 0) : a = 0 ∧ b = 0 := by
  unfold nrm at h
  rcases R with ⟨rfl, rfl⟩ | ⟨hb, hc, hs⟩
  · refine ⟨?_, rfl⟩
    refine Decidable.byContradiction fun ha => ?_
    have := sq_pos ha
    grind
  · exfalso
    refine hs (a / b) ?_
    have e : a / b * b = a := Rat.div_mul_cancel hb
    have e2 : (a / b * (a / b) - c) * (b * b) = 0 := by grind
    have hbb := sq_pos hb
    refine Decidable.byContradiction fun hn => ?_
    have hne : a / b * (a / b) - c ≠ 0 := by grind
    rcases Rat.mul_eq_zero.1 e2 with h1 | h1
    · exact hne h1
    · grind
theorem sgN_mono {x y b c : Rat} (R : Rd b c) (h : x ≤ y) (k : 0 ≤ sgN x b c) : 0 ≤ sgN y b c := by
  have sq_le : ∀ {u v : Rat}, 0 ≤ u → u ≤ v → u * u ≤ v * v := by
    intro u v h1 h2
    have e1 : 0 ≤ (v - u) * v := Rat.mul_nonneg (by grind) (by grind)
    have e2 : 0 ≤ (v - u) * u := Rat.mul_nonneg (by grind) h1
    grind
  have s1 : ∀ q : Rat, 0 ≤ sgQ q ↔ 0 ≤ q := by
    intro q
    rcases sgQ_cases q with ⟨k, e⟩ | ⟨k, e⟩ | ⟨k, e⟩ <;> rw [e] <;> constructor <;> intro h <;> first | omega | grind
  rcases (by grind : nrm y b c < 0 ∨ nrm y b c = 0 ∨ 0 < nrm y b c) with n | n | n
  · rw [sgN_neg n, s1]
    refine Decidable.byContradiction fun hb => ?_
    rcases R with ⟨rfl, rfl⟩ | ⟨hb0, hc, hs⟩
    · grind
    have hx : 0 < nrm x b c := by
      refine Decidable.byContradiction fun hn => ?_
      rcases (by grind : nrm x b c < 0 ∨ nrm x b c = 0) with m | m
      · rw [sgN_neg m, s1] at k; grind
      · exact hb0 (nrm_ne (.inr ⟨hb0, hc, hs⟩) m).2
    rw [sgN_pos hx, s1] at k
    have := sq_le k h
    unfold nrm at n hx
    grind
  · rw [sgN_zero n]; exact Int.le_refl _
  · rw [sgN_pos n, s1]
    refine Decidable.byContradiction fun hy => ?_
    have hy' := sq_le (u := -y) (v := -x) (by grind) (by grind)
    have hx : 0 < nrm x b c := by unfold nrm at n ⊢; grind
    rw [sgN_pos hx, s1] at k
    grind
end Go.Proofs.YtnejcdjakjmklaaGreatDoor
end

section
set_option maxRecDepth 100000
namespace Go.Proofs.YtnejcdjakjmklaaGreatDoor
open Go.RowKit
def IsFl (a b c : Rat) (n : Int) : Prop := 0 ≤ sgN (a - (n : Rat)) b c ∧ sgN (a - ((n + 1 : Int) : Rat)) b c < 0
theorem IsFl.unique {a b c : Rat} (R : Rd b c) {n m : Int} (h : IsFl a b c n) (k : IsFl a b c m) : n = m := by
  have key : ∀ {n m : Int}, IsFl a b c n → IsFl a b c m → n ≤ m := by
    intro n m h k
    refine Decidable.byContradiction fun hn => ?_
    have e : ((m + 1 : Int) : Rat) ≤ (n : Rat) := Rat.intCast_le_intCast.2 (by omega)
    have := sgN_mono R (x := a - (n : Rat)) (y := a - ((m + 1 : Int) : Rat)) (by grind) h.1
    have := k.2
    omega
  exact Int.le_antisymm (key h k) (key k h)
theorem IsFl.zero {a : Rat} : IsFl a 0 0 a.floor := by
  have s1 : ∀ q : Rat, sgN q 0 0 = sgQ q := by
    intro q
    by_cases hq : q = 0
    · subst hq; rw [sgN_zero (by unfold nrm; grind)]; rfl
    · rw [sgN_pos (by have := sq_pos hq; unfold nrm; grind)]
  have h1 := Rat.floor_le a
  have h2 := Rat.lt_floor_add_one a
  unfold IsFl
  rw [s1, s1]
  constructor
  · rcases sgQ_cases (a - (a.floor : Rat)) with ⟨k, e⟩ | ⟨k, e⟩ | ⟨k, e⟩ <;> rw [e] <;> first | omega | grind
  · rw [sgQ_neg' (by grind)]; omega
theorem isq_bounds {y : Int} (h : 0 ≤ y) : 0 ≤ isq y ∧ isq y * isq y ≤ y ∧ y < (isq y + 1) * (isq y + 1) := by
  unfold isq
  rw [if_neg (by omega)]
  obtain ⟨h1, h2⟩ := isqN_spec y.natAbs
  have e : ((y.natAbs : Nat) : Int) = y := by omega
  refine ⟨by omega, ?_, ?_⟩
  · have : ((isqN y.natAbs * isqN y.natAbs : Nat) : Int) ≤ ((y.natAbs : Nat) : Int) := by exact_mod_cast h1
    rw [Int.natCast_mul, e] at this
    exact this
  · have : ((y.natAbs : Nat) : Int) < (((isqN y.natAbs + 1) * (isqN y.natAbs + 1) : Nat) : Int) := by exact_mod_cast h2
    rw [Int.natCast_mul, e] at this
    exact this
theorem castQ_mul (x y : Int) : ((x * y : Int) : Rat) = (x : Rat) * (y : Rat) := Rat.intCast_mul x y
theorem fl_spec {a b c : Rat} {x Y D : Int} (hb : b ≠ 0) (hc : 0 < c) (hs : ∀ q : Rat, q * q ≠ c) (hD : 0 < D) (hx : a * (D : Rat) = (x : Rat)) (hY : b * b * c * ((D : Rat) * (D : Rat)) = (Y : Rat)) :
    IsFl a b c (dq (x + (if b < 0 then - (isq Y + 1) else isq Y)) D) := by
  have R : Rd b c := .inr ⟨hb, hc, hs⟩
  have hDq : (0 : Rat) < (D : Rat) := Rat.intCast_pos.2 hD
  have hDD := Rat.mul_pos hDq hDq
  have hbbc := Rat.mul_pos (sq_pos hb) hc
  have hYp : 0 < Y := by
    have := Rat.mul_pos hbbc hDD
    rw [hY] at this
    exact Rat.intCast_pos.1 this
  obtain ⟨w0, w1, w2⟩ := isq_bounds (y := Y) (by omega)
  generalize isq Y = w at *
  -- the sign of the norm, over integers
  have nn : ∀ m : Int, nrm (a - (m : Rat)) b c * ((D : Rat) * (D : Rat)) = (((x - m * D) * (x - m * D) - Y : Int) : Rat) := by
    intro m
    rw [Rat.intCast_sub, castQ_mul, Rat.intCast_sub, castQ_mul, ← hx, ← hY]
    unfold nrm
    grind
  have npos : ∀ m : Int, 0 < (x - m * D) * (x - m * D) - Y → 0 < nrm (a - (m : Rat)) b c := by
    intro m h
    refine Decidable.byContradiction fun hn => ?_
    have h2 : 0 ≤ (-(nrm (a - (m : Rat)) b c)) * ((D : Rat) * (D : Rat)) := Rat.mul_nonneg (by grind) (by grind)
    have h3 := Rat.intCast_pos.2 h
    rw [← nn m] at h3
    grind
  have nneg : ∀ m : Int, (x - m * D) * (x - m * D) - Y < 0 → nrm (a - (m : Rat)) b c < 0 := by
    intro m h
    refine Decidable.byContradiction fun hn => ?_
    have h2 : 0 ≤ (nrm (a - (m : Rat)) b c) * ((D : Rat) * (D : Rat)) := Rat.mul_nonneg (by grind) (by grind)
    have h3 : (((x - m * D) * (x - m * D) - Y : Int) : Rat) < ((0 : Int) : Rat) := Rat.intCast_lt_intCast.2 h
    rw [← nn m] at h3
    have : ((0 : Int) : Rat) = 0 := rfl
    grind
  have nzero : ∀ m : Int, (x - m * D) * (x - m * D) - Y ≠ 0 := by
    intro m h
    have h3 := nn m
    rw [h] at h3
    have e0 : ((0 : Int) : Rat) = 0 := rfl
    rw [e0] at h3
    rcases Rat.mul_eq_zero.1 h3 with h4 | h4
    · exact hb (nrm_ne R h4).2
    · grind
  have sga : ∀ m : Int, (0 < x - m * D → sgQ (a - (m : Rat)) = 1) ∧ (x - m * D < 0 → sgQ (a - (m : Rat)) = -1) := by
    intro m
    have e : (a - (m : Rat)) * (D : Rat) = ((x - m * D : Int) : Rat) := by rw [Rat.intCast_sub, castQ_mul, ← hx]; grind
    constructor
    · intro h
      refine sgQ_pos ?_
      have h3 := Rat.intCast_pos.2 h
      rw [← e] at h3
      refine Decidable.byContradiction fun hn => ?_
      have : 0 ≤ (-(a - (m : Rat))) * (D : Rat) := Rat.mul_nonneg (by grind) (by grind)
      grind
    · intro h
      refine sgQ_neg' ?_
      have h3 : ((x - m * D : Int) : Rat) < ((0 : Int) : Rat) := Rat.intCast_lt_intCast.2 h
      rw [← e] at h3
      have e0 : ((0 : Int) : Rat) = 0 := rfl
      refine Decidable.byContradiction fun hn => ?_
      have : 0 ≤ (a - (m : Rat)) * (D : Rat) := Rat.mul_nonneg (by grind) (by grind)
      grind
  -- the quotient
  have hq : ∀ W : Int, dq (x + W) D * D ≤ x + W ∧ x + W < (dq (x + W) D + 1) * D := by
    intro W
    rw [dq_pos hD]
    exact ⟨Int.ediv_mul_le _ (by omega), Int.lt_ediv_add_one_mul_self _ hD⟩
  have sq_le : ∀ {u v : Int}, 0 ≤ u → u ≤ v → u * u ≤ v * v := by
    intro u v h1 h2
    exact Int.mul_le_mul h2 h2 h1 (by omega)
  have hsq : ∀ u : Int, u * u = (-u) * (-u) := fun u => (Int.neg_mul_neg u u).symm
  unfold IsFl
  by_cases hbn : b < 0
  · rw [if_pos hbn]
    obtain ⟨q1, q2⟩ := hq (-(w + 1))
    generalize dq (x + -(w + 1)) D = n at *
    have sb : sgQ b = -1 := sgQ_neg' hbn
    constructor
    · have t : w + 1 ≤ x - n * D := by omega
      have := sq_le (u := w + 1) (v := x - n * D) (by omega) t
      rw [sgN_pos (npos n (by omega)), (sga n).1 (by omega)]
      omega
    · have t : x - (n + 1) * D ≤ w := by omega
      have hz := nzero (n + 1)
      rcases (by omega : (x - (n + 1) * D) * (x - (n + 1) * D) - Y < 0 ∨ 0 < (x - (n + 1) * D) * (x - (n + 1) * D) - Y) with h | h
      · rw [sgN_neg (nneg _ h), sb]; omega
      · have hneg : x - (n + 1) * D < 0 := by
          refine Decidable.byContradiction fun hn => ?_
          have := sq_le (u := x - (n + 1) * D) (v := w) (by omega) t
          omega
        rw [sgN_pos (npos _ h), (sga _).2 hneg]; omega
  · rw [if_neg hbn]
    obtain ⟨q1, q2⟩ := hq w
    generalize dq (x + w) D = n at *
    have sb : sgQ b = 1 := sgQ_pos (by grind)
    constructor
    · have t : -w ≤ x - n * D := by omega
      have hz := nzero n
      rcases (by omega : (x - n * D) * (x - n * D) - Y < 0 ∨ 0 < (x - n * D) * (x - n * D) - Y) with h | h
      · rw [sgN_neg (nneg _ h), sb]; omega
      · have hpos : 0 < x - n * D := by
          refine Decidable.byContradiction fun hn => ?_
          have := sq_le (u := -(x - n * D)) (v := w) (by omega) (by omega)
          rw [← hsq] at this
          omega
        rw [sgN_pos (npos _ h), (sga _).1 hpos]; omega
    · have t : x - (n + 1) * D ≤ -(w + 1) := by omega
      have := sq_le (u := w + 1) (v := -(x - (n + 1) * D)) (by omega) (by omega)
      rw [← hsq] at this
      rw [sgN_pos (npos (n + 1) (by omega)), (sga _).2 (by omega)]
      omega
end Go.Proofs.YtnejcdjakjmklaaGreatDoor
end

section
set_option maxRecDepth 100000
namespace Go.Proofs.YtnejcdjakjmklaaGreatDoor
open Go.RowKit
def kInl (C : Cfg) (fn : Func) : Con := fun args G =>
  if args.all noPtr && (decide (args.length ≤ fn.ntmps) && decide (fn.results.toList.length ≤ 4)) then
    match funE C fn G args with
    | some (.leaf l) => some (toAV l)
    | _ => none
  else none
def kInlN (C : Cfg) (fn : Func) (args : List AV) (G : Asm) : Option BT :=
  match funE C fn G args with
  | some (.ite b _ _) => some b
  | _ => none
theorem toAV_nptr {l : List (Bool × List Chunk)} {x off : Nat} : toAV l ≠ .ptr x off := by
  unfold toAV
  split <;> (intro h; cases h)
theorem toAV_beta {E : Env} {β β' : Nat → Nat} {w : World} {l : List (Bool × List Chunk)} {v : Value} (h : (toAV l).holds E β w v) : (toAV l).holds E β' w v := by
  unfold toAV at *
  split at h <;> exact h
structure InlOK (P : Program) (l : List (Nat × Func)) : Prop where
  all : ∀ p ∈ l, P.funcs[p.1]? = some p.2 ∧ p.2.name ≠ "runtime.NumGoroutine" ∧ p.2.body.isNone = false
theorem InlOK.nil {P : Program} : InlOK P [] := ⟨fun _ h => by cases h⟩
theorem InlOK.cons {P : Program} {f : Nat} {fn : Func} {l : List (Nat × Func)} (h : P.funcs[f]? = some fn) (h1 : fn.name ≠ "runtime.NumGoroutine") (h2 : fn.body.isNone = false) (k : InlOK P l) : InlOK P ((f, fn) :: l) := ⟨fun d hd => by
  rcases List.mem_cons.1 hd with rfl | hd
  · exact ⟨h, h1, h2⟩
  · exact k.all d hd⟩
theorem kInl_ok {P : Program} (hm : P.follows .mixedOrders = true) {E : Env} {C : Cfg} (hC : CfgOK P E C) (hw : ∀ w, C.wok w) {f : Nat} {fn : Func} (hf : P.funcs[f]? = some fn) (h1 : fn.name ≠ "runtime.NumGoroutine") (h2 : fn.body.isNone = false) : ConOK P E f (kInl C fn) := by
  refine ⟨?_, ?_, fn, hf, h1, h2⟩
  · intro args G r h hG β w vs hv hlen
    unfold kInl at h
    split at h
    · rename_i hc
      simp only [Bool.and_eq_true, decide_eq_true_iff] at hc
      split at h
      · rename_i l hl
        injection h with h
        subst h
        refine (fun_sound hm hC hG hf hc.2.2 hl hc.2.1 hc.1 w vs hlen (fun i x hx => ⟨β, hv i x hx⟩) (fun w' _ => hw w')).mono ?_
        rintro e w' ⟨β', v, rfl, hh, ex⟩
        exact ⟨v, rfl, toAV_beta hh, ex⟩
      · cases h
    · cases h
  · intro args G r h x off
    unfold kInl at h
    split at h
    · split at h
      · injection h with h; subst h; exact toAV_nptr
      · cases h
    · cases h
def cfgI (C C0 : Cfg) (l : List (Nat × Func)) : Cfg :=
  { C with
    calls := fun f args M G => match findR l f with
      | some fn => kInl C0 fn args G
      | none => C.calls f args M G
    need := fun f args M G => match findR l f with
      | some fn => kInlN C0 fn args G
      | none => C.need f args M G }
theorem cfgI_ok {P : Program} (hm : P.follows .mixedOrders = true) {E : Env} {C C0 : Cfg} {l : List (Nat × Func)} (h : CfgOK P E C) (h0 : CfgOK P E C0) (hw : ∀ w, C0.wok w) (hl : InlOK P l) : CfgOK P E (cfgI C C0 l) := by
  refine ⟨h.zero, h.ag, h.fld, h.flds, h.bool, h.row, h.arr, ?_, ?_, ?_, h.slc, h.strT, h.cnv, h.apd, h.eq2, h.fty⟩
  · intro f args M G r hr hG β w vs hwk hv hlen hmem
    simp only [cfgI] at hr
    split at hr
    · rename_i fn hfn
      obtain ⟨k1, k2, k3⟩ := hl.all _ (findR_spec hfn)
      exact (kInl_ok hm h0 hw k1 k2 k3).calls args G r hr hG β w vs hv hlen
    · exact h.calls f args M G r hr hG β w vs hwk hv hlen hmem
  · intro f args M G r hr x off
    simp only [cfgI] at hr
    split at hr
    · rename_i fn hfn
      obtain ⟨k1, k2, k3⟩ := hl.all _ (findR_spec hfn)
      exact (kInl_ok hm h0 hw k1 k2 k3).nptr args G r hr x off
    · exact h.nptr f args M G r hr x off
  · intro f args M G r hr
    simp only [cfgI] at hr
    split at hr
    · rename_i fn hfn
      obtain ⟨k1, k2, k3⟩ := hl.all _ (findR_spec hfn)
      exact ⟨fn, k1, k2, k3⟩
    · exact h.body f args M G r hr
theorem TabOK.app {P : Program} {E : Env} {l m : List (Nat × Con)} (h : TabOK P E l) (k : TabOK P E m) : TabOK P E (l ++ m) := ⟨fun p hp => by
  rcases List.mem_append.1 hp with hp | hp
  · exact h.all p hp
  · exact k.all p hp⟩
def cfgT (tab : List (Nat × Con)) (l : List (Nat × Func)) : Cfg := cfgI (cfgOf tab) (cfgOf tab) l
def cfgT2 (tab : List (Nat × Con)) (l l2 : List (Nat × Func)) : Cfg := cfgI (cfgT tab l) (cfgT tab l) l2
def cfgT3 (tab : List (Nat × Con)) (l l2 l3 : List (Nat × Func)) : Cfg := cfgI (cfgT2 tab l l2) (cfgT2 tab l l2) l3
theorem cfgT_ok {E : Env} {tab : List (Nat × Con)} {l : List (Nat × Func)} (hm : Tryz.prog.follows .mixedOrders = true) (h : TabOK Tryz.prog E tab) (hl : InlOK Tryz.prog l) : CfgOK Tryz.prog E (cfgT tab l) := cfgI_ok hm (cfg_ok h) (cfg_ok h) (fun _ => trivial) hl
theorem cfgT2_ok {E : Env} {tab : List (Nat × Con)} {l l2 : List (Nat × Func)} (hm : Tryz.prog.follows .mixedOrders = true) (h : TabOK Tryz.prog E tab) (hl : InlOK Tryz.prog l) (hl2 : InlOK Tryz.prog l2) : CfgOK Tryz.prog E (cfgT2 tab l l2) := cfgI_ok hm (cfgT_ok hm h hl) (cfgT_ok hm h hl) (fun _ => trivial) hl2
theorem cfgT3_ok {E : Env} {tab : List (Nat × Con)} {l l2 l3 : List (Nat × Func)} (hm : Tryz.prog.follows .mixedOrders = true) (h : TabOK Tryz.prog E tab) (hl : InlOK Tryz.prog l) (hl2 : InlOK Tryz.prog l2) (hl3 : InlOK Tryz.prog l3) : CfgOK Tryz.prog E (cfgT3 tab l l2 l3) := cfgI_ok hm (cfgT2_ok hm h hl hl2) (cfgT2_ok hm h hl hl2) (fun _ => trivial) hl3
end Go.Proofs.YtnejcdjakjmklaaGreatDoor
end

section
set_option maxRecDepth 100000
namespace Go.Proofs.YtnejcdjakjmklaaGreatDoor
open Go.RowKit
def IsRoot (w : World) (v : Value) (a b c : Rat) : Prop := ∃ x y z : List Value, v = .agg (x ++ (y ++ z)).toArray ∧ IsRat w (.agg x.toArray) a ∧ IsRat w (.agg y.toArray) b ∧ IsRat w (.agg z.toArray) c
def LimR (m : Nat) (a b c : Rat) : Prop := LimQ m a ∧ LimQ m b ∧ LimQ m c
theorem LimQ.mono {l m : Nat} {q : Rat} (h : LimQ l q) (k : l ≤ m) : LimQ m q := ⟨h.1.mono k, h.2.mono k⟩
theorem LimR.mono {l m : Nat} {a b c : Rat} (h : LimR l a b c) (k : l ≤ m) : LimR m a b c := ⟨h.1.mono k, h.2.1.mono k, h.2.2.mono k⟩
def rt (A B C : IT2) (l : Nat) : List Chunk := [.int A.1 l, .int A.2 l, .int B.1 l, .int B.2 l, .int C.1 l, .int C.2 l]
theorem two_chunks {E : Env} {w : World} {A : IT2} {a : Rat} (hA : RepQ E A a) {l m : Nat} {cs : List Chunk} {vs : List Value} :
    chunks E w (.int A.1 l :: .int A.2 m :: cs) vs ↔ ∃ x r, vs = x ++ r ∧ (IsRat w (.agg x.toArray) a ∧ Lim l a.num ∧ Lim m (a.den : Int)) ∧ chunks E w cs r := by
  constructor
  · rintro ⟨u0, r0, rfl, ⟨x0, y0, rfl, i0, m0⟩, u1, r1, rfl, ⟨x1, y1, rfl, i1, m1⟩, h⟩
    rw [hA.1] at i0 m0
    rw [hA.2] at i1 m1
    exact ⟨[x0, y0, x1, y1], r1, rfl, ⟨⟨x0, y0, x1, y1, rfl, i0, i1⟩, m0, m1⟩, h⟩
  · rintro ⟨x, r, rfl, ⟨⟨x0, y0, x1, y1, hx, i0, i1⟩, m0, m1⟩, h⟩
    injection hx with hx
    have hx' : x = [x0, y0, x1, y1] := congrArg Array.toList hx
    subst hx'
    refine ⟨[x0, y0], [x1, y1] ++ r, rfl, ⟨x0, y0, rfl, ?_, ?_⟩, [x1, y1], r, rfl, ⟨x1, y1, rfl, ?_, ?_⟩, h⟩
    · rw [hA.1]; exact i0
    · rw [hA.1]; exact m0
    · rw [hA.2]; exact i1
    · rw [hA.2]; exact m1
theorem one_root {E : Env} {w : World} {A B C : IT2} {a b c : Rat} (hA : RepQ E A a) (hB : RepQ E B b) (hC : RepQ E C c) {l1 l2 l3 l4 l5 l6 : Nat} {v : Value} :
    one E w (true, [.int A.1 l1, .int A.2 l2, .int B.1 l3, .int B.2 l4, .int C.1 l5, .int C.2 l6]) v ↔ IsRoot w v a b c ∧ ((Lim l1 a.num ∧ Lim l2 (a.den : Int)) ∧ (Lim l3 b.num ∧ Lim l4 (b.den : Int)) ∧ (Lim l5 c.num ∧ Lim l6 (c.den : Int))) := by
  constructor
  · rintro ⟨vs, rfl, h⟩
    obtain ⟨x, r, rfl, ⟨h1, m1⟩, h⟩ := (two_chunks hA).1 h
    obtain ⟨y, r, rfl, ⟨h2, m2⟩, h⟩ := (two_chunks hB).1 h
    obtain ⟨z, r, rfl, ⟨h3, m3⟩, h⟩ := (two_chunks hC).1 h
    simp only [chunks] at h
    subst h
    rw [List.append_nil]
    exact ⟨⟨x, y, z, rfl, h1, h2, h3⟩, m1, m2, m3⟩
  · rintro ⟨⟨x, y, z, rfl, h1, h2, h3⟩, m1, m2, m3⟩
    exact ⟨x ++ (y ++ z), rfl, (two_chunks hA).2 ⟨x, y ++ z, rfl, ⟨h1, m1⟩, (two_chunks hB).2 ⟨y, z, rfl, ⟨h2, m2⟩, (two_chunks hC).2 ⟨z, [], by simp, ⟨h3, m3⟩, rfl⟩⟩⟩⟩
theorem one_rt {E : Env} {w : World} {A B C : IT2} {a b c : Rat} (hA : RepQ E A a) (hB : RepQ E B b) (hC : RepQ E C c) {l : Nat} {v : Value} : one E w (true, rt A B C l) v ↔ IsRoot w v a b c ∧ LimR l a b c := one_root hA hB hC
theorem one_q {E : Env} {w : World} {A : IT2} {a : Rat} (hA : RepQ E A a) {l m : Nat} {v : Value} : one E w (true, [.int A.1 l, .int A.2 m]) v ↔ IsRat w v a ∧ Lim l a.num ∧ Lim m (a.den : Int) := by
  constructor
  · rintro ⟨vs, rfl, h⟩
    obtain ⟨x, r, rfl, ⟨h1, m1⟩, h⟩ := (two_chunks hA).1 h
    simp only [chunks] at h
    subst h
    rw [List.append_nil]
    exact ⟨h1, m1⟩
  · rintro ⟨⟨x0, y0, x1, y1, rfl, i0, i1⟩, m1⟩
    exact ⟨[x0, y0, x1, y1], rfl, (two_chunks hA).2 ⟨[x0, y0, x1, y1], [], rfl, ⟨⟨x0, y0, x1, y1, rfl, i0, i1⟩, m1⟩, rfl⟩⟩
def rtOf : AV → Option ((IT2 × IT2 × IT2) × Nat)
  | .val true [.int x1 l1, .int x2 l2, .int x3 l3, .int x4 l4, .int x5 l5, .int x6 l6] =>
    if canon x1 x2 && (canon x3 x4 && canon x5 x6) then some (((x1, x2), (x3, x4), (x5, x6)), max l1 (max l2 (max l3 (max l4 (max l5 l6))))) else none
  | _ => none
theorem rtOf_spec {E : Env} (hE : QEnv E) {β : Nat → Nat} {w : World} {x : AV} {v : Value} {A B C : IT2} {m : Nat} (h : rtOf x = some ((A, B, C), m)) (hx : x.holds E β w v) :
    ∃ a b c, RepQ E A a ∧ RepQ E B b ∧ RepQ E C c ∧ IsRoot w v a b c ∧ LimR m a b c := by
  unfold rtOf at h
  split at h
  · rename_i x1 l1 x2 l2 x3 l3 x4 l4 x5 l5 x6 l6
    split at h
    · rename_i hc
      simp only [Bool.and_eq_true] at hc
      injection h with h
      injection h with h hm
      injection h with h1 h
      injection h with h2 h3
      subst h1 h2 h3 hm
      obtain ⟨a, a1, a2⟩ := canon_spec hE hc.1
      obtain ⟨b, b1, b2⟩ := canon_spec hE hc.2.1
      obtain ⟨c, c1, c2⟩ := canon_spec hE hc.2.2
      obtain ⟨hr, ⟨m1, m2⟩, ⟨m3, m4⟩, m5, m6⟩ := (one_root (A := (x1, x2)) (B := (x3, x4)) (C := (x5, x6)) ⟨a1, a2⟩ ⟨b1, b2⟩ ⟨c1, c2⟩).1 hx
      exact ⟨a, b, c, ⟨a1, a2⟩, ⟨b1, b2⟩, ⟨c1, c2⟩, hr, ⟨m1.mono (by omega), m2.mono (by omega)⟩, ⟨m3.mono (by omega), m4.mono (by omega)⟩, m5.mono (by omega), m6.mono (by omega)⟩
    · cases h
  · cases h
def qOf : AV → Option (IT2 × Nat)
  | .val true [.int x1 l1, .int x2 l2] => if canon x1 x2 then some ((x1, x2), max l1 l2) else none
  | _ => none
theorem qOf_spec {E : Env} (hE : QEnv E) {β : Nat → Nat} {w : World} {x : AV} {v : Value} {A : IT2} {m : Nat} (h : qOf x = some (A, m)) (hx : x.holds E β w v) : ∃ a, RepQ E A a ∧ IsRat w v a ∧ LimQ m a := by
  unfold qOf at h
  split at h
  · rename_i x1 l1 x2 l2
    split at h
    · rename_i hc
      injection h with h
      injection h with h1 hm
      subst h1 hm
      obtain ⟨a, a1, a2⟩ := canon_spec hE hc
      obtain ⟨hr, m1, m2⟩ := (one_q (A := (x1, x2)) ⟨a1, a2⟩).1 hx
      exact ⟨a, ⟨a1, a2⟩, hr, m1.mono (by omega), m2.mono (by omega)⟩
    · cases h
  · cases h
def rdT (B C : IT2) : BT := .eq (.a4 20 B.1 B.2 C.1 C.2) (.lit 1)
theorem rdT_den {E : Env} {B C : IT2} {b c : Rat} (hB : RepQ E B b) (hC : RepQ E C c) : (rdT B C).den E = Rdb b c := by
  have r : RepQ E (qop 10 B C) (ratF 10 b c) := rep_op (f := 10) (by omega) hB hC
  show ((qop 10 B C).1.den E == 1) = _
  rw [r.1]
  show ((if Rdb b c = true then (1 : Rat) else 0).num == 1) = _
  cases Rdb b c <;> rfl
theorem rdT_spec {E : Env} {G : Asm} (hG : G.holds E) {B C : IT2} {b c : Rat} (hB : RepQ E B b) (hC : RepQ E C c) (h : ((rdT B C).ev G == some true) = true) : Rd b c := by
  rw [beq_iff_eq] at h
  have := BT.ev_spec hG h
  rw [rdT_den hB hC] at this
  exact Rdb_iff.1 this
def nokT (B C B' C' : IT2) : BT := .and (.not (.eq B.1 (.lit 0))) (.and (.not (.eq B'.1 (.lit 0))) (.not (.and (.eq C.1 C'.1) (.eq C.2 C'.2))))
def Ok (b c b' c' : Rat) : Prop := b = 0 ∨ b' = 0 ∨ c = c'
theorem nokT_den {E : Env} {B C B' C' : IT2} {b c b' c' : Rat} (hB : RepQ E B b) (hC : RepQ E C c) (hB' : RepQ E B' b') (hC' : RepQ E C' c') : (nokT B C B' C').den E = false ↔ Ok b c b' c' := by
  have n1 : b.num = 0 ↔ b = 0 := Rat.num_eq_zero
  have n2 : b'.num = 0 ↔ b' = 0 := Rat.num_eq_zero
  have n3 : (c.num = c'.num ∧ (c.den : Int) = (c'.den : Int)) ↔ c = c' := ⟨fun h => Rat.ext h.1 (by have := h.2; omega), fun h => by subst h; exact ⟨rfl, rfl⟩⟩
  unfold nokT Ok
  simp only [BT.den, IT.den, hB.1, hB'.1, hC.1, hC.2, hC'.1, hC'.2]
  rw [← n1, ← n2, ← n3]
  cases h1 : (b.num == 0) <;> cases h2 : (b'.num == 0) <;> cases h3 : (c.num == c'.num) <;> cases h4 : ((c.den : Int) == (c'.den : Int)) <;> simp_all
def cmT (B C C' : IT2) : IT2 := qop 0 (qop 5 B C) (qop 6 B C')
def cm (b c c' : Rat) : Rat := rC b c + rN b c'
theorem cm_zero (c c' : Rat) : cm 0 c c' = c' := by unfold cm; rw [rC_zero, rN_zero]; grind
theorem cm_ne {b : Rat} (h : b ≠ 0) (c c' : Rat) : cm b c c' = c := by unfold cm; rw [rC_ne h, rN_ne h]; grind
theorem rep_rC {E : Env} {B C : IT2} {b c : Rat} (hB : RepQ E B b) (hC : RepQ E C c) : RepQ E (qop 5 B C) (rC b c) := rep_op (f := 5) (by omega) hB hC
theorem rep_rN {E : Env} {B C : IT2} {b c : Rat} (hB : RepQ E B b) (hC : RepQ E C c) : RepQ E (qop 6 B C) (rN b c) := rep_op (f := 6) (by omega) hB hC
theorem rep_sq2 {E : Env} {B C : IT2} {b c : Rat} (hB : RepQ E B b) (hC : RepQ E C c) : RepQ E (qop 7 B C) (sq2 b c) := rep_op (f := 7) (by omega) hB hC
theorem rep_cm {E : Env} {B C C' : IT2} {b c c' : Rat} (hB : RepQ E B b) (hC : RepQ E C c) (hC' : RepQ E C' c') : RepQ E (cmT B C C') (cm b c c') := rep_op (f := 0) (by omega) (rep_rC hB hC) (rep_rN hB hC')
theorem rep_add {E : Env} {p q : IT2} {a b : Rat} (hp : RepQ E p a) (hq : RepQ E q b) : RepQ E (qop 0 p q) (a + b) := rep_op (f := 0) (by omega) hp hq
theorem rep_sub {E : Env} {p q : IT2} {a b : Rat} (hp : RepQ E p a) (hq : RepQ E q b) : RepQ E (qop 1 p q) (a - b) := rep_op (f := 1) (by omega) hp hq
theorem rep_mul {E : Env} {p q : IT2} {a b : Rat} (hp : RepQ E p a) (hq : RepQ E q b) : RepQ E (qop 2 p q) (a * b) := rep_op (f := 2) (by omega) hp hq
def qng (p : IT2) : IT2 := (.a1 0 p.1, p.2)
theorem rep_ng {E : Env} {p : IT2} {a : Rat} (h : RepQ E p a) : RepQ E (qng p) (-a) := by
  constructor
  · show - p.1.den E = _
    rw [h.1, Rat.neg_num]
  · show p.2.den E = _
    rw [h.2, Rat.neg_den]
theorem rep_0 {E : Env} : RepQ E (.lit 0, .lit 1) (0 : Rat) := ⟨rfl, rfl⟩
theorem LimQ.zero {m : Nat} (h : 1 ≤ m) : LimQ m 0 := ⟨lim_zero, (lim1 (z := 1) (by decide)).mono h⟩
theorem LimQ.mulQ {m : Nat} {a b : Rat} (h : LimQ m a) (k : LimQ m b) : LimQ (4 * m + 1) (a * b) := by
  obtain ⟨h1, h2⟩ := LimQ.mul h.1 h.2 k.1 k.2
  exact ⟨h1.mono (by omega), h2.mono (by omega)⟩
theorem LimQ.addQ {m : Nat} {a b : Rat} (h : LimQ m a) (k : LimQ m b) : LimQ (4 * m + 1) (a + b) := by
  obtain ⟨h1, h2⟩ := LimQ.add h.1 h.2 k.1 k.2
  exact ⟨h1.mono (by omega), h2.mono (by omega)⟩
theorem LimQ.negQ {m : Nat} {a : Rat} (h : LimQ m a) : LimQ m (-a) := by
  refine ⟨?_, ?_⟩
  · rw [Rat.neg_num]; exact h.1.natAbs_le (by omega)
  · rw [Rat.neg_den]; exact h.2
theorem LimQ.rC {m : Nat} {b c : Rat} (h : LimQ m c) (k : 1 ≤ m) : LimQ m (rC b c) := by
  unfold Proofs.YtnejcdjakjmklaaGreatDoor.rC
  split
  · exact LimQ.zero k
  · exact h
theorem LimQ.cm {m : Nat} {b c c' : Rat} (h : LimQ m c) (h' : LimQ m c') : LimQ m (cm b c c') := by
  by_cases hb : b = 0
  · subst hb; rw [cm_zero]; exact h'
  · rw [cm_ne hb]; exact h
end Go.Proofs.YtnejcdjakjmklaaGreatDoor
end

section
set_option maxRecDepth 100000
namespace Go.Proofs.YtnejcdjakjmklaaGreatDoor
end Go.Proofs.YtnejcdjakjmklaaGreatDoor
end

section
set_option maxRecDepth 100000
namespace Go.Proofs.YtnejcdjakjmklaaGreatDoor
open Go.RowKit
theorem rfloor_rat_calls (w : World) (v : Value) (a : Rat) (h : IsRat w v a) (l : LimQ 100000 a) : Calls Tryz.prog 42 #[v] w (Ret (fun v w' => IsInt w' v a.floor) w) := by
  refine (walkQ1 (T := .leaf [(true, [.int (.a2 4 (.var 0) (.var 1)) 100000])]) (tab := [(90, kDM)])
    (.cons (kDMg_ok (fun w v u a b h k l1 l2 => rdivMod_fn w v u a b h k l1 l2) ⟨_, Tryz.func90, by decide +kernel, by kernel_rfl⟩) .nil)
    Tryz.func42 (by kernel_rfl) (by decide +kernel) (by decide +kernel) h l).mono ?_
  rintro e w' ⟨β, u, rfl, hh, ex⟩
  refine ⟨u, rfl, ?_, ex⟩
  have k := (one_int.1 hh).1
  have e1 : (IT.a2 4 (.var 0) (.var 1)).den (qE [a]) = a.floor := by
    show dq a.num (a.den : Int) = _
    rw [dq_pos (by have := a.den_pos; omega), ← Rat.floor_def]
  rw [e1] at k
  exact k
theorem rover_calls (w : World) (v1 v2 : Value) (a b : Rat) (h1 : IsRat w v1 a) (h2 : IsRat w v2 b) (hb : b ≠ 0) (l1 : LimQ 100000 a) (l2 : LimQ 100000 b) :
    Calls Tryz.prog 112 #[v1, v2] w (Ret (fun v w' => IsRat w' v (a / b)) w) := by
  refine (walkQ2 (T := .leaf [(true, [.int (qop 4 (qv 0) (qv 1)).1 400001, .int (qop 4 (qv 0) (qv 1)).2 400001])])
    (tabQ_ok (qE_ok _)) Tryz.func112 (by kernel_rfl) (by decide +kernel) (by decide +kernel) h1 h2 l1 l2).mono ?_
  rintro e w' ⟨β, u, rfl, hh, ex⟩
  refine ⟨u, rfl, ?_, ex⟩
  have k := (one_pair.1 hh).1
  have ra : RepQ (qE [a, b]) (qv 0) a := rep_v (i := 0)
  have rb : RepQ (qE [a, b]) (qv 1) b := rep_v (i := 1)
  have rd := rep_div hb ra rb
  rw [rd.1, rd.2] at k
  exact k
end Go.Proofs.YtnejcdjakjmklaaGreatDoor
end

section
set_option maxRecDepth 100000
namespace Go.Proofs.YtnejcdjakjmklaaGreatDoor
open Go.RowKit
def kFlR : Con
  | [.val true [.int x l, .int y m]], _ => if canon x y && (ql l && ql m) then some (.val true [.int (.a2 4 x y) l]) else none
  | _, _ => none
theorem kFlR_ok {E : Env} (hE : QEnv E) : ConOK Tryz.prog E 42 kFlR := by
  refine ⟨?_, ?_, ⟨_, Tryz.func42, by decide +kernel, by kernel_rfl⟩⟩
  · intro args As r h hG β w vs hv hlen
    unfold kFlR at h
    split at h
    · split at h
      · rename_i hm
        simp only [ql, Bool.and_eq_true, decide_eq_true_iff] at hm
        obtain ⟨c1, b1, b2⟩ := hm
        injection h with h
        subst h
        obtain ⟨v, rfl, h1⟩ := args1 hv hlen
        obtain ⟨q, _, e1, e2, hq, m1, m2⟩ := one_ratQ hE c1 h1
        have hd : dq q.num (q.den : Int) = q.floor := by rw [dq_pos (by have := q.den_pos; omega), ← Rat.floor_def]
        refine (rfloor_rat_calls w v q hq ⟨m1.mono b1, m2.mono b2⟩).mono ?_
        rintro e w' ⟨u, rfl, hI, ex⟩
        refine ⟨_, rfl, one_int.2 ⟨?_, ?_⟩, ex⟩
        · show IsInt w' u (dq _ _)
          rw [e1, e2, hd]; exact hI
        · show Lim _ (dq _ _)
          rw [e1, e2]; exact m1.natAbs_le (dq_abs _ _)
      · cases h
    · cases h
  · intro args As r h x off
    unfold kFlR at h
    split at h
    · split at h
      · injection h with h; subst h; intro e; cases e
      · cases h
    · cases h
end Go.Proofs.YtnejcdjakjmklaaGreatDoor
end

section
set_option maxRecDepth 100000
namespace Go.Proofs.YtnejcdjakjmklaaGreatDoor
open Go.RowKit
noncomputable def tabB : List (Nat × Con) := (171, kSqI) :: (168, kSqRef) :: (42, kFlR) :: (35, kFlQ) :: (28, kIIb fun x y => .eq x y) :: (tabInt ++ (tabR2 ++ tabT))
theorem tabB_ok {E : Env} (hE : QEnv E) : TabOK Tryz.prog E tabB := by
  refine .cons kSqI_ok (.cons kSqRef_ok ?_)
  refine .cons (kFlR_ok hE) ?_ 
  exact .cons (kFlQ_ok hE) (.cons (kIIb_ok (fun x y => x == y) (fun _ _ => rfl) (fun w v1 v2 z1 z2 h1 h2 => (rsame_calls w v1 v2 z1 z2 h1 h2).mono (fun e w' h => ⟨by rw [h.1]; by_cases hz : z1 = z2 <;> simp [hz], h.2⟩)) ⟨_, Tryz.func28, by decide +kernel, by kernel_rfl⟩) (TabOK.app tabInt_ok (TabOK.app tabR2_ok (tabT_ok hE))))
noncomputable def pL1 : List (Nat × Func) := (170, Tryz.f170) :: (121, Tryz.f121) :: (119, Tryz.f119) :: (169, Tryz.f169) :: (122, Tryz.f122) :: (76, Tryz.f76) ::    []
noncomputable def pL2 : List (Nat × Func) := (120, Tryz.f120) :: (117, Tryz.f117) :: (123, Tryz.f123) :: (31, Tryz.f31) ::  []
noncomputable def pL3 : List (Nat × Func) := (118, Tryz.f118) :: (74, Tryz.f74) :: (68, Tryz.f68) :: []
theorem pL1_ok : InlOK Tryz.prog pL1 :=
  .cons Tryz.func170 (by decide +kernel) (by kernel_rfl) <|
  .cons Tryz.func121 (by decide +kernel) (by kernel_rfl) <|
  .cons Tryz.func119 (by decide +kernel) (by kernel_rfl) <|
  .cons Tryz.func169 (by decide +kernel) (by kernel_rfl) <|
  .cons Tryz.func122 (by decide +kernel) (by kernel_rfl) <|
  .cons Tryz.func76 (by decide +kernel) (by kernel_rfl) <|
  
  
   .nil
theorem pL2_ok : InlOK Tryz.prog pL2 :=
  .cons Tryz.func120 (by decide +kernel) (by kernel_rfl) <|
  .cons Tryz.func117 (by decide +kernel) (by kernel_rfl) <|
  .cons Tryz.func123 (by decide +kernel) (by kernel_rfl) <|
  .cons Tryz.func31 (by decide +kernel) (by kernel_rfl) <|
   .nil
theorem pL3_ok : InlOK Tryz.prog pL3 :=
  .cons Tryz.func118 (by decide +kernel) (by kernel_rfl) <|
  .cons Tryz.func74 (by decide +kernel) (by kernel_rfl) <|
  .cons Tryz.func68 (by decide +kernel) (by kernel_rfl) <| .nil
noncomputable def cR (tab : List (Nat × Con)) : Cfg := cfgT3 (tab ++ tabB) pL1 pL2 pL3
theorem cR_ok {E : Env} (hE : QEnv E) {tab : List (Nat × Con)} (h : TabOK Tryz.prog E tab) : CfgOK Tryz.prog E (cR tab) := cfgT3_ok mixed (TabOK.app h (tabB_ok hE)) pL1_ok pL2_ok pL3_ok
def aRl (i l : Nat) : AV := .val true (rt (qv i) (qv (i + 1)) (qv (i + 2)) l)
def aR (i : Nat) : AV := aRl i 3000
theorem aRl_holds {l : List Rat} {β : Nat → Nat} {w : World} {v : Value} {i m : Nat} (h : IsRoot w v (l.getD i 0) (l.getD (i + 1) 0) (l.getD (i + 2) 0)) (k : LimR m (l.getD i 0) (l.getD (i + 1) 0) (l.getD (i + 2) 0)) : (aRl i m).holds (qE l) β w v := (one_rt rep_v rep_v rep_v).2 ⟨h, k⟩
theorem aR_holds {l : List Rat} {β : Nat → Nat} {w : World} {v : Value} {i : Nat} (h : IsRoot w v (l.getD i 0) (l.getD (i + 1) 0) (l.getD (i + 2) 0)) (k : LimR 3000 (l.getD i 0) (l.getD (i + 1) 0) (l.getD (i + 2) 0)) : (aR i).holds (qE l) β w v := (one_rt rep_v rep_v rep_v).2 ⟨h, k⟩
theorem walk1 {f : Nat} {fn : Func} {tab : List (Nat × Con)} {T : Tree} {G : Asm} {x : AV} {l : List Rat} (hf : Tryz.prog.funcs[f]? = some fn) (h4 : fn.results.toList.length ≤ 4) (htab : TabOK Tryz.prog (qE l) tab) (hG : G.holds (qE l)) (hT : funE (cR tab) fn G [x] = some T) (hn : 1 ≤ fn.ntmps) (hnp : [x].all noPtr = true)
    (w : World) (v : Value) (hv : ∀ β, x.holds (qE l) β w v) : Calls Tryz.prog f #[v] w fun e w' => ∃ β y, e = .returned y ∧ (toAV (T.pick (qE l))).holds (qE l) β w' y ∧ Ext w w' := by
  refine fun_sound mixed (cR_ok (qE_ok _) htab) hG hf h4 hT hn hnp w [v] rfl ?_
  intro i y hy
  match i, hy with
  | 0, hy => injection hy with hy; subst hy; exact ⟨fun _ => 0, v, rfl, hv _⟩
theorem walk2 {f : Nat} {fn : Func} {tab : List (Nat × Con)} {T : Tree} {G : Asm} {x z : AV} {l : List Rat} (hf : Tryz.prog.funcs[f]? = some fn) (h4 : fn.results.toList.length ≤ 4) (htab : TabOK Tryz.prog (qE l) tab) (hG : G.holds (qE l)) (hT : funE (cR tab) fn G [x, z] = some T) (hn : 2 ≤ fn.ntmps) (hnp : [x, z].all noPtr = true)
    (w : World) (v u : Value) (hv : ∀ β, x.holds (qE l) β w v) (hu : ∀ β, z.holds (qE l) β w u) : Calls Tryz.prog f #[v, u] w fun e w' => ∃ β y, e = .returned y ∧ (toAV (T.pick (qE l))).holds (qE l) β w' y ∧ Ext w w' := by
  refine fun_sound mixed (cR_ok (qE_ok _) htab) hG hf h4 hT hn hnp w [v, u] rfl ?_
  intro i y hy
  match i, hy with
  | 0, hy => injection hy with hy; subst hy; exact ⟨fun _ => 0, v, rfl, hv _⟩
  | 1, hy => injection hy with hy; subst hy; exact ⟨fun _ => 0, u, rfl, hu _⟩
def q0 : IT2 := (.lit 0, .lit 1)
def zt (p : IT2) : BT := .eq (.a2 3 p.1 (.lit 0)) (.lit 0)
theorem zt_den {E : Env} {p : IT2} {q : Rat} (h : RepQ E p q) : (zt p).den E = decide (q = 0) := by
  show (cmpZ (p.1.den E) 0 == 0) = _
  rw [h.1, Bool.eq_iff_iff, beq_iff_eq, decide_eq_true_iff, ← Rat.num_eq_zero]
  rcases cmpZ_cases q.num 0 with ⟨h, e⟩ | ⟨h, e⟩ | ⟨h, e⟩ <;> rw [e] <;> omega
def rt6 (A B C : IT2) (l m k : Nat) : List Chunk := [.int A.1 l, .int A.2 l, .int B.1 m, .int B.2 m, .int C.1 k, .int C.2 k]
def lf (A B C : IT2) (l m k : Nat) : Tree := .leaf [(true, rt6 A B C l m k)]
def lf2 (A B C : IT2) (l m k : Nat) : Tree := .leaf [(true, rt6 A B C l m k), (false, [.n .i64 (.lit 0)])]
def bad6 (z : Int) : List (Bool × List Chunk) := [(true, [.int (.lit 0) 0, .int (.lit 0) 0, .int (.lit 0) 0, .int (.lit 0) 0, .int (.lit 0) 0, .int (.lit 0) 0]), (false, [.n .i64 (.lit z)])]
theorem lf_out {E : Env} {β : Nat → Nat} {w : World} {v : Value} {A B C : IT2} {a b c : Rat} {l m k : Nat} (hA : RepQ E A a) (hB : RepQ E B b) (hC : RepQ E C c) (h : (toAV ((lf A B C l m k).pick E)).holds E β w v) : IsRoot w v a b c := ((one_root hA hB hC).1 h).1
theorem lf2_out {E : Env} {β : Nat → Nat} {w : World} {v : Value} {A B C : IT2} {a b c : Rat} {l m k : Nat} (hA : RepQ E A a) (hB : RepQ E B b) (hC : RepQ E C c) (h : (toAV ((lf2 A B C l m k).pick E)).holds E β w v) : ∃ x, v = .tuple #[x, .int .i64 0] ∧ IsRoot w x a b c := by
  obtain ⟨vs, rfl, u1, r1, rfl, k1, u2, r2, rfl, k2, hn⟩ := h
  simp only [tupAll] at hn
  subst hn
  have k2' := one_num.1 k2
  subst k2'
  exact ⟨u1, rfl, ((one_root hA hB hC).1 k1).1⟩
def Zero6 (w : World) (v : Value) : Prop := ∀ E, one E w (true, [.int (.lit 0) 0, .int (.lit 0) 0, .int (.lit 0) 0, .int (.lit 0) 0, .int (.lit 0) 0, .int (.lit 0) 0]) v
theorem zero6_of {E : Env} {w : World} {v : Value} (h : one E w (true, [.int (.lit 0) 0, .int (.lit 0) 0, .int (.lit 0) 0, .int (.lit 0) 0, .int (.lit 0) 0, .int (.lit 0) 0]) v) : Zero6 w v := fun _ => h
theorem bad6_out {E : Env} {β : Nat → Nat} {w : World} {v : Value} {z : Int} (h : (toAV ((Tree.leaf (bad6 z)).pick E)).holds E β w v) : ∃ x, v = .tuple #[x, .int .i64 z] ∧ Zero6 w x := by
  obtain ⟨vs, rfl, u1, r1, rfl, k1, u2, r2, rfl, k2, hn⟩ := h
  simp only [tupAll] at hn
  subst hn
  have k2' := one_num.1 k2
  subst k2'
  exact ⟨u1, rfl, zero6_of k1⟩
section
variable {w : World} {v u : Value} {a b c a' b' c' k : Rat}
end
end Go.Proofs.YtnejcdjakjmklaaGreatDoor
end

section
set_option maxRecDepth 100000
namespace Go.Proofs.YtnejcdjakjmklaaGreatDoor
open Go.RowKit
def RetR (w : World) (ok : Prop) (err : Int) (p q r : Rat) (e : Ending) (w' : World) : Prop :=
  (ok → ∃ x, e = .returned (.tuple #[x, .int .i64 0]) ∧ IsRoot w' x p q r ∧ Ext w w') ∧ (¬ ok → ∃ x, e = .returned (.tuple #[x, .int .i64 err]) ∧ Zero6 w' x ∧ Ext w w')
theorem ite_pick {E : Env} {b : BT} {t e : Tree} {p : Bool} (h : b.den E = p) : (Tree.ite b t e).pick E = if p then t.pick E else e.pick E := by
  simp only [Tree.pick, h]
def endP (A B C : IT2) : Tree := .ite (zt B) (lf2 A q0 q0 12001 3 3) (lf2 A B C 12001 12001 3000)
theorem endP_out {E : Env} {β : Nat → Nat} {w : World} {v : Value} {A B C : IT2} {a b c : Rat} (hA : RepQ E A a) (hB : RepQ E B b) (hC : RepQ E C c) (h : (toAV ((endP A B C).pick E)).holds E β w v) : ∃ x, v = .tuple #[x, .int .i64 0] ∧ IsRoot w x a b (rC b c) := by
  unfold endP at h
  rw [ite_pick (zt_den hB)] at h
  by_cases hz : b = 0
  · rw [decide_eq_true hz, if_pos rfl] at h
    rw [hz, rC_zero]
    exact lf2_out hA rep_0 rep_0 h
  · rw [decide_eq_false hz, if_neg (by decide)] at h
    rw [rC_ne hz]
    exact lf2_out hA hB hC h
def eqPT : BT := .eq (.a2 3 (.var 4) (.var 10)) (.lit 0)
def eqPT2 : BT := .eq (.a2 3 (.var 5) (.var 11)) (.lit 0)
theorem cmp0 (x y : Int) : (cmpZ x y == 0) = decide (x = y) := by
  rw [Bool.eq_iff_iff, beq_iff_eq, decide_eq_true_iff]
  rcases cmpZ_cases x y with ⟨h, e⟩ | ⟨h, e⟩ | ⟨h, e⟩ <;> rw [e] <;> omega
theorem rat_eq_parts {c c' : Rat} : c = c' ↔ c.num = c'.num ∧ (c.den : Int) = (c'.den : Int) := ⟨fun h => by subst h; exact ⟨rfl, rfl⟩, fun h => Rat.ext h.1 (by have := h.2; omega)⟩
def comP (x y : Tree) : Tree := .ite (zt (qv 1)) y (.ite (zt (qv 4)) x (.ite eqPT (.ite eqPT2 x (.leaf (bad6 1))) (.leaf (bad6 1))))
section
variable {a b c a' b' c' : Rat} {x y : Tree} {E : Env} {β : Nat → Nat} {w w' : World} {v : Value}
theorem rep6 : RepQ (qE [a, b, c, a', b', c']) (qv 0) a ∧ RepQ (qE [a, b, c, a', b', c']) (qv 1) b ∧ RepQ (qE [a, b, c, a', b', c']) (qv 2) c ∧ RepQ (qE [a, b, c, a', b', c']) (qv 3) a' ∧ RepQ (qE [a, b, c, a', b', c']) (qv 4) b' ∧ RepQ (qE [a, b, c, a', b', c']) (qv 5) c' :=
  ⟨rep_v (i := 0), rep_v (i := 1), rep_v (i := 2), rep_v (i := 3), rep_v (i := 4), rep_v (i := 5)⟩
theorem comP_out (h : (toAV ((comP x y).pick (qE [a, b, c, a', b', c']))).holds (qE [a, b, c, a', b', c']) β w' v) :
    (Ok b c b' c' ∧ ((b = 0 ∧ (toAV (y.pick (qE [a, b, c, a', b', c']))).holds (qE [a, b, c, a', b', c']) β w' v) ∨ (b ≠ 0 ∧ (toAV (x.pick (qE [a, b, c, a', b', c']))).holds (qE [a, b, c, a', b', c']) β w' v))) ∨ (¬ Ok b c b' c' ∧ ∃ z, v = .tuple #[z, .int .i64 1] ∧ Zero6 w' z) := by
  obtain ⟨ra, rb, rc, ra', rb', rc'⟩ := rep6 (a := a) (b := b) (c := c) (a' := a') (b' := b') (c' := c')
  have e1 : eqPT.den (qE [a, b, c, a', b', c']) = decide (c.num = c'.num) := cmp0 _ _
  have e2 : eqPT2.den (qE [a, b, c, a', b', c']) = decide ((c.den : Int) = (c'.den : Int)) := cmp0 _ _
  unfold comP at h
  rw [ite_pick (zt_den rb), ite_pick (zt_den rb'), ite_pick e1, ite_pick e2] at h
  unfold Ok
  by_cases hb : b = 0
  · rw [decide_eq_true hb, if_pos rfl] at h
    exact .inl ⟨.inl hb, .inl ⟨hb, h⟩⟩
  · rw [decide_eq_false hb, if_neg (by decide)] at h
    by_cases hb' : b' = 0
    · rw [decide_eq_true hb', if_pos rfl] at h
      exact .inl ⟨.inr (.inl hb'), .inr ⟨hb, h⟩⟩
    · rw [decide_eq_false hb', if_neg (by decide)] at h
      by_cases h1 : c.num = c'.num
      · rw [decide_eq_true h1, if_pos rfl] at h
        by_cases h2 : (c.den : Int) = (c'.den : Int)
        · rw [decide_eq_true h2, if_pos rfl] at h
          exact .inl ⟨.inr (.inr (rat_eq_parts.2 ⟨h1, h2⟩)), .inr ⟨hb, h⟩⟩
        · rw [decide_eq_false h2, if_neg (by decide)] at h
          refine .inr ⟨?_, bad6_out h⟩
          rintro (k | k | k)
          · exact hb k
          · exact hb' k
          · exact h2 (rat_eq_parts.1 k).2
      · rw [decide_eq_false h1, if_neg (by decide)] at h
        refine .inr ⟨?_, bad6_out h⟩
        rintro (k | k | k)
        · exact hb k
        · exact hb' k
        · exact h1 (rat_eq_parts.1 k).1
end
theorem RetR.of {w : World} {ok : Prop} {err : Int} {p q r : Rat} {v : Value} {w' : World} (ex : Ext w w') (h : (ok ∧ ∃ x, v = .tuple #[x, .int .i64 0] ∧ IsRoot w' x p q r) ∨ (¬ ok ∧ ∃ z, v = .tuple #[z, .int .i64 err] ∧ Zero6 w' z)) : RetR w ok err p q r (.returned v) w' := by
  rcases h with ⟨h, x, rfl, hx⟩ | ⟨h, x, rfl, hx⟩
  · exact ⟨fun _ => ⟨x, rfl, hx, ex⟩, fun k => absurd h k⟩
  · exact ⟨fun k => absurd k h, fun _ => ⟨x, rfl, hx, ex⟩⟩
section
variable {w : World} {v u : Value} {a b c a' b' c' k : Rat}
theorem p_add (h : IsRoot w v a b c) (hu : IsRoot w u a' b' c') (l : LimR 3000 a b c) (l' : LimR 3000 a' b' c') : Calls Tryz.prog 73 #[v, u] w (RetR w (Ok b c b' c') 1 (a + a') (b + b') (rC (b + b') (cm b c c'))) := by
  refine (walk2 (l := [a, b, c, a', b', c']) (tab := []) (x := aR 0) (z := aR 3) (T := comP (endP (qop 0 (qv 0) (qv 3)) (qop 0 (qv 1) (qv 4)) (qv 2)) (endP (qop 0 (qv 0) (qv 3)) (qop 0 (qv 1) (qv 4)) (qv 5)))
    Tryz.func73 (by decide +kernel) .nil no_asm (by kernel_rfl) (by decide +kernel) rfl w v u (fun _ => aR_holds h l) (fun _ => aR_holds hu l')).mono ?_
  rintro e w' ⟨β, y, rfl, hh, ex⟩
  obtain ⟨ra, rb, rc, ra', rb', rc'⟩ := rep6 (a := a) (b := b) (c := c) (a' := a') (b' := b') (c' := c')
  refine RetR.of ex ?_
  rcases comP_out hh with ⟨ho, ⟨hb, hh⟩ | ⟨hb, hh⟩⟩ | hno
  · refine .inl ⟨ho, ?_⟩
    rw [show cm b c c' = c' by rw [hb, cm_zero]]
    exact endP_out (rep_add ra ra') (rep_add rb rb') rc' hh
  · refine .inl ⟨ho, ?_⟩
    rw [cm_ne hb]
    exact endP_out (rep_add ra ra') (rep_add rb rb') rc hh
  · exact .inr hno
theorem p_neg (R : Rd b c) (h : IsRoot w v a b c) (l : LimR 3000 a b c) : Calls Tryz.prog 77 #[v] w (Ret (fun x w' => IsRoot w' x (-a) (-b) c) w) := by
  refine (walk1 (l := [a, b, c]) (tab := []) (x := aR 0) (T := .ite (zt (qng (qv 1))) (lf (qng (qv 0)) q0 q0 3000 3 3) (lf (qng (qv 0)) (qng (qv 1)) (qv 2) 3000 3000 3000))
    Tryz.func77 (by decide +kernel) .nil no_asm (by kernel_rfl) (by decide +kernel) rfl w v (fun _ => aR_holds h l)).mono ?_
  rintro e w' ⟨β, y, rfl, hh, ex⟩
  have ra : RepQ (qE [a, b, c]) (qv 0) a := rep_v (i := 0)
  have rb : RepQ (qE [a, b, c]) (qv 1) b := rep_v (i := 1)
  have rc : RepQ (qE [a, b, c]) (qv 2) c := rep_v (i := 2)
  refine ⟨y, rfl, ?_, ex⟩
  rw [ite_pick (zt_den (rep_ng rb))] at hh
  by_cases hz : -b = 0
  · rw [decide_eq_true hz, if_pos rfl] at hh
    have hb : b = 0 := by grind
    have hc : c = 0 := by
      rcases R with ⟨_, h⟩ | ⟨h, _⟩
      · exact h
      · exact absurd hb h
    rw [hz, hc]
    exact lf_out (rep_ng ra) rep_0 rep_0 hh
  · rw [decide_eq_false hz, if_neg (by decide)] at hh
    exact lf_out (rep_ng ra) (rep_ng rb) rc hh
def sgt (p : IT2) : IT := .a2 3 p.1 (.lit 0)
theorem sgt_den {E : Env} {p : IT2} {q : Rat} (h : RepQ E p q) : (sgt p).den E = sgQ q := by
  show cmpZ (p.1.den E) 0 = _
  rw [h.1]; rfl
end
end Go.Proofs.YtnejcdjakjmklaaGreatDoor
end

section
set_option maxRecDepth 100000
namespace Go.Proofs.YtnejcdjakjmklaaGreatDoor
open Go.RowKit
def rdA (rd : Bool) (G : Asm) (B C : IT2) : Bool := !rd || (rdT B C).ev G == some true
theorem rdA_spec {E : Env} {G : Asm} (hG : G.holds E) {B C : IT2} {b c : Rat} (hB : RepQ E B b) (hC : RepQ E C c) {rd : Bool} (h : rdA rd G B C = true) : rd = true → Rd b c := by
  intro hr
  subst hr
  exact rdT_spec hG hB hC (by simpa [rdA] using h)
def kRSc (rd : Bool) : Con
  | [x, y], G => match rtOf x, qOf y with
    | some ((A, B, C), m), some (K, j) => if rdA rd G B C && (decide (m ≤ 20000) && decide (j ≤ 20000)) then some (.val true (rt (qop 2 A K) (qop 2 B K) (qop 5 (qop 2 B K) C) (4 * max m j + 1))) else none
    | _, _ => none
  | _, _ => none
theorem kRSc_ok {E : Env} (hE : QEnv E) {f : Nat} {rd : Bool} (hc : ∀ (w : World) (v u : Value) (a b c k : Rat), (rd = true → Rd b c) → IsRoot w v a b c → IsRat w u k → LimR 20000 a b c → LimQ 20000 k → Calls Tryz.prog f #[v, u] w (Ret (fun x w' => IsRoot w' x (a * k) (b * k) (rC (b * k) c)) w))
    (hb : ∃ fn, Tryz.prog.funcs[f]? = some fn ∧ fn.name ≠ "runtime.NumGoroutine" ∧ fn.body.isNone = false) : ConOK Tryz.prog E f (kRSc rd) := by
  refine ⟨?_, ?_, hb⟩
  · intro args G r h hG β w vs hv hlen
    unfold kRSc at h
    split at h
    · split at h
      · rename_i x y A B C m K j hx hy
        split at h
        · rename_i hcd
          simp only [Bool.and_eq_true, decide_eq_true_iff] at hcd
          injection h with h
          subst h
          obtain ⟨v, u, rfl, h1, h2⟩ := args2 hv hlen
          obtain ⟨a, b, c, ra, rb, rc, ir, lr⟩ := rtOf_spec hE hx h1
          obtain ⟨k, rk, iq, lq⟩ := qOf_spec hE hy h2
          refine (hc w v u a b c k (rdA_spec hG rb rc hcd.1) ir iq (lr.mono hcd.2.1) (lq.mono hcd.2.2)).mono ?_
          rintro e w' ⟨x', rfl, hr, ex⟩
          have lr' := lr.mono (Nat.le_max_left m j)
          have lq' := lq.mono (Nat.le_max_right m j)
          exact ⟨x', rfl, (one_rt (rep_mul ra rk) (rep_mul rb rk) (rep_rC (rep_mul rb rk) rc)).2 ⟨hr, lr'.1.mulQ lq', lr'.2.1.mulQ lq', LimQ.rC (lr'.2.2.mono (by omega)) (by omega)⟩, ex⟩
        · cases h
      · cases h
    · cases h
  · intro args G r h x off
    unfold kRSc at h
    split at h
    · split at h
      · split at h
        · injection h with h; subst h; intro e; cases e
        · cases h
      · cases h
    · cases h
def kRNg (rd : Bool) : Con
  | [x], G => match rtOf x with
    | some ((A, B, C), m) => if rdA rd G B C && decide (m ≤ 3000) then some (.val true (rt (qng A) (qng B) C m)) else none
    | _ => none
  | _, _ => none
theorem kRNg_ok {E : Env} (hE : QEnv E) {f : Nat} {rd : Bool} (hc : ∀ (w : World) (v : Value) (a b c : Rat), (rd = true → Rd b c) → IsRoot w v a b c → LimR 3000 a b c → Calls Tryz.prog f #[v] w (Ret (fun x w' => IsRoot w' x (-a) (-b) c) w))
    (hb : ∃ fn, Tryz.prog.funcs[f]? = some fn ∧ fn.name ≠ "runtime.NumGoroutine" ∧ fn.body.isNone = false) : ConOK Tryz.prog E f (kRNg rd) := by
  refine ⟨?_, ?_, hb⟩
  · intro args G r h hG β w vs hv hlen
    unfold kRNg at h
    split at h
    · split at h
      · rename_i x A B C m hx
        split at h
        · rename_i hcd
          simp only [Bool.and_eq_true, decide_eq_true_iff] at hcd
          injection h with h
          subst h
          obtain ⟨v, rfl, h1⟩ := args1 hv hlen
          obtain ⟨a, b, c, ra, rb, rc, ir, lr⟩ := rtOf_spec hE hx h1
          refine (hc w v a b c (rdA_spec hG rb rc hcd.1) ir (lr.mono hcd.2)).mono ?_
          rintro e w' ⟨x', rfl, hr, ex⟩
          exact ⟨x', rfl, (one_rt (rep_ng ra) (rep_ng rb) rc).2 ⟨hr, lr.1.negQ, lr.2.1.negQ, lr.2.2⟩, ex⟩
        · cases h
      · cases h
    · cases h
  · intro args G r h x off
    unfold kRNg at h
    split at h
    · split at h
      · split at h
        · injection h with h; subst h; intro e; cases e
        · cases h
      · cases h
    · cases h
def kRR (rd : Bool) (p q : IT2 × IT2 × IT2 → IT2 × IT2 × IT2 → IT2) (g : Nat → Nat) : Con
  | [x, y], G => match rtOf x, rtOf y with
    | some ((A, B, C), m), some ((A', B', C'), j) => if rdA rd G B C && (rdA rd G B' C' && (decide (m ≤ 3000) && decide (j ≤ 3000))) then
        match (nokT B C B' C').ev G with
        | some false => some (.tup [(true, rt (p (A, B, C) (A', B', C')) (q (A, B, C) (A', B', C')) (qop 5 (q (A, B, C) (A', B', C')) (cmT B C C')) (g (max m j))), (false, [.n .i64 (.lit 0)])])
        | some true => some (.tup (bad6 1))
        | none => none
      else none
    | _, _ => none
  | _, _ => none
theorem kRR_ok {E : Env} (hE : QEnv E) {f : Nat} {rd : Bool} {p q : IT2 × IT2 × IT2 → IT2 × IT2 × IT2 → IT2} {g : Nat → Nat} (P Q : Rat → Rat → Rat → Rat → Rat → Rat → Rat)
    (hp : ∀ A B C A' B' C' a b c a' b' c', RepQ E A a → RepQ E B b → RepQ E C c → RepQ E A' a' → RepQ E B' b' → RepQ E C' c' → RepQ E (p (A, B, C) (A', B', C')) (P a b c a' b' c') ∧ RepQ E (q (A, B, C) (A', B', C')) (Q a b c a' b' c'))
    (hg : ∀ m a b c a' b' c', LimR m a b c → LimR m a' b' c' → LimQ (g m) (P a b c a' b' c') ∧ LimQ (g m) (Q a b c a' b' c')) (hm : ∀ m, m ≤ g m ∧ 1 ≤ g m)
    (hc : ∀ (w : World) (v u : Value) (a b c a' b' c' : Rat), (rd = true → Rd b c) → (rd = true → Rd b' c') → IsRoot w v a b c → IsRoot w u a' b' c' → LimR 3000 a b c → LimR 3000 a' b' c' → Calls Tryz.prog f #[v, u] w (RetR w (Ok b c b' c') 1 (P a b c a' b' c') (Q a b c a' b' c') (rC (Q a b c a' b' c') (cm b c c'))))
    (hb : ∃ fn, Tryz.prog.funcs[f]? = some fn ∧ fn.name ≠ "runtime.NumGoroutine" ∧ fn.body.isNone = false) : ConOK Tryz.prog E f (kRR rd p q g) := by
  refine ⟨?_, ?_, hb⟩
  · intro args G r h hG β w vs hv hlen
    unfold kRR at h
    split at h
    · split at h
      · rename_i x y A B C m A' B' C' j hx hy
        split at h
        · rename_i hcd
          simp only [Bool.and_eq_true, decide_eq_true_iff] at hcd
          obtain ⟨v, u, rfl, h1, h2⟩ := args2 hv hlen
          obtain ⟨a, b, c, ra, rb, rc, ir, lr⟩ := rtOf_spec hE hx h1
          obtain ⟨a', b', c', ra', rb', rc', ir', lr'⟩ := rtOf_spec hE hy h2
          have key := hc w v u a b c a' b' c' (rdA_spec hG rb rc hcd.1) (rdA_spec hG rb' rc' hcd.2.1) ir ir' (lr.mono hcd.2.2.1) (lr'.mono hcd.2.2.2)
          split at h
          · rename_i ho
            have hok : Ok b c b' c' := (nokT_den rb rc rb' rc').1 (BT.ev_spec hG ho)
            injection h with h
            subst h
            refine key.mono ?_
            rintro e w' ⟨k1, _⟩
            obtain ⟨x', rfl, hr, ex⟩ := k1 hok
            have l1 := lr.mono (Nat.le_max_left m j)
            have l2 := lr'.mono (Nat.le_max_right m j)
            obtain ⟨r1, r2⟩ := hp A B C A' B' C' a b c a' b' c' ra rb rc ra' rb' rc'
            obtain ⟨g1, g2⟩ := hg _ a b c a' b' c' l1 l2
            have hmm := hm (max m j)
            exact ⟨_, rfl, ⟨[x', .int .i64 0], rfl, x', _, rfl, (one_rt r1 r2 (rep_rC r2 (rep_cm rb rc rc'))).2 ⟨hr, g1, g2, LimQ.rC ((LimQ.cm l1.2.2 l2.2.2).mono hmm.1) hmm.2⟩, _, _, rfl, one_num.2 rfl, rfl⟩, ex⟩
          · rename_i ho
            have hok : ¬ Ok b c b' c' := fun k => by
              have := BT.ev_spec hG ho
              rw [(nokT_den rb rc rb' rc').2 k] at this
              cases this
            injection h with h
            subst h
            refine key.mono ?_
            rintro e w' ⟨_, k1⟩
            obtain ⟨x', rfl, hr, ex⟩ := k1 hok
            exact ⟨_, rfl, ⟨[x', .int .i64 1], rfl, x', _, rfl, hr E, _, _, rfl, one_num.2 rfl, rfl⟩, ex⟩
          · cases h
        · cases h
      · cases h
    · cases h
  · intro args G r h x off
    unfold kRR at h
    split at h
    · split at h
      · split at h
        · split at h
          · injection h with h; subst h; intro e; cases e
          · injection h with h; subst h; intro e; cases e
          · cases h
        · cases h
      · cases h
    · cases h
def addA (r s : IT2 × IT2 × IT2) : IT2 := qop 0 r.1 s.1
def addB (r s : IT2 × IT2 × IT2) : IT2 := qop 0 r.2.1 s.2.1
def kRAd (rd : Bool) : Con := kRR rd addA addB (fun m => 4 * m + 1)
theorem kRAd_ok {E : Env} (hE : QEnv E) {f : Nat} {rd : Bool}
    (hc : ∀ (w : World) (v u : Value) (a b c a' b' c' : Rat), (rd = true → Rd b c) → (rd = true → Rd b' c') → IsRoot w v a b c → IsRoot w u a' b' c' → LimR 3000 a b c → LimR 3000 a' b' c' → Calls Tryz.prog f #[v, u] w (RetR w (Ok b c b' c') 1 (a + a') (b + b') (rC (b + b') (cm b c c'))))
    (hb : ∃ fn, Tryz.prog.funcs[f]? = some fn ∧ fn.name ≠ "runtime.NumGoroutine" ∧ fn.body.isNone = false) : ConOK Tryz.prog E f (kRAd rd) :=
  kRR_ok hE (fun a _ _ a' _ _ => a + a') (fun _ b _ _ b' _ => b + b') (fun _ _ _ _ _ _ _ _ _ _ _ _ ra rb _ ra' rb' _ => ⟨rep_add ra ra', rep_add rb rb'⟩) (fun _ _ _ _ _ _ _ l l' => ⟨l.1.addQ l'.1, l.2.1.addQ l'.2.1⟩) (fun m => ⟨by omega, by omega⟩) hc hb
end Go.Proofs.YtnejcdjakjmklaaGreatDoor
end

section
set_option maxRecDepth 100000
namespace Go.Proofs.YtnejcdjakjmklaaGreatDoor
open Go.RowKit
section
variable {a b c a' b' c' : Rat} {x x' y : Tree} {β : Nat → Nat} {w w' : World} {v u : Value}
end
theorem rep_dv {E : Env} {p q : IT2} {a b : Rat} (hp : RepQ E p a) (hq : RepQ E q b) : RepQ E (qop 11 p q) (a / b) := rep_op (f := 11) (by omega) hp hq
end Go.Proofs.YtnejcdjakjmklaaGreatDoor
end

section
set_option maxRecDepth 100000
namespace Go.Proofs.YtnejcdjakjmklaaGreatDoor
open Go.RowKit
def nrmT (A B C : IT2) : IT2 := qop 1 (qop 2 A A) (qop 2 (qop 2 B B) C)
theorem rep_nrm {E : Env} {A B C : IT2} {a b c : Rat} (ra : RepQ E A a) (rb : RepQ E B b) (rc : RepQ E C c) : RepQ E (nrmT A B C) (nrm a b c) := rep_sub (rep_mul ra ra) (rep_mul (rep_mul rb rb) rc)
theorem eq0_den {E : Env} {p : IT2} {q : Rat} (h : RepQ E p q) : (BT.eq p.1 (.lit 0)).den E = decide (q = 0) := by
  show (p.1.den E == 0) = _
  rw [h.1, Bool.eq_iff_iff, beq_iff_eq, decide_eq_true_iff, Rat.num_eq_zero]
section
variable {w : World} {v u : Value} {a b c : Rat}
theorem rep3 : RepQ (qE [a, b, c]) (qv 0) a ∧ RepQ (qE [a, b, c]) (qv 1) b ∧ RepQ (qE [a, b, c]) (qv 2) c := ⟨rep_v (i := 0), rep_v (i := 1), rep_v (i := 2)⟩
def flN (a b c : Rat) : Int := flS a (sq2 b c)
theorem num_den (q : Rat) : q * ((q.den : Int) : Rat) = (q.num : Rat) := by
  have h := Rat.num_divInt_den q
  have hd : ((q.den : Int) : Rat) ≠ 0 := fun e => by
    have := Rat.intCast_eq_zero_iff.1 e
    have := q.den_pos
    omega
  have h2 : q = (q.num : Rat) / ((q.den : Int) : Rat) := by rw [← Rat.divInt_eq_div, h]
  have := Rat.div_mul_cancel (a := (q.num : Rat)) hd
  rw [← h2] at this
  exact this
theorem den_posI (q : Rat) : (0 : Int) < (q.den : Int) := by have := q.den_pos; omega
theorem flN_spec (R : Rd b c) : IsFl a b c (flN a b c) := by
  unfold flN flS
  rcases R with ⟨rfl, rfl⟩ | ⟨hb, hc, hs⟩
  · have e : sq2 0 0 = 0 := by unfold sq2; rw [if_neg (by decide)]; grind
    rw [e, if_pos (show (0 : Rat).num = 0 from rfl), dq_pos (den_posI a), ← Rat.floor_def]
    exact IsFl.zero
  · have hbc := Rat.mul_pos (sq_pos hb) hc
    have hnz : (sq2 b c).num ≠ 0 := by
      rw [ne_eq, Rat.num_eq_zero]
      unfold sq2
      split <;> grind
    rw [if_neg hnz]
    have hn := num_pos_iff b
    have hbn : (sq2 b c).num < 0 ↔ b < 0 := by
      have h1 := num_pos_iff (sq2 b c)
      have h2 := num_pos_iff (b * b * c)
      have hn2 : b.num = 0 ↔ b = 0 := Rat.num_eq_zero
      unfold sq2 at *
      by_cases h : b.num < 0
      · rw [if_pos h] at *
        rw [Rat.neg_num]
        have := h2.2 hbc
        constructor
        · intro _; grind
        · intro _; omega
      · rw [if_neg h] at *
        have := h2.2 hbc
        constructor
        · intro k; omega
        · intro k; grind
    have habs : ((sq2 b c).num.natAbs : Int) = (b * b * c).num ∧ ((sq2 b c).den : Int) = ((b * b * c).den : Int) := by
      have := (num_pos_iff (b * b * c)).2 hbc
      unfold sq2
      split
      · rw [Rat.neg_num, Rat.neg_den]; omega
      · exact ⟨by omega, rfl⟩
    rw [habs.1, habs.2]
    have e : (if (sq2 b c).num < 0 then -(isq ((b * b * c).num * ((b * b * c).den : Int) * ((a.den : Int) * (a.den : Int))) + 1) else isq ((b * b * c).num * ((b * b * c).den : Int) * ((a.den : Int) * (a.den : Int)))) = (if b < 0 then -(isq ((b * b * c).num * ((b * b * c).den : Int) * ((a.den : Int) * (a.den : Int))) + 1) else isq ((b * b * c).num * ((b * b * c).den : Int) * ((a.den : Int) * (a.den : Int)))) := by
      by_cases h : b < 0
      · rw [if_pos h, if_pos (hbn.2 h)]
      · rw [if_neg h, if_neg (fun k => h (hbn.1 k))]
    rw [e]
    have ea := num_den a
    have es := num_den (b * b * c)
    refine fl_spec hb hc hs (Int.mul_pos (den_posI a) (den_posI _)) ?_ ?_
    · simp only [castQ_mul]
      rw [← ea]; grind
    · simp only [castQ_mul]
      rw [← es]; grind
def flX : IT := .a2 2 (.var 0) (.a2 2 (.var 3) (.var 5))
def flD : IT := .a2 2 (.var 1) (.a2 2 (.var 3) (.var 5))
def flY : IT := .a2 2 (.a2 2 (.a2 2 (.var 2) (.var 1)) (.a2 2 (.var 2) (.var 1))) (.a2 2 (.var 4) (.var 5))
def lfI (t : IT) (l : Nat) : Tree := .leaf [(true, [.int t l])]
theorem lfI_out {E : Env} {β : Nat → Nat} {w : World} {v : Value} {t : IT} {l : Nat} (h : (toAV ((lfI t l).pick E)).holds E β w v) : IsInt w v (t.den E) ∧ Lim l (t.den E) := one_int.1 h
theorem ltz_den {E : Env} {p : IT2} {q : Rat} (h : RepQ E p q) : (BT.lt (sgt p) (.lit 0)).den E = decide (q < 0) := by
  show decide ((sgt p).den E < 0) = _
  rw [sgt_den h, Bool.eq_iff_iff, decide_eq_true_iff, decide_eq_true_iff]
  rcases sgQ_cases q with ⟨k, e⟩ | ⟨k, e⟩ | ⟨k, e⟩ <;> rw [e] <;> constructor <;> intro j <;> first | omega | grind
theorem fl0 (R : Rd b c) (hb : b = 0) : flN a b c = a.floor := by
  have hc : c = 0 := by
    rcases R with ⟨_, hc⟩ | ⟨hb', _⟩
    · exact hc
    · exact absurd hb hb'
  subst hb hc
  exact (flN_spec R).unique R IsFl.zero
theorem p_floor (R : Rd b c) (h : IsRoot w v a b c) (l : LimR 400 a b c) : Calls Tryz.prog 75 #[v] w (Ret (fun x w' => IsInt w' x (flN a b c) ∧ Lim 9000 (flN a b c)) w) := by
  obtain ⟨ra, rb, rc⟩ := rep3 (a := a) (b := b) (c := c)
  refine (walk1 (l := [a, b, c]) (tab := []) (x := aRl 0 400) (T := .ite (zt (qv 1)) (lfI (.a2 4 (.var 0) (.var 1)) 400) (.ite (.lt (sgt (qv 1)) (.lit 0)) (lfI (.a2 4 (.a2 0 flX (.a2 1 (.lit (-1)) (.a1 2 flY))) flD) 2402) (lfI (.a2 4 (.a2 0 flX (.a1 2 flY)) flD) 2401)))
    Tryz.func75 (by decide +kernel) .nil no_asm (by kernel_rfl) (by decide +kernel) rfl w v (fun _ => aRl_holds h l)).mono ?_
  rintro e w' ⟨β, y, rfl, hh, ex⟩
  refine ⟨y, rfl, ?_, ex⟩
  rw [ite_pick (zt_den rb), ite_pick (ltz_den rb)] at hh
  by_cases hb : b = 0
  · rw [decide_eq_true hb, if_pos rfl] at hh
    obtain ⟨k1, k2⟩ := lfI_out hh
    have e1 : (IT.a2 4 (.var 0) (.var 1)).den (qE [a, b, c]) = flN a b c := by
      rw [fl0 R hb]
      show dq a.num (a.den : Int) = _
      rw [dq_pos (den_posI a), ← Rat.floor_def]
    rw [e1] at k1 k2
    exact ⟨k1, k2.mono (by omega)⟩
  · rw [decide_eq_false hb, if_neg (by decide)] at hh
    obtain ⟨hc, hs⟩ : 0 < c ∧ ∀ q : Rat, q * q ≠ c := by
      rcases R with ⟨hb', _⟩ | ⟨_, h⟩
      · exact absurd hb' hb
      · exact h
    have ea := num_den a
    have eb := num_den b
    have ec := num_den c
    have key := fl_spec (a := a) (b := b) (c := c) (x := a.num * ((b.den : Int) * (c.den : Int))) (D := (a.den : Int) * ((b.den : Int) * (c.den : Int))) (Y := b.num * (a.den : Int) * (b.num * (a.den : Int)) * (c.num * (c.den : Int))) hb hc hs (Int.mul_pos (den_posI a) (Int.mul_pos (den_posI b) (den_posI c)))
      (by simp only [castQ_mul]; rw [← ea]; grind) (by simp only [castQ_mul]; rw [← eb, ← ec]; grind)
    have hu := key.unique R (flN_spec R)
    by_cases hn : b < 0
    · rw [decide_eq_true hn, if_pos rfl] at hh
      obtain ⟨k1, k2⟩ := lfI_out hh
      rw [if_pos hn] at hu
      have e1 : (IT.a2 4 (.a2 0 flX (.a2 1 (.lit (-1)) (.a1 2 flY))) flD).den (qE [a, b, c]) = flN a b c := by
        rw [← hu]
        show dq (a.num * ((b.den : Int) * (c.den : Int)) + (-1 - isq (b.num * (a.den : Int) * (b.num * (a.den : Int)) * (c.num * (c.den : Int))))) ((a.den : Int) * ((b.den : Int) * (c.den : Int))) = _
        congr 2
        omega
      rw [e1] at k1 k2
      exact ⟨k1, k2.mono (by omega)⟩
    · rw [decide_eq_false hn, if_neg (by decide)] at hh
      obtain ⟨k1, k2⟩ := lfI_out hh
      rw [if_neg hn] at hu
      have e1 : (IT.a2 4 (.a2 0 flX (.a1 2 flY)) flD).den (qE [a, b, c]) = flN a b c := hu
      rw [e1] at k1 k2
      exact ⟨k1, k2.mono (by omega)⟩
theorem p_floor4 (R : Rd b c) (h : IsRoot w v a b c) (l : LimR 4 a b c) : Calls Tryz.prog 75 #[v] w (Ret (fun x w' => IsInt w' x (flN a b c) ∧ Lim 100 (flN a b c)) w) := by
  obtain ⟨ra, rb, rc⟩ := rep3 (a := a) (b := b) (c := c)
  refine (walk1 (l := [a, b, c]) (tab := []) (x := aRl 0 4) (T := .ite (zt (qv 1)) (lfI (.a2 4 (.var 0) (.var 1)) 4) (.ite (.lt (sgt (qv 1)) (.lit 0)) (lfI (.a2 4 (.a2 0 flX (.a2 1 (.lit (-1)) (.a1 2 flY))) flD) 26) (lfI (.a2 4 (.a2 0 flX (.a1 2 flY)) flD) 25)))
    Tryz.func75 (by decide +kernel) .nil no_asm (by kernel_rfl) (by decide +kernel) rfl w v (fun _ => aRl_holds h l)).mono ?_
  rintro e w' ⟨β, y, rfl, hh, ex⟩
  refine ⟨y, rfl, ?_, ex⟩
  rw [ite_pick (zt_den rb), ite_pick (ltz_den rb)] at hh
  by_cases hb : b = 0
  · rw [decide_eq_true hb, if_pos rfl] at hh
    obtain ⟨k1, k2⟩ := lfI_out hh
    have e1 : (IT.a2 4 (.var 0) (.var 1)).den (qE [a, b, c]) = flN a b c := by
      rw [fl0 R hb]
      show dq a.num (a.den : Int) = _
      rw [dq_pos (den_posI a), ← Rat.floor_def]
    rw [e1] at k1 k2
    exact ⟨k1, k2.mono (by omega)⟩
  · rw [decide_eq_false hb, if_neg (by decide)] at hh
    obtain ⟨hc, hs⟩ : 0 < c ∧ ∀ q : Rat, q * q ≠ c := by
      rcases R with ⟨hb', _⟩ | ⟨_, h⟩
      · exact absurd hb' hb
      · exact h
    have ea := num_den a
    have eb := num_den b
    have ec := num_den c
    have key := fl_spec (a := a) (b := b) (c := c) (x := a.num * ((b.den : Int) * (c.den : Int))) (D := (a.den : Int) * ((b.den : Int) * (c.den : Int))) (Y := b.num * (a.den : Int) * (b.num * (a.den : Int)) * (c.num * (c.den : Int))) hb hc hs (Int.mul_pos (den_posI a) (Int.mul_pos (den_posI b) (den_posI c)))
      (by simp only [castQ_mul]; rw [← ea]; grind) (by simp only [castQ_mul]; rw [← eb, ← ec]; grind)
    have hu := key.unique R (flN_spec R)
    by_cases hn : b < 0
    · rw [decide_eq_true hn, if_pos rfl] at hh
      obtain ⟨k1, k2⟩ := lfI_out hh
      rw [if_pos hn] at hu
      have e1 : (IT.a2 4 (.a2 0 flX (.a2 1 (.lit (-1)) (.a1 2 flY))) flD).den (qE [a, b, c]) = flN a b c := by
        rw [← hu]
        show dq (a.num * ((b.den : Int) * (c.den : Int)) + (-1 - isq (b.num * (a.den : Int) * (b.num * (a.den : Int)) * (c.num * (c.den : Int))))) ((a.den : Int) * ((b.den : Int) * (c.den : Int))) = _
        congr 2
        omega
      rw [e1] at k1 k2
      exact ⟨k1, k2.mono (by omega)⟩
    · rw [decide_eq_false hn, if_neg (by decide)] at hh
      obtain ⟨k1, k2⟩ := lfI_out hh
      rw [if_neg hn] at hu
      have e1 : (IT.a2 4 (.a2 0 flX (.a1 2 flY)) flD).den (qE [a, b, c]) = flN a b c := hu
      rw [e1] at k1 k2
      exact ⟨k1, k2.mono (by omega)⟩
theorem p_floor50 (R : Rd b c) (h : IsRoot w v a b c) (l : LimR 50 a b c) : Calls Tryz.prog 75 #[v] w (Ret (fun x w' => IsInt w' x (flN a b c) ∧ Lim 1200 (flN a b c)) w) := by
  obtain ⟨ra, rb, rc⟩ := rep3 (a := a) (b := b) (c := c)
  refine (walk1 (l := [a, b, c]) (tab := []) (x := aRl 0 50) (T := .ite (zt (qv 1)) (lfI (.a2 4 (.var 0) (.var 1)) 50) (.ite (.lt (sgt (qv 1)) (.lit 0)) (lfI (.a2 4 (.a2 0 flX (.a2 1 (.lit (-1)) (.a1 2 flY))) flD) 302) (lfI (.a2 4 (.a2 0 flX (.a1 2 flY)) flD) 301)))
    Tryz.func75 (by decide +kernel) .nil no_asm (by kernel_rfl) (by decide +kernel) rfl w v (fun _ => aRl_holds h l)).mono ?_
  rintro e w' ⟨β, y, rfl, hh, ex⟩
  refine ⟨y, rfl, ?_, ex⟩
  rw [ite_pick (zt_den rb), ite_pick (ltz_den rb)] at hh
  by_cases hb : b = 0
  · rw [decide_eq_true hb, if_pos rfl] at hh
    obtain ⟨k1, k2⟩ := lfI_out hh
    have e1 : (IT.a2 4 (.var 0) (.var 1)).den (qE [a, b, c]) = flN a b c := by
      rw [fl0 R hb]
      show dq a.num (a.den : Int) = _
      rw [dq_pos (den_posI a), ← Rat.floor_def]
    rw [e1] at k1 k2
    exact ⟨k1, k2.mono (by omega)⟩
  · rw [decide_eq_false hb, if_neg (by decide)] at hh
    obtain ⟨hc, hs⟩ : 0 < c ∧ ∀ q : Rat, q * q ≠ c := by
      rcases R with ⟨hb', _⟩ | ⟨_, h⟩
      · exact absurd hb' hb
      · exact h
    have ea := num_den a
    have eb := num_den b
    have ec := num_den c
    have key := fl_spec (a := a) (b := b) (c := c) (x := a.num * ((b.den : Int) * (c.den : Int))) (D := (a.den : Int) * ((b.den : Int) * (c.den : Int))) (Y := b.num * (a.den : Int) * (b.num * (a.den : Int)) * (c.num * (c.den : Int))) hb hc hs (Int.mul_pos (den_posI a) (Int.mul_pos (den_posI b) (den_posI c)))
      (by simp only [castQ_mul]; rw [← ea]; grind) (by simp only [castQ_mul]; rw [← eb, ← ec]; grind)
    have hu := key.unique R (flN_spec R)
    by_cases hn : b < 0
    · rw [decide_eq_true hn, if_pos rfl] at hh
      obtain ⟨k1, k2⟩ := lfI_out hh
      rw [if_pos hn] at hu
      have e1 : (IT.a2 4 (.a2 0 flX (.a2 1 (.lit (-1)) (.a1 2 flY))) flD).den (qE [a, b, c]) = flN a b c := by
        rw [← hu]
        show dq (a.num * ((b.den : Int) * (c.den : Int)) + (-1 - isq (b.num * (a.den : Int) * (b.num * (a.den : Int)) * (c.num * (c.den : Int))))) ((a.den : Int) * ((b.den : Int) * (c.den : Int))) = _
        congr 2
        omega
      rw [e1] at k1 k2
      exact ⟨k1, k2.mono (by omega)⟩
    · rw [decide_eq_false hn, if_neg (by decide)] at hh
      obtain ⟨k1, k2⟩ := lfI_out hh
      rw [if_neg hn] at hu
      have e1 : (IT.a2 4 (.a2 0 flX (.a1 2 flY)) flD).den (qE [a, b, c]) = flN a b c := hu
      rw [e1] at k1 k2
      exact ⟨k1, k2.mono (by omega)⟩
end
end Go.Proofs.YtnejcdjakjmklaaGreatDoor
end

section
set_option maxRecDepth 100000
namespace Go.Proofs.YtnejcdjakjmklaaGreatDoor
open Go.RowKit
def kRIv : Con
  | [x], G => match rtOf x with
    | some ((A, B, C), m) => if rdA true G B C && decide (m ≤ 300) then
        match (BT.eq (nrmT A B C).1 (.lit 0)).ev G with
        | some false => some (.tup [(true, rt (qop 11 A (nrmT A B C)) (qng (qop 11 B (nrmT A B C))) C (58 * m + 19)), (false, [.n .i64 (.lit 0)])])
        | some true => some (.tup (bad6 6))
        | none => none
      else none
    | _ => none
  | _, _ => none
theorem LimQ.nrm {m : Nat} {a b c : Rat} (l : LimR m a b c) : LimQ (28 * m + 9) (nrm a b c) := by
  have h1 := l.1.mulQ l.1
  have h2 := l.2.1.mulQ l.2.1
  obtain ⟨h3, h4⟩ := LimQ.mul h2.1 h2.2 l.2.2.1 l.2.2.2
  obtain ⟨h5, h6⟩ := LimQ.sub h1.1 h1.2 h3 h4
  exact ⟨h5.mono (by omega), h6.mono (by omega)⟩
theorem LimQ.divQ {l m : Nat} {a b : Rat} (h : LimQ l a) (k : LimQ m b) (hb : b ≠ 0) : LimQ (2 * l + 2 * m + 1) (a / b) := by
  obtain ⟨m1, m2⟩ := LimQ.div h.1 h.2 k.1 k.2
  have e2 : divD a b = ((a / b).den : Int) := by unfold divD; rw [if_neg hb]
  rw [e2] at m2
  exact ⟨m1.mono (by omega), m2.mono (by omega)⟩
theorem kRIv_ok {E : Env} (hE : QEnv E) {f : Nat} (hc : ∀ (w : World) (v : Value) (a b c : Rat), Rd b c → IsRoot w v a b c → LimR 300 a b c → Calls Tryz.prog f #[v] w (RetR w (nrm a b c ≠ 0) 6 (a / nrm a b c) (-(b / nrm a b c)) c))
    (hb : ∃ fn, Tryz.prog.funcs[f]? = some fn ∧ fn.name ≠ "runtime.NumGoroutine" ∧ fn.body.isNone = false) : ConOK Tryz.prog E f kRIv := by
  refine ⟨?_, ?_, hb⟩
  · intro args G r h hG β w vs hv hlen
    unfold kRIv at h
    split at h
    · split at h
      · rename_i x A B C m hx
        split at h
        · rename_i hcd
          simp only [Bool.and_eq_true, decide_eq_true_iff] at hcd
          obtain ⟨v, rfl, h1⟩ := args1 hv hlen
          obtain ⟨a, b, c, ra, rb, rc, ir, lr⟩ := rtOf_spec hE hx h1
          have R := rdA_spec hG rb rc hcd.1 rfl
          have key := hc w v a b c R ir (lr.mono hcd.2)
          have rn := rep_nrm ra rb rc
          split at h
          · rename_i ho
            have hz := BT.ev_spec hG ho
            rw [eq0_den rn, decide_eq_false_iff_not] at hz
            injection h with h
            subst h
            refine key.mono ?_
            rintro e w' ⟨k1, _⟩
            obtain ⟨x', rfl, hr, ex⟩ := k1 hz
            have ln := LimQ.nrm lr
            exact ⟨_, rfl, ⟨[x', .int .i64 0], rfl, x', _, rfl, (one_rt (rep_dv ra rn) (rep_ng (rep_dv rb rn)) rc).2 ⟨hr, (lr.1.divQ ln hz).mono (by omega), ((lr.2.1.divQ ln hz).negQ).mono (by omega), lr.2.2.mono (by omega)⟩, _, _, rfl, one_num.2 rfl, rfl⟩, ex⟩
          · rename_i ho
            have hz := BT.ev_spec hG ho
            rw [eq0_den rn, decide_eq_true_iff] at hz
            injection h with h
            subst h
            refine key.mono ?_
            rintro e w' ⟨_, k1⟩
            obtain ⟨x', rfl, hr, ex⟩ := k1 (fun k => k hz)
            exact ⟨_, rfl, ⟨[x', .int .i64 6], rfl, x', _, rfl, hr E, _, _, rfl, one_num.2 rfl, rfl⟩, ex⟩
          · cases h
        · cases h
      · cases h
    · cases h
  · intro args G r h x off
    unfold kRIv at h
    split at h
    · split at h
      · split at h
        · split at h
          · injection h with h; subst h; intro e; cases e
          · injection h with h; subst h; intro e; cases e
          · cases h
        · cases h
      · cases h
    · cases h
def floT (A B C : IT2) : IT := (qop 9 A (qop 7 B C)).1
theorem floT_den {E : Env} {A B C : IT2} {a b c : Rat} (hA : RepQ E A a) (hB : RepQ E B b) (hC : RepQ E C c) : (floT A B C).den E = flN a b c := by
  have r : RepQ E (qop 9 A (qop 7 B C)) (ratF 9 a (sq2 b c)) := rep_op (f := 9) (by omega) hA (rep_sq2 hB hC)
  show (qop 9 A (qop 7 B C)).1.den E = _
  rw [r.1]
  show ((flS a (sq2 b c) : Int) : Rat).num = _
  rw [Rat.num_intCast]; rfl
def kRFl : Con
  | [x], G => match rtOf x with
    | some ((A, B, C), m) => if rdA true G B C && decide (m ≤ 400) then some (.val true [.int (floT A B C) (if m ≤ 4 then 100 else if m ≤ 50 then 1200 else 9000)]) else none
    | _ => none
  | _, _ => none
theorem kRFl_ok {E : Env} (hE : QEnv E) {f : Nat} (hc4 : ∀ (w : World) (v : Value) (a b c : Rat), Rd b c → IsRoot w v a b c → LimR 4 a b c → Calls Tryz.prog f #[v] w (Ret (fun x w' => IsInt w' x (flN a b c) ∧ Lim 100 (flN a b c)) w)) (hc50 : ∀ (w : World) (v : Value) (a b c : Rat), Rd b c → IsRoot w v a b c → LimR 50 a b c → Calls Tryz.prog f #[v] w (Ret (fun x w' => IsInt w' x (flN a b c) ∧ Lim 1200 (flN a b c)) w)) (hc : ∀ (w : World) (v : Value) (a b c : Rat), Rd b c → IsRoot w v a b c → LimR 400 a b c → Calls Tryz.prog f #[v] w (Ret (fun x w' => IsInt w' x (flN a b c) ∧ Lim 9000 (flN a b c)) w))
    (hb : ∃ fn, Tryz.prog.funcs[f]? = some fn ∧ fn.name ≠ "runtime.NumGoroutine" ∧ fn.body.isNone = false) : ConOK Tryz.prog E f kRFl := by
  refine ⟨?_, ?_, hb⟩
  · intro args G r h hG β w vs hv hlen
    unfold kRFl at h
    split at h
    · split at h
      · rename_i x A B C m hx
        split at h
        · rename_i hcd
          simp only [Bool.and_eq_true, decide_eq_true_iff] at hcd
          injection h with h
          subst h
          obtain ⟨v, rfl, h1⟩ := args1 hv hlen
          obtain ⟨a, b, c, ra, rb, rc, ir, lr⟩ := rtOf_spec hE hx h1
          have R := rdA_spec hG rb rc hcd.1 rfl
          by_cases hm : m ≤ 4
          · refine (hc4 w v a b c R ir (lr.mono hm)).mono ?_
            rintro e w' ⟨x', rfl, hr, ex⟩
            refine ⟨_, rfl, one_int.2 ?_, ex⟩
            rw [floT_den ra rb rc, if_pos hm]
            exact hr
          · by_cases hm2 : m ≤ 50
            · refine (hc50 w v a b c R ir (lr.mono hm2)).mono ?_
              rintro e w' ⟨x', rfl, hr, ex⟩
              refine ⟨_, rfl, one_int.2 ?_, ex⟩
              rw [floT_den ra rb rc, if_neg hm, if_pos hm2]
              exact hr
            · refine (hc w v a b c R ir (lr.mono hcd.2)).mono ?_
              rintro e w' ⟨x', rfl, hr, ex⟩
              refine ⟨_, rfl, one_int.2 ?_, ex⟩
              rw [floT_den ra rb rc, if_neg hm, if_neg hm2]
              exact hr
        · cases h
      · cases h
    · cases h
  · intro args G r h x off
    unfold kRFl at h
    split at h
    · split at h
      · split at h
        · injection h with h; subst h; intro e; cases e
        · cases h
      · cases h
    · cases h
def sqT (x : IT) : BT := .and (.eq (.a1 3 x) (.lit 0)) (.eq (.a2 2 (.a1 2 x) (.a1 2 x)) x)
theorem sqT_den {E : Env} {x : IT} : (sqT x).den E = sqB (x.den E) := by
  show (isqE (x.den E) == 0 && (isq (x.den E) * isq (x.den E) == x.den E)) = _
  unfold sqB
  congr 1
  rw [Bool.eq_iff_iff, beq_iff_eq, beq_iff_eq]
  rcases cmpZ_cases (isq (x.den E) * isq (x.den E)) (x.den E) with ⟨h, e⟩ | ⟨h, e⟩ | ⟨h, e⟩ <;> rw [e] <;> omega
def kSqQ : Con
  | [.val true [.int x l, .int y m]], G => if decide (l ≤ 100000) && decide (m ≤ 100000) then
      match (BT.and (sqT x) (sqT y)).ev G with
      | some true => some (.tup [(true, [.int (IT.a1 2 x).fold l, .int (IT.a1 2 y).fold m]), (false, [.b (.lit true)])])
      | some false => some (.tup [(true, [.int (.lit 0) 0, .int (.lit 0) 0]), (false, [.b (.lit false)])])
      | none => none
    else none
  | _, _ => none
theorem kSqQ_ok {E : Env} {f : Nat} (hc : ∀ (w : World) (v : Value) (n d : Int), IsPair w v n d → Lim 100000 n → Lim 100000 d → Calls Tryz.prog f #[v] w (RetSqQ n d w))
    (hb : ∃ fn, Tryz.prog.funcs[f]? = some fn ∧ fn.name ≠ "runtime.NumGoroutine" ∧ fn.body.isNone = false) : ConOK Tryz.prog E f kSqQ := by
  refine ⟨?_, ?_, hb⟩
  · intro args G r h hG β w vs hv hlen
    unfold kSqQ at h
    split at h
    · rename_i x l y m
      split at h
      · rename_i hcd
        simp only [Bool.and_eq_true, decide_eq_true_iff] at hcd
        obtain ⟨v, rfl, h1⟩ := args1 hv hlen
        obtain ⟨p1, a1, a2⟩ := one_pair.1 h1
        have key := hc w v _ _ p1 (a1.mono hcd.1) (a2.mono hcd.2)
        have ed : (BT.and (sqT x) (sqT y)).den E = (sqB (x.den E) && sqB (y.den E)) := by
          show ((sqT x).den E && (sqT y).den E) = _
          rw [sqT_den, sqT_den]
        split at h
        · rename_i ho
          have hs := BT.ev_spec hG ho
          rw [ed] at hs
          injection h with h
          subst h
          refine key.mono ?_
          rintro e w' ⟨u, rfl, hp, ex⟩
          unfold sqN at hp
          rw [hs] at hp ⊢
          rw [if_pos rfl, if_pos rfl] at hp
          refine ⟨_, rfl, ⟨[u, .bool true], rfl, u, _, rfl, one_pair.2 ?_, _, _, rfl, one_bool.2 rfl, rfl⟩, ex⟩
          rw [IT.fold_den, IT.fold_den]
          exact ⟨hp, isq_lim a1, isq_lim a2⟩
        · rename_i ho
          have hs := BT.ev_spec hG ho
          rw [ed] at hs
          injection h with h
          subst h
          refine key.mono ?_
          rintro e w' ⟨u, rfl, hp, ex⟩
          unfold sqN at hp
          rw [hs] at hp ⊢
          rw [if_neg (by decide), if_neg (by decide)] at hp
          exact ⟨_, rfl, ⟨[u, .bool false], rfl, u, _, rfl, one_pair.2 ⟨hp, lim_zero, lim_zero⟩, _, _, rfl, one_bool.2 rfl, rfl⟩, ex⟩
        · cases h
      · cases h
    · cases h
  · intro args G r h x off
    unfold kSqQ at h
    split at h
    · split at h
      · split at h
        · injection h with h; subst h; intro e; cases e
        · injection h with h; subst h; intro e; cases e
        · cases h
      · cases h
    · cases h
end Go.Proofs.YtnejcdjakjmklaaGreatDoor
end

section
set_option maxRecDepth 100000
namespace Go.Proofs.YtnejcdjakjmklaaGreatDoor
open Go.RowKit
abbrev RI := Bool × List Nat
def smN (n : Nat) (p q : RI) : Bool := decide (p.2.length ≤ n) && decide (q.2.length ≤ n) && okQ p.1 p.2 q.1 q.2
def rq (p q : RI) : Rat := Rat.divInt (sgn p.1 (val p.2)) (sgn q.1 (val q.2))
theorem smN_rat {n : Nat} {w : World} {v : Value} {p q : RI} (h : RawQ w v p.1 p.2 q.1 q.2) (hs : smN n p q = true) : IsRat w v (rq p q) ∧ LimQ n (rq p q) := by
  obtain ⟨s1, xs1⟩ := p
  obtain ⟨s2, xs2⟩ := q
  unfold smN okQ at hs
  simp only [Bool.and_eq_true, decide_eq_true_iff] at hs
  obtain ⟨⟨c1, c2⟩, ⟨⟨b1, b2⟩, b3⟩, b4⟩ := hs
  have hp := okQ_pair h b1 b2
  have m1 : Lim n (sgn s1 (val xs1)) := by obtain ⟨a, b, c, d, rfl, h1, h2⟩ := h; exact ok_lim h1 b1 c1
  have m2 : Lim n (sgn s2 (val xs2)) := by obtain ⟨a, b, c, d, rfl, h1, h2⟩ := h; exact ok_lim h2 b2 c2
  have hq : (rq (s1, xs1) (s2, xs2)).num = sgn s1 (val xs1) ∧ ((rq (s1, xs1) (s2, xs2)).den : Int) = sgn s2 (val xs2) := by
    unfold rq
    simp only
    generalize sgn s1 (val xs1) = n at *
    generalize sgn s2 (val xs2) = d at *
    have hd : ((d.natAbs : Nat) : Int) = d := by omega
    have e : Rat.divInt n d = ⟨n, d.natAbs, by omega, b4⟩ := by
      rw [Rat.mk_eq_divInt, hd]
    rw [e]
    exact ⟨rfl, hd⟩
  refine ⟨?_, ?_⟩
  · show IsPair w v (rq (s1, xs1) (s2, xs2)).num ((rq (s1, xs1) (s2, xs2)).den : Int)
    rw [hq.1, hq.2]; exact hp
  · refine ⟨?_, ?_⟩
    · rw [hq.1]; exact m1
    · rw [hq.2]; exact m2
def kRVN (n : Nat) : Con
  | [.val true [.raw i, .raw j]], G => if i % 2 == 0 && (j == i + 1 && (decide (n ≤ 100000) && (G.find (.le (.rlen i) (.lit (n : Int))) == some true && G.find (.le (.rlen j) (.lit (n : Int))) == some true))) then some (.val false [.b (.var (i / 2))]) else none
  | _, _ => none
theorem kRVN_ok {n : Nat} {E : Env} (hE : VEnv E) {f : Nat} (hc : ∀ (w : World) (v : Value) (s1 s2 : Bool) (xs1 xs2 : List Nat), RawQ w v s1 xs1 s2 xs2 → xs1.length ≤ 100000 → xs2.length ≤ 100000 → Calls Tryz.prog f #[v] w fun e w' => e = .returned (.bool (okQ s1 xs1 s2 xs2)) ∧ Ext w w')
    (hb : ∃ fn, Tryz.prog.funcs[f]? = some fn ∧ fn.name ≠ "runtime.NumGoroutine" ∧ fn.body.isNone = false) : ConOK Tryz.prog E f (kRVN n) := by
  refine ⟨?_, ?_, hb⟩
  · intro args As r h hG β w vs hv hlen
    unfold kRVN at h
    split at h
    · rename_i i j
      split at h
      · rename_i hlo
        injection h with h
        subst h
        simp only [Bool.and_eq_true, beq_iff_eq, decide_eq_true_iff] at hlo
        obtain ⟨hi, rfl, hn, b1, b2⟩ := hlo
        have c1 := of_decide_eq_true (Asm.find_spec hG b1)
        have c2 := of_decide_eq_true (Asm.find_spec hG b2)
        simp only [IT.den] at c1 c2
        obtain ⟨v, rfl, h1⟩ := args1 hv hlen
        refine (hc w v _ _ _ _ (one_raw2 h1) (by omega) (by omega)).mono ?_
        rintro e w' ⟨rfl, ex⟩
        exact ⟨_, rfl, one_bool.2 (by rw [← hE i hi]; rfl), ex⟩
      · cases h
    · cases h
  · intro args As r h x off
    unfold kRVN at h
    split at h
    · split at h
      · injection h with h; subst h; intro e; cases e
      · cases h
    · cases h
theorem rat_raw {w : World} {v : Value} {q : Rat} (h : IsRat w v q) : RawQ w v (decide (q.num < 0)) (limbs q.num.natAbs) (decide ((q.den : Int) < 0)) (limbs (q.den : Int).natAbs) ∧ okQ (decide (q.num < 0)) (limbs q.num.natAbs) (decide ((q.den : Int) < 0)) (limbs (q.den : Int).natAbs) = true := by
  obtain ⟨x0, x1, x2, x3, rfl, i1, i2⟩ := h
  obtain ⟨k1, k2⟩ := int_raw i1
  obtain ⟨k3, k4⟩ := int_raw i2
  refine ⟨⟨_, _, _, _, rfl, k1, k3⟩, ?_⟩
  have e3 : sgn (decide (q.num < 0)) (val (limbs q.num.natAbs)) = q.num := by rw [val_limbs]; exact sgn_self q.num
  have e4 : sgn (decide ((q.den : Int) < 0)) (val (limbs (q.den : Int).natAbs)) = (q.den : Int) := by rw [val_limbs]; exact sgn_self (q.den : Int)
  unfold okQ
  rw [k2, k4, e3, e4, decide_eq_true (show 0 < (q.den : Int) by have := q.den_pos; omega)]
  rw [decide_eq_true (show Nat.gcd q.num.natAbs (q.den : Int).natAbs = 1 from q.reduced)]
  rfl
end Go.Proofs.YtnejcdjakjmklaaGreatDoor
end

section
set_option maxRecDepth 100000
namespace Go.Proofs.YtnejcdjakjmklaaGreatDoor
open Go.RowKit
section
variable {w : World} {v : Value} {a b c : Rat}
end
section
variable {w : World} {v : Value} {p1 p2 p3 p4 p5 p6 : RI}
end
end Go.Proofs.YtnejcdjakjmklaaGreatDoor
end

section
set_option maxRecDepth 100000
namespace Go.Proofs.YtnejcdjakjmklaaGreatDoor
open Go.RowKit
end Go.Proofs.YtnejcdjakjmklaaGreatDoor
end

section
set_option maxRecDepth 100000
namespace Go.Proofs.YtnejcdjakjmklaaGreatDoor
open Go.RowKit
end Go.Proofs.YtnejcdjakjmklaaGreatDoor
end

section
set_option maxRecDepth 100000
namespace Go.Proofs.YtnejcdjakjmklaaGreatDoor
open Go.RowKit
theorem asm_nil {E : Env} : Asm.holds E [] := no_asm
theorem asm_and {E : Env} {t : BT} {b : Bool} {G : Asm} (h : t.den E = b) (k : G.holds E) : Asm.holds E ((t, b) :: G) := fun p hp => by
  rcases List.mem_cons.1 hp with rfl | hp
  · exact h
  · exact k p hp
def g2 (n m : Bool) : Asm := [(rdT (qv 1) (qv 2), true), (rdT (qv 4) (qv 5), true), (nokT (qv 1) (qv 2) (qv 4) (qv 5), n), (nokT (qv 4) (qv 5) (qv 1) (qv 2), m)]
section
variable {w : World} {v u : Value} {a b c a' b' c' : Rat}
end
end Go.Proofs.YtnejcdjakjmklaaGreatDoor
end

section
set_option maxRecDepth 100000
namespace Go.Proofs.YtnejcdjakjmklaaGreatDoor
open Go.RowKit Go.Shelf
theorem kInlW_ok {P : Program} (hm : P.follows .mixedOrders = true) {E : Env} {W : World → Prop} (hW : ∀ w w', W w → Ext w w' → W w') {C : Cfg} (hC : CfgOK P E C) (hw : ∀ w, W w → C.wok w) {f : Nat} {fn : Func} (hf : P.funcs[f]? = some fn) (h1 : fn.name ≠ "runtime.NumGoroutine") (h2 : fn.body.isNone = false) : ConW P W E f (kInl C fn) := by
  refine ⟨?_, ?_, fn, hf, h1, h2⟩
  · intro args G r h hG β w vs hWw hv hlen
    unfold kInl at h
    split at h
    · rename_i hc
      simp only [Bool.and_eq_true, decide_eq_true_iff] at hc
      split at h
      · rename_i l hl
        injection h with h
        subst h
        refine (fun_sound hm hC hG hf hc.2.2 hl hc.2.1 hc.1 w vs hlen (fun i x hx => ⟨β, hv i x hx⟩) (fun w' e => hw w' (hW w w' hWw e))).mono ?_
        rintro e w' ⟨β', v, rfl, hh, ex⟩
        exact ⟨v, rfl, toAV_beta hh, ex⟩
      · cases h
    · cases h
  · intro args G r h x off
    unfold kInl at h
    split at h
    · split at h
      · injection h with h; subst h; exact toAV_nptr
      · cases h
    · cases h
def kWpL : Con
  | [.val false [.str t _], .val false [.n .i64 d]], _ => match t.cl, d.cl with
    | some s, some z => if decide (s.length ≤ 100000) && (decide (0 ≤ z) && decide (z ≤ 1000)) then some (.val false [.str (.lit (wpL s z.toNat)) (wpL s z.toNat).length]) else none
    | _, _ => none
  | _, _ => none
theorem kWpL_ok {E : Env} : ConOK Tryz.prog E 39 kWpL := by
  refine ⟨?_, ?_, ⟨_, Tryz.func39, by decide +kernel, by kernel_rfl⟩⟩
  · intro args G r h hG β w vs hv hlen
    unfold kWpL at h
    split at h
    · rename_i t l d
      split at h
      · rename_i s z hs hz
        split at h
        · rename_i hcd
          simp only [Bool.and_eq_true, decide_eq_true_iff] at hcd
          injection h with h
          subst h
          obtain ⟨v, u, rfl, h1, h2⟩ := args2 hv hlen
          obtain ⟨rfl, _⟩ := one_str.1 h1
          have h2' := one_num.1 h2
          subst h2'
          rw [ST.cl_spec hs, IT.cl_spec hz]
          obtain ⟨n, rfl⟩ : ∃ n : Nat, z = (n : Int) := ⟨z.toNat, by omega⟩
          refine (withPoint_calls w ⟨s.toArray⟩ n (by omega) (by show s.toArray.size ≤ _; rw [List.size_toArray]; exact hcd.1)).mono ?_
          rintro e w' ⟨rfl, ex⟩
          exact ⟨_, rfl, one_str.2 ⟨rfl, Nat.le_refl _⟩, ex⟩
        · cases h
      · cases h
    · cases h
  · intro args G r h x off
    unfold kWpL at h
    split at h
    · split at h
      · split at h
        · injection h with h; subst h; intro e; cases e
        · cases h
      · cases h
    · cases h
def kShL : Con
  | [.val false [.str t _]], _ => match t.cl with
    | some s => if decide (s.length ≤ 1000000) then some (.val false [.str (.lit (shL s)) (shL s).length]) else none
    | none => none
  | _, _ => none
theorem kShL_ok {E : Env} : ConOK Tryz.prog E 60 kShL := by
  refine ⟨?_, ?_, ⟨_, Tryz.func60, by decide +kernel, by kernel_rfl⟩⟩
  · intro args G r h hG β w vs hv hlen
    unfold kShL at h
    split at h
    · rename_i t l
      split at h
      · rename_i s hs
        split at h
        · rename_i hcd
          rw [decide_eq_true_iff] at hcd
          injection h with h
          subst h
          obtain ⟨v, rfl, h1⟩ := args1 hv hlen
          obtain ⟨rfl, _⟩ := one_str.1 h1
          rw [ST.cl_spec hs]
          refine (shortest_calls w ⟨s.toArray⟩ (by show s.toArray.size ≤ _; rw [List.size_toArray]; exact hcd)).mono ?_
          rintro e w' ⟨rfl, rfl⟩
          exact ⟨_, rfl, one_str.2 ⟨rfl, Nat.le_refl _⟩, Ext.refl _⟩
        · cases h
      · cases h
    · cases h
  · intro args G r h x off
    unfold kShL at h
    split at h
    · split at h
      · split at h
        · injection h with h; subst h; intro e; cases e
        · cases h
      · cases h
    · cases h
theorem decDigits_len : ∀ (k u : Nat), u < 10 ^ (k + 1) → (Lib.decDigits u).length ≤ k + 1 := fun k u h => by
  rw [Lib.decDigits_length]
  exact nDigits_le k u h
theorem itoa64_len {n : Int} (h0 : -9223372036854775808 ≤ n) (h1 : n ≤ 9223372036854775807) : (Lib.itoa n).length ≤ 20 := by
  unfold Lib.itoa
  split
  · have := decDigits_len 18 n.natAbs (by omega)
    simp only [List.length_cons]; omega
  · have := decDigits_len 18 n.toNat (by omega)
    omega
def kFI6 : Con
  | [.val false [.n .i64 x], .val false [.n .i64 (.lit z)]], G => if inR G x && z == 10 then some (.val false [.str (.fmt x) 20]) else none
  | _, _ => none
theorem kFI6_ok {E : Env} : ConW Tryz.prog WQ E 61 kFI6 := by
  refine ⟨?_, ?_, ⟨_, Tryz.func61, by decide +kernel, by kernel_rfl⟩⟩
  · intro args G r h hG β w vs hW hv hlen
    unfold kFI6 at h
    split at h
    · rename_i x z
      split at h
      · rename_i hcd
        simp only [Bool.and_eq_true, beq_iff_eq] at hcd
        obtain ⟨hr, rfl⟩ := hcd
        injection h with h
        subst h
        have hx := inR_spec hG hr
        obtain ⟨v, u, rfl, h1, h2⟩ := args2 hv hlen
        have h1' := one_num.1 h1
        have h2' := one_num.1 h2
        subst h1' h2'
        refine (formatInt_calls w hW.2 _ hx.1 hx.2).mono ?_
        rintro e w' ⟨rfl, ex⟩
        exact ⟨_, rfl, one_str.2 ⟨rfl, itoa64_len hx.1 hx.2⟩, ex⟩
      · cases h
    · cases h
  · intro args G r h x off
    unfold kFI6 at h
    split at h
    · split at h
      · injection h with h; subst h; intro e; cases e
      · cases h
    · cases h
noncomputable def tabRo : List (Nat × Con) := [(77, kRNg true), (73, kRAd false), (75, kRFl)]
theorem tabRo_ok {E : Env} (hE : QEnv E) : TabOK Tryz.prog E tabRo :=
  .cons (kRNg_ok hE (fun w v a b c h hr hl => p_neg (h rfl) hr hl) ⟨_, Tryz.func77, by decide +kernel, by kernel_rfl⟩) <|
  .cons (kRAd_ok hE (fun _ _ _ _ _ _ _ _ _ _ _ h hu l l' => p_add h hu l l') ⟨_, Tryz.func73, by decide +kernel, by kernel_rfl⟩) <|
  .cons (kRFl_ok hE (fun _ _ _ _ _ R h l => p_floor4 R h l) (fun _ _ _ _ _ R h l => p_floor50 R h l) (fun _ _ _ _ _ R h l => p_floor R h l) ⟨_, Tryz.func75, by decide +kernel, by kernel_rfl⟩) .nil
end Go.Proofs.YtnejcdjakjmklaaGreatDoor
end

section
set_option maxRecDepth 100000
namespace Go.Proofs.YtnejcdjakjmklaaGreatDoor
open Go.RowKit Go.Shelf
noncomputable def tabPw : List (Nat × Con) := (53, kInl (cfgOf tabInt) Tryz.f53) :: (tabInt ++ tabT)
theorem tabPw_ok {E : Env} (hE : QEnv E) : TabOK Tryz.prog E tabPw := .cons (kInl_ok mixed (cfg_ok tabInt_ok) (fun _ => trivial) Tryz.func53 (by decide +kernel) (by kernel_rfl)) (TabOK.app tabInt_ok (tabT_ok hE))
noncomputable def tabD0 : List (Nat × Con) := (39, kWpL) :: (60, kShL) :: (37, kInl (cfgOf tabPw) Tryz.f37) :: (35, kFlQ) :: (tabInt ++ tabT)
theorem tabD0_ok {E : Env} (hE : QEnv E) : TabOK Tryz.prog E tabD0 :=
  .cons kWpL_ok (.cons kShL_ok (.cons (kInl_ok mixed (cfg_ok (tabPw_ok hE)) (fun _ => trivial) Tryz.func37 (by decide +kernel) (by kernel_rfl)) (.cons (kFlQ_ok hE) (TabOK.app tabInt_ok (tabT_ok hE)))))
noncomputable def tabDf : List (Nat × Con) := (40, kFmt) :: (61, kFI6) :: tabD0
theorem tabDf_ok {E : Env} (hE : QEnv E) : TabW Tryz.prog WQ E tabDf := .cons kFmt_ok (.cons kFI6_ok (tabD0_ok hE).toW)
noncomputable def cDf : Cfg := cfgW WQ tabDf
theorem cDf_ok {E : Env} (hE : QEnv E) : CfgOK Tryz.prog E cDf := cfgW_ok (tabDf_ok hE)
theorem wq_ext : ∀ w w', WQ w → Ext w w' → WQ w' := fun _ _ h e => h.ext e
noncomputable def tabSq6 : List (Nat × Con) := [(67, kSqQ)]
theorem tabSq6_ok {E : Env} : TabOK Tryz.prog E tabSq6 := .cons (kSqQ_ok (fun w v n d h l m => rsqrtQ_calls w v n d h l m) ⟨_, Tryz.func67, by decide +kernel, by kernel_rfl⟩) .nil
noncomputable def tabA6 : List (Nat × Con) :=
  (30, kInl (cR tabRo) Tryz.f30) :: (32, kInl (cR tabRo) Tryz.f32) :: (33, kInl (cR tabRo) Tryz.f33) ::
  (25, kInl (cR tabSq6) Tryz.f25) :: (31, kInl (cR []) Tryz.f31) :: (27, kInl (cR []) Tryz.f27) :: (tabInt ++ tabT)
theorem tabA6_ok {E : Env} (hE : QEnv E) : TabOK Tryz.prog E tabA6 :=
  .cons (kInl_ok mixed (cR_ok hE (tabRo_ok hE)) (fun _ => trivial) Tryz.func30 (by decide +kernel) (by kernel_rfl)) <|
  .cons (kInl_ok mixed (cR_ok hE (tabRo_ok hE)) (fun _ => trivial) Tryz.func32 (by decide +kernel) (by kernel_rfl)) <|
  .cons (kInl_ok mixed (cR_ok hE (tabRo_ok hE)) (fun _ => trivial) Tryz.func33 (by decide +kernel) (by kernel_rfl)) <|
  .cons (kInl_ok mixed (cR_ok hE tabSq6_ok) (fun _ => trivial) Tryz.func25 (by decide +kernel) (by kernel_rfl)) <|
  .cons (kInl_ok mixed (cR_ok hE .nil) (fun _ => trivial) Tryz.func31 (by decide +kernel) (by kernel_rfl)) <|
  .cons (kInl_ok mixed (cR_ok hE .nil) (fun _ => trivial) Tryz.func27 (by decide +kernel) (by kernel_rfl)) (TabOK.app tabInt_ok (tabT_ok hE))
noncomputable def tabAw6 : List (Nat × Con) :=
  (9, kInl cDf Tryz.f9) :: (18, kInl cDf Tryz.f18) :: (21, kInl cDf Tryz.f21) :: tabA6
theorem tabAw6_ok {E : Env} (hE : QEnv E) : TabW Tryz.prog WQ E tabAw6 :=
  .cons (kInlW_ok mixed wq_ext (cDf_ok hE) (fun _ h => h) Tryz.func9 (by decide +kernel) (by kernel_rfl)) <|
  .cons (kInlW_ok mixed wq_ext (cDf_ok hE) (fun _ h => h) Tryz.func18 (by decide +kernel) (by kernel_rfl)) <|
  .cons (kInlW_ok mixed wq_ext (cDf_ok hE) (fun _ h => h) Tryz.func21 (by decide +kernel) (by kernel_rfl)) (tabA6_ok hE).toW
end Go.Proofs.YtnejcdjakjmklaaGreatDoor
end

section
set_option maxRecDepth 100000
namespace Go.Proofs.YtnejcdjakjmklaaGreatDoor
end Go.Proofs.YtnejcdjakjmklaaGreatDoor
end

section
set_option maxRecDepth 100000
namespace Go.Proofs.YtnejcdjakjmklaaGreatDoor
end Go.Proofs.YtnejcdjakjmklaaGreatDoor
end

section
set_option maxRecDepth 100000
namespace Go.Proofs.YtnejcdjakjmklaaGreatDoor
end Go.Proofs.YtnejcdjakjmklaaGreatDoor
end

section
set_option maxRecDepth 100000
namespace Go.Proofs.YtnejcdjakjmklaaGreatDoor
open Go.RowKit
end Go.Proofs.YtnejcdjakjmklaaGreatDoor
end

section
set_option maxRecDepth 100000
namespace Go.Proofs.YtnejcdjakjmklaaGreatDoor
open Go.RowKit
end Go.Proofs.YtnejcdjakjmklaaGreatDoor
end

section
set_option maxRecDepth 100000
namespace Go.Proofs.YtnejcdjakjmklaaGreatDoor
open Go.RowKit
end Go.Proofs.YtnejcdjakjmklaaGreatDoor
end

section
set_option maxRecDepth 100000
namespace Go.Proofs.YtnejcdjakjmklaaGreatDoor
open Go.RowKit
theorem limbs_top9 {n : Nat} (h : (limbs n).length = 3) : n = val ((limbs n).take 2) + 1000000000000000000 * (limbs n).getD 2 0 ∧ val ((limbs n).take 2) < 1000000000000000000 := by
  have h1 := val_split (limbs n) 2 (by omega)
  rw [val_limbs, val_drop _ 2 (by omega)] at h1
  have h2 : (limbs n).drop (2 + 1) = [] := List.drop_of_length_le (by omega)
  rw [h2] at h1
  have h3 := val_lt ((dig_limbs n).take 2)
  rw [List.length_take, h] at h3
  simp only [val] at h1
  have e : 1000000000 ^ min 2 3 = 1000000000000000000 := rfl
  rw [e] at h3
  omega
theorem big_len {n : Nat} (h : 10000000000000000000 ≤ n) : 3 < (limbs n).length ∨ ((limbs n).length = 3 ∧ 9 < (limbs n).getD 2 0) := by
  rcases Nat.lt_or_ge 3 (limbs n).length with h1 | h1
  · exact .inl h1
  · right
    have h3 : (limbs n).length = 3 := by
      rcases Nat.lt_or_ge (limbs n).length 3 with h2 | h2
      · have := lt_of_limbs_len (n := n) (k := 2) (by omega); omega
      · omega
    obtain ⟨h4, h5⟩ := limbs_top9 h3
    exact ⟨h3, by omega⟩
theorem small_len {n : Nat} (h : n < 10000000000000000000) : (limbs n).length ≤ 3 ∧ ((limbs n).length = 3 → (limbs n).getD 2 0 ≤ 9) := by
  refine ⟨limbs_len_le (by omega), fun h3 => ?_⟩
  obtain ⟨h4, h5⟩ := limbs_top9 h3
  omega
theorem neg_conv (n : Nat) (h0 : 0 < n) (h : n ≤ 9223372036854775808) : wrap64 (IntKind.u64.wrap (-(n : Int))) = -(n : Int) := by
  simp only [wrap64, IntKind.wrap_u64]
  omega
theorem wrap64_small {m : Int} (n : Nat) (h : (n : Int) = m) (k : m ≤ 9223372036854775807) : wrap64 m = m := by
  simp only [wrap64]
  omega
theorem ret2 {a b : Int} {c d : Bool} (h : a = b) (k : c = d) : Ending.returned (.tuple #[.int .i64 a, .bool c]) = .returned (.tuple #[.int .i64 b, .bool d]) := by rw [h, k]

set_option maxRecDepth 100000 in
set_option maxHeartbeats 1600000 in
theorem int64_calls (w : World) (v : Value) (z : Int) (h : IsInt w v z) :
    Calls Tryz.prog 110 #[v] w fun e w' => e = .returned (.tuple #[.int .i64 (i64v z), .bool (i64ok z)]) ∧ Ext w w' := by
  obtain ⟨ao, cap, s, n, rfl, h1, h2, h3, H4, H5, H6⟩ := h.open_
  obtain ⟨W, hW, eW, c0, c1⟩ := box1 w (.bool s) (.slice ao (limbs n).length cap) 24
  by_cases hb : 10000000000000000000 ≤ n
  · have HO := Lib.hid (i64_out (z := z) (by have := H4.out; omega))
    rcases big_len hb with hl | ⟨hl, ht⟩
    · have hlI : decide ((3 : Int) < ((limbs n).length : Int)) = true := decide_eq_true (by omega)
      clear hb hl
      go_enter Tryz.func110, Tryz.ntmps110
      go_wp2
      go_ret2
      exact ⟨ret2 HO.out.1.symm HO.out.2.symm, eW⟩
    · obtain ⟨b1, o1, rfl, hx⟩ := (h3.ext eW).at_ (by omega)
      have hc := hx 2 (by omega)
      clear hx
      generalize (limbs n).getD 2 0 = t at *
      have htI : (9 : Int) < (t : Int) := by omega
      generalize (limbs n).length = L at *
      subst hl
      clear hb ht
      go_enter Tryz.func110, Tryz.ntmps110
      go_wp2
      go_ret2
      exact ⟨ret2 HO.out.1.symm HO.out.2.symm, eW⟩
  · obtain ⟨hl, ht⟩ := small_len (n := n) (by omega)
    have hv := valueOf_calls W ao (limbs n) cap h1 h2 (h3.ext eW) (by rw [val_limbs]; omega)
    rw [val_limbs] at hv
    have HV := Lib.hid hv
    have hfin : Hid ((∃ L : Nat, L = (limbs n).length ∧ L ≤ 3 ∧ (L = 3 → ∃ b1 o1 t, ao = some ⟨b1, o1, none⟩ ∧ W.cell? ⟨b1, o1 + 2, none⟩ = some (.int .u32 ((t : Nat) : Int)) ∧ t ≤ 9))) := by
      refine ⟨_, rfl, hl, fun h' => ?_⟩
      obtain ⟨b1, o1, rfl, hx⟩ := (h3.ext eW).at_ (by omega)
      exact ⟨b1, o1, _, rfl, hx 2 (by omega), ht h'⟩
    obtain ⟨L, hL, hL3, hLt⟩ := hfin.out
    rw [← hL] at HV
    rw [← hL] at hW c1
    have HLE := Lib.hid (show (Value.slice ao (limbs n).length cap) = .slice ao L cap by rw [hL])
    have HN := Lib.hid (show n < 10000000000000000000 by omega)
    have hz : z = sgn s n := H5.out
    clear hv hl ht h1 h2 h3 hb hfin h
    rw [HLE.out]
    clear hL HLE
    have hgo : ∀ (P : Prop), True := fun _ => trivial
    have HZ := Lib.hid hz
    clear hz hgo
    rcases Nat.lt_or_ge L 3 with hl | hl
    · have hlI : (L : Int) < 3 := by omega
      clear hLt hl hL3
      cases s
      by_cases hn : n ≤ 9223372036854775807
      · have HI := Lib.hid (i64_in (z := z) (by rw [HZ.out]; simp only [sgn]; simp; try omega) (by rw [HZ.out]; simp only [sgn]; simp; try omega))
        have hnI : (n : Int) ≤ 9223372036854775807 := by omega
        have HE : Hid (z = n) := HZ.out
        clear hn
        go_enter Tryz.func110, Tryz.ntmps110
        go_wp2_with fail
        refine HV.out.mono ?_
        rintro e w' ⟨rfl, rfl⟩
        generalize hm : (n : Int) = m at hnI ⊢
        have HM := Lib.hid hm
        clear hm
        go_wp2
        go_ret2
        exact ⟨ret2 (by rw [HI.out.1, HE.out, HM.out]; exact wrap64_small n HM.out hnI) HI.out.2.symm, eW⟩
      · have HI := Lib.hid (i64_out (z := z) (.inr (by rw [HZ.out]; simp only [sgn]; simp; try omega)))
        have hnI : (9223372036854775807 : Int) < n := by omega
        clear hn
        go_enter Tryz.func110, Tryz.ntmps110
        go_wp2_with fail
        refine HV.out.mono ?_
        rintro e w' ⟨rfl, rfl⟩
        generalize hm : (n : Int) = m at hnI ⊢
        have HM := Lib.hid hm
        clear hm
        go_wp2
        go_ret2
        exact ⟨ret2 HI.out.1.symm HI.out.2.symm, eW⟩
      by_cases hn : n ≤ 9223372036854775808
      · have HI := Lib.hid (i64_in (z := z) (by rw [HZ.out]; simp only [sgn]; simp; try omega) (by rw [HZ.out]; simp only [sgn]; simp; try omega))
        have hnI : decide ((n : Int) ≤ 9223372036854775808) = true := decide_eq_true (by omega)
        have HE : Hid (z = -n) := HZ.out
        have HP := Lib.hid (H6.out rfl)
        have HB := Lib.hid hn
        clear hn
        go_enter Tryz.func110, Tryz.ntmps110
        go_wp2_with fail
        refine HV.out.mono ?_
        rintro e w' ⟨rfl, rfl⟩
        go_wp2
        go_ret2
        exact ⟨ret2 (by rw [HI.out.1, HE.out]; exact neg_conv n HP.out HB.out) HI.out.2.symm, eW⟩
      · have HI := Lib.hid (i64_out (z := z) (.inl (by rw [HZ.out]; simp only [sgn]; simp; try omega)))
        have hnI : decide ((n : Int) ≤ 9223372036854775808) = false := decide_eq_false (by omega)
        clear hn
        go_enter Tryz.func110, Tryz.ntmps110
        go_wp2_with fail
        refine HV.out.mono ?_
        rintro e w' ⟨rfl, rfl⟩
        go_wp2
        go_ret2
        exact ⟨ret2 HI.out.1.symm HI.out.2.symm, eW⟩
    · obtain ⟨b1, o1, t, rfl, hc, htt⟩ := hLt (by omega)
      obtain rfl : L = 3 := by omega
      have htI : (t : Int) ≤ 9 := by omega
      clear hLt hl hL3 htt
      cases s
      by_cases hn : n ≤ 9223372036854775807
      · have HI := Lib.hid (i64_in (z := z) (by rw [HZ.out]; simp only [sgn]; simp; try omega) (by rw [HZ.out]; simp only [sgn]; simp; try omega))
        have hnI : (n : Int) ≤ 9223372036854775807 := by omega
        have HE : Hid (z = n) := HZ.out
        clear hn
        go_enter Tryz.func110, Tryz.ntmps110
        go_wp2_with fail
        refine HV.out.mono ?_
        rintro e w' ⟨rfl, rfl⟩
        generalize hm : (n : Int) = m at hnI ⊢
        have HM := Lib.hid hm
        clear hm
        go_wp2
        go_ret2
        exact ⟨ret2 (by rw [HI.out.1, HE.out, HM.out]; exact wrap64_small n HM.out hnI) HI.out.2.symm, eW⟩
      · have HI := Lib.hid (i64_out (z := z) (.inr (by rw [HZ.out]; simp only [sgn]; simp; try omega)))
        have hnI : (9223372036854775807 : Int) < n := by omega
        clear hn
        go_enter Tryz.func110, Tryz.ntmps110
        go_wp2_with fail
        refine HV.out.mono ?_
        rintro e w' ⟨rfl, rfl⟩
        generalize hm : (n : Int) = m at hnI ⊢
        have HM := Lib.hid hm
        clear hm
        go_wp2
        go_ret2
        exact ⟨ret2 HI.out.1.symm HI.out.2.symm, eW⟩
      by_cases hn : n ≤ 9223372036854775808
      · have HI := Lib.hid (i64_in (z := z) (by rw [HZ.out]; simp only [sgn]; simp; try omega) (by rw [HZ.out]; simp only [sgn]; simp; try omega))
        have hnI : decide ((n : Int) ≤ 9223372036854775808) = true := decide_eq_true (by omega)
        have HE : Hid (z = -n) := HZ.out
        have HP := Lib.hid (H6.out rfl)
        have HB := Lib.hid hn
        clear hn
        go_enter Tryz.func110, Tryz.ntmps110
        go_wp2_with fail
        refine HV.out.mono ?_
        rintro e w' ⟨rfl, rfl⟩
        go_wp2
        go_ret2
        exact ⟨ret2 (by rw [HI.out.1, HE.out]; exact neg_conv n HP.out HB.out) HI.out.2.symm, eW⟩
      · have HI := Lib.hid (i64_out (z := z) (.inl (by rw [HZ.out]; simp only [sgn]; simp; try omega)))
        have hnI : decide ((n : Int) ≤ 9223372036854775808) = false := decide_eq_false (by omega)
        clear hn
        go_enter Tryz.func110, Tryz.ntmps110
        go_wp2_with fail
        refine HV.out.mono ?_
        rintro e w' ⟨rfl, rfl⟩
        go_wp2
        go_ret2
        exact ⟨ret2 HI.out.1.symm HI.out.2.symm, eW⟩

end Go.Proofs.YtnejcdjakjmklaaGreatDoor
end

section
set_option maxRecDepth 100000
namespace Go.Proofs.YtnejcdjakjmklaaGreatDoor
open Go.RowKit
end Go.Proofs.YtnejcdjakjmklaaGreatDoor
end

section
set_option maxRecDepth 100000
namespace Go.Proofs.YtnejcdjakjmklaaGreatDoor
open Go.RowKit
end Go.Proofs.YtnejcdjakjmklaaGreatDoor
end

section
set_option maxRecDepth 100000
namespace Go.Proofs.YtnejcdjakjmklaaGreatDoor
open Go.RowKit
end Go.Proofs.YtnejcdjakjmklaaGreatDoor
end

section
set_option maxRecDepth 100000
namespace Go.Proofs.YtnejcdjakjmklaaGreatDoor
open Go.RowKit
theorem cmpZ_nonneg {a b : Int} (h : b ≤ a) : 0 ≤ cmpZ a b := by
  rcases Int.lt_or_le b a with k | k
  · rw [cmpZ_gt k]; decide
  · rw [cmpZ_eq (by omega)]; decide
theorem cmpZ_nonpos {a b : Int} (h : a ≤ b) : cmpZ a b ≤ 0 := by
  rcases Int.lt_or_le a b with k | k
  · rw [cmpZ_lt k]; decide
  · rw [cmpZ_eq (by omega)]; decide
theorem rcmp_as {w : World} {v1 v2 : Value} {z1 z2 : Int} {k : Int} (h : Hid (cmpZ z1 z2 = k)) (h1 : IsInt w v1 z1) (h2 : IsInt w v2 z2) :
    Calls Tryz.prog 56 #[v1, v2] w fun e w' => e = .returned (.int .i64 k) ∧ Ext w w' := by
  rw [← h.out]
  exact rcmp_calls w v1 v2 z1 z2 h1 h2
theorem neg_conv2 {m : Int} (n : Nat) (h : (n : Int) = m) (h0 : 0 < n) (k : n ≤ 9223372036854775808) : wrap64 (-(wrap64 m)) = -(n : Int) := by
  simp only [wrap64]
  omega

set_option maxRecDepth 100000 in
set_option maxHeartbeats 1600000 in
theorem rint64_calls (w : World) (v : Value) (z : Int) (h : IsInt w v z) :
    Calls Tryz.prog 114 #[v] w fun e w' => e = .returned (.tuple #[.int .i64 (i64v z), .bool (i64ok z)]) ∧ Ext w w' := by
  have hI := h
  obtain ⟨ao, cap, s, n, rfl, h1, h2, h3, H4, H5, H6⟩ := h.open_
  obtain ⟨W, hW, eW, c0, c1⟩ := box1 w (.bool s) (.slice ao (limbs n).length cap) 24
  have HC := Lib.hid (And.intro h1 (And.intro h2 h3))
  clear h1 h2 h3
  go_enter Tryz.func114, Tryz.ntmps114
  go_wp2_with fail
  clear hW
  refine (rfromInt64_calls _ _ (by omega) (by omega)).mono ?_
  rintro e w1 ⟨x1, rfl, hx1, e1⟩
  replace c0 := e1.cell c0
  replace c1 := e1.cell c1
  replace eW := eW.trans e1
  clear e1
  go_wp2_with fail
  refine (rfromInt64_calls _ _ (by omega) (by omega)).mono ?_
  rintro e w2 ⟨x2, rfl, hx2, e2⟩
  replace c0 := e2.cell c0
  replace c1 := e2.cell c1
  replace eW := eW.trans e2
  replace hx1 := hx1.ext e2
  clear e2
  have i1 := hx1
  have i2 := hx2
  obtain ⟨a1, cp1, s1, n1, rfl, _, _, _, _, _, _⟩ := hx1.open_
  obtain ⟨a2, cp2, s2, n2, rfl, _, _, _, _, _, _⟩ := hx2.open_
  clear hx1 hx2
  obtain ⟨W3, hW3, e3, _, l0, l1, m0, m1⟩ := boxes2 w2 (.bool s1) (.slice a1 (limbs n1).length cp1) (.bool s2) (.slice a2 (limbs n2).length cp2) 24
  replace c0 := e3.cell c0
  replace c1 := e3.cell c1
  replace i1 := i1.ext e3
  replace i2 := i2.ext e3
  have i0 := hI.ext (eW.trans e3)
  replace eW := eW.trans e3
  have HI := Lib.hid (And.intro i0 (And.intro i1 i2))
  clear i0 i1 i2 e3
  rcases Int.lt_or_le z (-9223372036854775808) with hz | hz
  · have HK : Hid (cmpZ z (-9223372036854775808) = -1) := Lib.hid (cmpZ_lt hz)
    have HO := Lib.hid (i64_out (z := z) (.inl hz))
    clear hz
    go_wp2_with fail
    refine (rcmp_as HK HI.out.1 HI.out.2.1).mono ?_
    rintro e w4 ⟨rfl, e4⟩
    go_wp2
    go_ret2
    exact ⟨ret2 HO.out.1.symm HO.out.2.symm, eW.trans e4⟩
  have HK : Hid (∃ k, cmpZ z (-9223372036854775808) = k ∧ 0 ≤ k) := Lib.hid ⟨_, rfl, cmpZ_nonneg hz⟩
  obtain ⟨k, HK1, hk⟩ := HK.out
  replace HK1 := Lib.hid HK1
  clear HK
  rcases Int.lt_or_le 9223372036854775807 z with hy | hy
  · have HK2 : Hid (cmpZ z 9223372036854775807 = 1) := Lib.hid (cmpZ_gt hy)
    have HO := Lib.hid (i64_out (z := z) (.inr hy))
    clear hz hy
    go_wp2_with fail
    refine (rcmp_as HK1 HI.out.1 HI.out.2.1).mono ?_
    rintro e w4 ⟨rfl, e4⟩
    replace c0 := e4.cell c0
    replace c1 := e4.cell c1
    replace m0 := e4.cell m0
    replace m1 := e4.cell m1
    go_wp2_with fail
    refine (rcmp_as HK2 (HI.out.1.ext e4) (HI.out.2.2.ext e4)).mono ?_
    rintro e w5 ⟨rfl, e5⟩
    go_wp2
    go_ret2
    exact ⟨ret2 HO.out.1.symm HO.out.2.symm, (eW.trans e4).trans e5⟩
  have HK : Hid (∃ k, cmpZ z 9223372036854775807 = k ∧ k ≤ 0) := Lib.hid ⟨_, rfl, cmpZ_nonpos hy⟩
  obtain ⟨k', HK2, hk'⟩ := HK.out
  replace HK2 := Lib.hid HK2
  clear HK
  have HZ := Lib.hid (i64_in hz hy)
  have HN := Lib.hid (And.intro hz hy)
  clear hz hy
  go_wp2_with fail
  refine (rcmp_as HK1 HI.out.1 HI.out.2.1).mono ?_
  rintro e w4 ⟨rfl, e4⟩
  replace c0 := e4.cell c0
  replace c1 := e4.cell c1
  replace m0 := e4.cell m0
  replace m1 := e4.cell m1
  go_wp2_with fail
  refine (rcmp_as HK2 (HI.out.1.ext e4) (HI.out.2.2.ext e4)).mono ?_
  rintro e w5 ⟨rfl, e5⟩
  replace c0 := e5.cell c0
  replace c1 := e5.cell c1
  replace eW := (eW.trans e4).trans e5
  clear e4 e5 m0 m1 l0 l1
  have hsc := short_calls w5 ao (limbs n) cap HC.out.1 HC.out.2.1 (HC.out.2.2.ext eW) (by rw [val_limbs]; have := H4.out; have := HN.out; omega)
  rw [val_limbs] at hsc
  have HS := Lib.hid hsc
  clear hsc
  go_wp2_with fail
  refine HS.out.mono ?_
  rintro e w6 ⟨rfl, rfl⟩
  generalize hm : (n : Int) = m
  have HM := Lib.hid hm
  clear hm
  cases s
  · go_wp2
    go_ret2
    exact ⟨ret2 (by rw [HZ.out.1, H5.out]; have := HN.out; have := HM.out; have := H5.out; simp [sgn] at this ⊢; exact (wrap64_small n HM.out (by omega)).trans HM.out.symm) HZ.out.2.symm, eW⟩
  · have HP := Lib.hid (H6.out rfl)
    go_wp2
    go_ret2
    exact ⟨ret2 (by rw [HZ.out.1, H5.out]; have := HN.out; have := HP.out; have := H5.out; have := H4.out; simp [sgn]; exact neg_conv2 n HM.out (by omega) (by omega)) HZ.out.2.symm, eW⟩

end Go.Proofs.YtnejcdjakjmklaaGreatDoor
end

section
set_option maxRecDepth 100000
namespace Go.Proofs.YtnejcdjakjmklaaGreatDoor
open Go.RowKit
end Go.Proofs.YtnejcdjakjmklaaGreatDoor
end

section
set_option maxRecDepth 100000
namespace Go.Proofs.YtnejcdjakjmklaaGreatDoor
open Go.RowKit
def IsT (w : World) (e : Ending) (w' : World) : Prop := e = .returned (.bool true) ∧ Ext w w'
theorem qE_int {l : List Rat} {i : Nat} {x : Int} (h : l.getD i 0 = (x : Rat)) : (qE l).i (2 * i) = x := by
  show (if 2 * i % 2 = 0 then (l.getD (2 * i / 2) 0).num else _) = x
  rw [if_pos (by omega), show 2 * i / 2 = i by omega, h, Rat.num_intCast]
end Go.Proofs.YtnejcdjakjmklaaGreatDoor
end

section
set_option maxRecDepth 100000
namespace Go.Proofs.YtnejcdjakjmklaaGreatDoor
open Go.RowKit
def lM : IT := .lit (-2305843009213693952)
def lP : IT := .lit 2305843009213693952
end Go.Proofs.YtnejcdjakjmklaaGreatDoor
end

section
set_option maxRecDepth 100000
namespace Go.Proofs.YtnejcdjakjmklaaGreatDoor
open Go.RowKit
end Go.Proofs.YtnejcdjakjmklaaGreatDoor
end

section
set_option maxRecDepth 100000
namespace Go.Proofs.YtnejcdjakjmklaaGreatDoor
open Ieee
end Go.Proofs.YtnejcdjakjmklaaGreatDoor
end

section
set_option maxRecDepth 100000
namespace Go.Proofs.YtnejcdjakjmklaaGreatDoor
end Go.Proofs.YtnejcdjakjmklaaGreatDoor
end

section
set_option maxRecDepth 100000
namespace Go.Proofs.YtnejcdjakjmklaaGreatDoor
open Go.RowKit
end Go.Proofs.YtnejcdjakjmklaaGreatDoor
end

section
set_option maxRecDepth 100000
namespace Go.Proofs.YtnejcdjakjmklaaGreatDoor
open Go.RowKit
end Go.Proofs.YtnejcdjakjmklaaGreatDoor
end

section
set_option maxRecDepth 100000
namespace Go.Proofs.YtnejcdjakjmklaaGreatDoor
open Go.RowKit
def exT (x y : IT) : BT := .and (.le x y) (.and (.le lM x) (.le y lP))
end Go.Proofs.YtnejcdjakjmklaaGreatDoor
end

section
set_option maxRecDepth 100000
namespace Go.Proofs.YtnejcdjakjmklaaGreatDoor
open Go.RowKit
theorem one_arg {E : Env} {w : World} {args : List AV} {vs : List Value} {x : AV} {v : Value} (ha : args = [x]) (hv : vs = [v]) (h : ∀ β, x.holds E β w v) : ∀ (i : Nat) (y : AV), args[i]? = some y → ∃ u, vs[i]? = some u ∧ ∀ β, y.holds E β w u := by
  subst ha hv
  intro i y hy
  match i, hy with
  | 0, hy => injection hy with hy; subst hy; exact ⟨v, rfl, h⟩
end Go.Proofs.YtnejcdjakjmklaaGreatDoor
end

section
set_option maxRecDepth 100000
namespace Go.Proofs.YtnejcdjakjmklaaGreatDoor
open Go.RowKit
end Go.Proofs.YtnejcdjakjmklaaGreatDoor
end

section
set_option maxRecDepth 100000
namespace Go.Proofs.YtnejcdjakjmklaaGreatDoor
open Go.RowKit
end Go.Proofs.YtnejcdjakjmklaaGreatDoor
end

section
set_option maxRecDepth 100000
namespace Go.Proofs.YtnejcdjakjmklaaGreatDoor
open Go.RowKit
end Go.Proofs.YtnejcdjakjmklaaGreatDoor
end

section
set_option maxRecDepth 100000
namespace Go.Proofs.YtnejcdjakjmklaaGreatDoor
open Go.RowKit
end Go.Proofs.YtnejcdjakjmklaaGreatDoor
end

section
set_option maxRecDepth 100000
namespace Go.Proofs.YtnejcdjakjmklaaGreatDoor
open Go.RowKit
end Go.Proofs.YtnejcdjakjmklaaGreatDoor
end

section
set_option maxRecDepth 100000
namespace Go.Proofs.YtnejcdjakjmklaaGreatDoor
open Go.RowKit
end Go.Proofs.YtnejcdjakjmklaaGreatDoor
end

section
set_option maxRecDepth 100000
namespace Go.Proofs.YtnejcdjakjmklaaGreatDoor
open Go.RowKit
end Go.Proofs.YtnejcdjakjmklaaGreatDoor
end

section
set_option maxRecDepth 100000
namespace Go.Proofs.YtnejcdjakjmklaaGreatDoor
open Go.RowKit
end Go.Proofs.YtnejcdjakjmklaaGreatDoor
end

section
set_option maxRecDepth 100000
namespace Go.Proofs.YtnejcdjakjmklaaGreatDoor
open Go.RowKit
end Go.Proofs.YtnejcdjakjmklaaGreatDoor
end

section
set_option maxRecDepth 100000
namespace Go.Proofs.YtnejcdjakjmklaaGreatDoor
open Go.RowKit
end Go.Proofs.YtnejcdjakjmklaaGreatDoor
end

section
set_option maxRecDepth 100000
namespace Go.Proofs.YtnejcdjakjmklaaGreatDoor
open Go.RowKit
end Go.Proofs.YtnejcdjakjmklaaGreatDoor
end

section
set_option maxRecDepth 100000
namespace Go.Proofs.YtnejcdjakjmklaaGreatDoor
open Go.RowKit
end Go.Proofs.YtnejcdjakjmklaaGreatDoor
end

section
set_option maxRecDepth 100000
namespace Go.Proofs.YtnejcdjakjmklaaGreatDoor
open Go.RowKit
end Go.Proofs.YtnejcdjakjmklaaGreatDoor
end

section
set_option maxRecDepth 100000
namespace Go.Proofs.YtnejcdjakjmklaaGreatDoor
open Go.RowKit
def bools : List Bool := [true, false]
theorem bools_mem (b : Bool) : b ∈ bools := by cases b <;> decide
end Go.Proofs.YtnejcdjakjmklaaGreatDoor
end

section
set_option maxRecDepth 100000
namespace Go.Proofs.YtnejcdjakjmklaaGreatDoor
open Go.RowKit
end Go.Proofs.YtnejcdjakjmklaaGreatDoor
end

section
set_option maxRecDepth 100000
namespace Go.Proofs.YtnejcdjakjmklaaGreatDoor
open Go.RowKit
end Go.Proofs.YtnejcdjakjmklaaGreatDoor
end

section
set_option maxRecDepth 100000
namespace Go.Proofs.YtnejcdjakjmklaaGreatDoor
open Go.RowKit
end Go.Proofs.YtnejcdjakjmklaaGreatDoor
end

section
set_option maxRecDepth 100000
namespace Go.Proofs.YtnejcdjakjmklaaGreatDoor
open Go.RowKit
def qI (i : Nat) : IT2 := (.var i, .var (i + 1))
end Go.Proofs.YtnejcdjakjmklaaGreatDoor
end

section
set_option maxRecDepth 100000
namespace Go.Proofs.YtnejcdjakjmklaaGreatDoor
open Go.RowKit
end Go.Proofs.YtnejcdjakjmklaaGreatDoor
end

section
set_option maxRecDepth 100000
namespace Go.Proofs.YtnejcdjakjmklaaGreatDoor
open Go.RowKit
end Go.Proofs.YtnejcdjakjmklaaGreatDoor
end

section
set_option maxRecDepth 100000
namespace Go.Proofs.YtnejcdjakjmklaaGreatDoor
open Go.RowKit
end Go.Proofs.YtnejcdjakjmklaaGreatDoor
end

section
set_option maxRecDepth 100000
namespace Go.Proofs.YtnejcdjakjmklaaGreatDoor
open Go.RowKit
end Go.Proofs.YtnejcdjakjmklaaGreatDoor
end

section
set_option maxRecDepth 100000
namespace Go.Proofs.YtnejcdjakjmklaaGreatDoor
open Go.RowKit
def RatsQ (w : World) : List Value → List Rat → Prop
  | vs, [] => vs = []
  | vs, q :: l => ∃ x r, vs = x ++ r ∧ IsRat w (.agg x.toArray) q ∧ RatsQ w r l
def IsQs (w : World) (v : Value) (l : List Rat) : Prop := ∃ vs : List Value, v = .agg vs.toArray ∧ RatsQ w vs l
end Go.Proofs.YtnejcdjakjmklaaGreatDoor
end

section
set_option maxRecDepth 100000
namespace Go.Proofs.YtnejcdjakjmklaaGreatDoor
open Go.RowKit
end Go.Proofs.YtnejcdjakjmklaaGreatDoor
end

section
set_option maxRecDepth 100000
namespace Go.Proofs.YtnejcdjakjmklaaGreatDoor
open Go.RowKit
end Go.Proofs.YtnejcdjakjmklaaGreatDoor
end

section
set_option maxRecDepth 100000
namespace Go.Proofs.YtnejcdjakjmklaaGreatDoor
open Go.RowKit
def kKq (chk : List AV → Bool) (r : AV) (k : Con) : Con := fun args G => if chk args then some r else k args G
def kNoQ : Con := fun _ _ => none
theorem kNoQ_ok {E : Env} {f : Nat} (hb : ∃ fn, Tryz.prog.funcs[f]? = some fn ∧ fn.name ≠ "runtime.NumGoroutine" ∧ fn.body.isNone = false) : ConOK Tryz.prog E f kNoQ := by
  refine ⟨?_, ?_, hb⟩
  · intro args G r h
    cases h
  · intro args G r h
    cases h
end Go.Proofs.YtnejcdjakjmklaaGreatDoor
end

section
set_option maxRecDepth 100000
namespace Go.Proofs.YtnejcdjakjmklaaGreatDoor
open Go.RowKit
def rNq (z : Int) : AV := .val false [.n .i64 (.lit z)]
end Go.Proofs.YtnejcdjakjmklaaGreatDoor
end

section
set_option maxRecDepth 100000
namespace Go.Proofs.YtnejcdjakjmklaaGreatDoor
open Go.RowKit
end Go.Proofs.YtnejcdjakjmklaaGreatDoor
end

section
set_option maxRecDepth 100000
namespace Go.Proofs.YtnejcdjakjmklaaGreatDoor
open Go.RowKit
end Go.Proofs.YtnejcdjakjmklaaGreatDoor
end

section
set_option maxRecDepth 100000
namespace Go.Proofs.YtnejcdjakjmklaaGreatDoor
open Go.RowKit
def t6 : List IT2 → List Chunk → Bool
  | [], [] => true
  | t :: ts, .int x _ :: .int y _ :: cs => x.beq t.1 && (y.beq t.2 && t6 ts cs)
  | _, _ => false
def c6 (ts : List IT2) : List AV → Bool
  | [.val true cs] => t6 ts cs
  | _ => false
def Reps (E : Env) : List IT2 → List Rat → Prop
  | [], [] => True
  | t :: ts, q :: qs => RepQ E t q ∧ Reps E ts qs
  | _, _ => False
theorem t6_holds {E : Env} {w : World} : ∀ {ts : List IT2} {cs : List Chunk} {qs : List Rat} {vs : List Value}, Reps E ts qs → t6 ts cs = true → chunks E w cs vs → RatsQ w vs qs
  | [], cs, [], vs, _, h, hc => by
    unfold t6 at h
    split at h
    · exact hc
    · contradiction
    · cases h
  | [], _, _ :: _, _, hr, _, _ => hr.elim
  | _ :: _, _, [], _, hr, _, _ => hr.elim
  | t :: ts, cs, q :: qs, vs, hr, h, hc => by
    unfold t6 at h
    split at h
    · contradiction
    · rename_i t' ts' x l y m cs' e
      cases e
      simp only [Bool.and_eq_true] at h
      obtain ⟨h1, h2, h3⟩ := h
      have e1 := IT.eq_of_beq h1
      have e2 := IT.eq_of_beq h2
      subst e1 e2
      obtain ⟨x, r, rfl, k1, k2⟩ := (two_chunks hr.1).1 hc
      exact ⟨x, r, rfl, k1.1, t6_holds hr.2 h3 k2⟩
    · cases h
theorem LimQ.mul' {l m k j : Nat} {a b : Rat} (h1 : Lim l a.num) (h2 : Lim m (a.den : Int)) (h3 : Lim k b.num) (h4 : Lim j (b.den : Int)) : Lim (l + k) (a * b).num ∧ Lim (m + j) ((a * b).den : Int) := by
  obtain ⟨m1, m2⟩ := mul_dq a b
  rw [← m1, ← m2]
  exact ⟨(h1.natAbs_le (dq_abs _ _)).mul (h3.natAbs_le (dq_abs _ _)), (h2.natAbs_le (dq_abs _ _)).mul (h4.natAbs_le (dq_abs _ _))⟩
theorem LimQ.sub' {l m k j n : Nat} {a b : Rat} (h1 : Lim l a.num) (h2 : Lim m (a.den : Int)) (h3 : Lim k b.num) (h4 : Lim j (b.den : Int)) (e1 : l + j < n) (e2 : k + m < n) : Lim n (a - b).num ∧ Lim (m + j) ((a - b).den : Int) := by
  rw [Rat.sub_eq_add_neg]
  have h3' : Lim k (-b).num := by rw [Rat.neg_num]; exact h3.neg
  have h4' : Lim j ((-b).den : Int) := h4
  obtain ⟨m1, m2⟩ := sum_dq a (-b) _ rfl
  rw [← m1, ← m2]
  refine ⟨Lim.natAbs_le ?_ (dq_abs _ _), (h2.natAbs_le (dq_abs _ _)).mul (h4'.natAbs_le (dq_abs _ _))⟩
  exact ((h1.mul (h4'.natAbs_le (dq_abs _ _))).add2 (h3'.mul (h2.natAbs_le (dq_abs _ _)))).mono (by omega)
end Go.Proofs.YtnejcdjakjmklaaGreatDoor
end

section
set_option maxRecDepth 100000
namespace Go.Proofs.YtnejcdjakjmklaaGreatDoor
open Go.RowKit
end Go.Proofs.YtnejcdjakjmklaaGreatDoor
end

section
set_option maxRecDepth 100000
namespace Go.Proofs.YtnejcdjakjmklaaGreatDoor
open Go.RowKit
end Go.Proofs.YtnejcdjakjmklaaGreatDoor
end

section
set_option maxRecDepth 100000
namespace Go.Proofs.YtnejcdjakjmklaaGreatDoor
open Go.RowKit
end Go.Proofs.YtnejcdjakjmklaaGreatDoor
end

section
set_option maxRecDepth 100000
namespace Go.Proofs.YtnejcdjakjmklaaGreatDoor
open Go.RowKit
structure KnownR (E : Env) (f : Nat) (chk : List AV → Bool) (r : AV) : Prop where
  calls : ∀ args, chk args = true → ∀ (β : Nat → Nat) (w : World) (vs : List Value), (∀ (i : Nat) (x : AV), args[i]? = some x → ∃ v, vs[i]? = some v ∧ x.holds E β w v) → vs.length = args.length → Calls Tryz.prog f vs.toArray w fun e w' => ∃ v, e = .returned v ∧ (∀ β, r.holds E β w' v) ∧ Ext w w'
  np : ∀ x off, r ≠ .ptr x off
theorem kKr_ok {E : Env} {f : Nat} {chk : List AV → Bool} {r : AV} {k : Con} (h : KnownR E f chk r) (hk : ConOK Tryz.prog E f k) : ConOK Tryz.prog E f (kKq chk r k) := by
  refine ⟨?_, ?_, hk.body⟩
  · intro args G s hs hG β w vs hv hl
    unfold kKq at hs
    split at hs
    · rename_i hc
      injection hs with hs
      subst hs
      refine (h.calls args hc β w vs hv hl).mono ?_
      rintro e w' ⟨v, rfl, h1, h2⟩
      exact ⟨v, rfl, h1 _, h2⟩
    · exact hk.calls args G s hs hG β w vs hv hl
  · intro args G s hs x off
    unfold kKq at hs
    split at hs
    · injection hs with hs
      subst hs
      exact h.np x off
    · exact hk.nptr args G s hs x off
end Go.Proofs.YtnejcdjakjmklaaGreatDoor
end

section
set_option maxRecDepth 100000
namespace Go.Proofs.YtnejcdjakjmklaaGreatDoor
open Go.RowKit
end Go.Proofs.YtnejcdjakjmklaaGreatDoor
end

section
set_option maxRecDepth 100000
namespace Go.Proofs.YtnejcdjakjmklaaGreatDoor
open Go.RowKit
end Go.Proofs.YtnejcdjakjmklaaGreatDoor
end

section
set_option maxRecDepth 100000
namespace Go.Proofs.YtnejcdjakjmklaaGreatDoor
open Go.RowKit
def rBl (b : Bool) : AV := .val false [.b (.lit b)]
end Go.Proofs.YtnejcdjakjmklaaGreatDoor
end

section
set_option maxRecDepth 100000
namespace Go.Proofs.YtnejcdjakjmklaaGreatDoor
open Go.RowKit
end Go.Proofs.YtnejcdjakjmklaaGreatDoor
end

section
set_option maxRecDepth 100000
namespace Go.Proofs.YtnejcdjakjmklaaGreatDoor
open Go.RowKit
end Go.Proofs.YtnejcdjakjmklaaGreatDoor
end

section
set_option maxRecDepth 100000
namespace Go.Proofs.YtnejcdjakjmklaaGreatDoor
open Go.RowKit
end Go.Proofs.YtnejcdjakjmklaaGreatDoor
end

section
set_option maxRecDepth 100000
namespace Go.Proofs.YtnejcdjakjmklaaGreatDoor
open Go.RowKit
end Go.Proofs.YtnejcdjakjmklaaGreatDoor
end

section
set_option maxRecDepth 100000
namespace Go.Proofs.YtnejcdjakjmklaaGreatDoor
open Go.RowKit
end Go.Proofs.YtnejcdjakjmklaaGreatDoor
end

section
set_option maxRecDepth 100000
namespace Go.Proofs.YtnejcdjakjmklaaGreatDoor
open Go.RowKit
end Go.Proofs.YtnejcdjakjmklaaGreatDoor
end

section
set_option maxRecDepth 100000
namespace Go.Proofs.YtnejcdjakjmklaaGreatDoor
open Go.RowKit
end Go.Proofs.YtnejcdjakjmklaaGreatDoor
end

section
set_option maxRecDepth 100000
namespace Go.Proofs.YtnejcdjakjmklaaGreatDoor
open Go.RowKit
theorem qs_rat {w : World} {v : Value} {q : Rat} (h : IsQs w v [q]) : IsRat w v q := by
  obtain ⟨vs, rfl, x, r, rfl, h1, rfl⟩ := h
  rw [List.append_nil]
  exact h1
def foldC : Chunk → Chunk
  | .int t l => .int t.fold l
  | .n k t => .n k t.fold
  | c => c
def foldAV : AV → AV
  | .val b cs => .val b (cs.map foldC)
  | .tup l => .tup (l.map fun p => (p.1, p.2.map foldC))
  | x => x
theorem foldC_holds {E : Env} {w : World} {c : Chunk} {vs : List Value} (h : c.holds E w vs) : (foldC c).holds E w vs := by
  cases c with
  | int t l =>
    obtain ⟨x, y, rfl, h1, h2⟩ := h
    exact ⟨x, y, rfl, by rw [IT.fold_den]; exact h1, by rw [IT.fold_den]; exact h2⟩
  | n k t =>
    show vs = [.int k (t.fold.den E)]
    rw [IT.fold_den]
    exact h
  | _ => exact h
theorem foldCs_holds {E : Env} {w : World} : ∀ {cs : List Chunk} {vs : List Value}, chunks E w cs vs → chunks E w (cs.map foldC) vs
  | [], _, h => h
  | _ :: _, _, ⟨l, r, e, h1, h2⟩ => ⟨l, r, e, foldC_holds h1, foldCs_holds h2⟩
theorem foldO_holds {E : Env} {w : World} {b : Bool} {cs : List Chunk} {v : Value} (h : one E w (b, cs) v) : one E w (b, cs.map foldC) v := by
  cases b with
  | true =>
    obtain ⟨vs, rfl, h1⟩ := h
    exact ⟨vs, rfl, foldCs_holds h1⟩
  | false => exact ⟨foldCs_holds h.1, h.2⟩
theorem foldT_holds {E : Env} {w : World} : ∀ {l : List (Bool × List Chunk)} {vs : List Value}, tupAll E w l vs → tupAll E w (l.map fun p => (p.1, p.2.map foldC)) vs
  | [], _, h => h
  | _ :: _, _, ⟨v, r, e, h1, h2⟩ => ⟨v, r, e, foldO_holds h1, foldT_holds h2⟩
theorem foldAV_holds {E : Env} {β : Nat → Nat} {w : World} {x : AV} {v : Value} (h : x.holds E β w v) : (foldAV x).holds E β w v := by
  cases x with
  | val b cs => exact foldO_holds h
  | tup l =>
    obtain ⟨vs, rfl, h1⟩ := h
    exact ⟨vs, rfl, foldT_holds h1⟩
  | ptr x off => exact h
  | bad => exact h
def kFold (k : Con) : Con := fun args G => (k args G).map foldAV
theorem kFold_ok {P : Program} {E : Env} {f : Nat} {k : Con} (h : ConOK P E f k) : ConOK P E f (kFold k) := by
  refine ⟨?_, ?_, h.body⟩
  · intro args G r hr hG β w vs hv hl
    obtain ⟨y, hy, rfl⟩ := Option.map_eq_some_iff.1 hr
    refine (h.calls args G y hy hG β w vs hv hl).mono ?_
    rintro e w' ⟨v, rfl, hh, ex⟩
    exact ⟨v, rfl, foldAV_holds hh, ex⟩
  · intro args G r hr x off e
    obtain ⟨y, hy, rfl⟩ := Option.map_eq_some_iff.1 hr
    have := h.nptr args G y hy x off
    cases y with
    | ptr a b => exact this e
    | _ => cases e
def limB (n : Nat) (q : Rat) : Bool := decide ((limbs q.num.natAbs).length ≤ n) && decide ((limbs (q.den : Int).natAbs).length ≤ n)
theorem limB_ok {n : Nat} {q : Rat} (h : limB n q = true) : LimQ n q := by
  unfold limB at h
  rw [Bool.and_eq_true, decide_eq_true_iff, decide_eq_true_iff] at h
  exact h
def lq (q : Rat) : IT2 := (.lit q.num, .lit (q.den : Int))
end Go.Proofs.YtnejcdjakjmklaaGreatDoor
end

section
set_option maxRecDepth 100000
namespace Go.Proofs.YtnejcdjakjmklaaGreatDoor
open Go.RowKit
theorem smN_rawQ {n : Nat} {w : World} {v : Value} {q : Rat} (h : IsRat w v q) (l : LimQ n q) : smN n (decide (q.num < 0), limbs q.num.natAbs) (decide ((q.den : Int) < 0), limbs (q.den : Int).natAbs) = true := by
  unfold smN
  have l1 : (limbs q.num.natAbs).length ≤ n := l.1
  have l2 : (limbs (q.den : Int).natAbs).length ≤ n := l.2
  rw [(rat_raw h).2, decide_eq_true l1, decide_eq_true l2]
  rfl
end Go.Proofs.YtnejcdjakjmklaaGreatDoor
end

section
set_option maxRecDepth 100000
namespace Go.Proofs.YtnejcdjakjmklaaGreatDoor
open Go.RowKit
end Go.Proofs.YtnejcdjakjmklaaGreatDoor
end

section
set_option maxRecDepth 100000
namespace Go.Proofs.YtnejcdjakjmklaaGreatDoor
open Go.RowKit
end Go.Proofs.YtnejcdjakjmklaaGreatDoor
end

section
set_option maxRecDepth 100000
namespace Go.Proofs.YtnejcdjakjmklaaGreatDoor
open Go.RowKit
end Go.Proofs.YtnejcdjakjmklaaGreatDoor
end

section
set_option maxRecDepth 100000
namespace Go.Proofs.YtnejcdjakjmklaaGreatDoor
open Go.RowKit Go.Shelf
def allL6 : Tree → Bool
  | .leaf [(false, [.b t])] => t.ev [] == some true
  | .leaf _ => false
  | .ite _ x y => allL6 x && allL6 y
theorem allL6_out {E : Env} {β : Nat → Nat} {w : World} {v : Value} : ∀ {T : Tree}, allL6 T = true → (toAV (T.pick E)).holds E β w v → v = .bool true := by
  intro T
  induction T with
  | leaf l =>
    intro h hh
    unfold allL6 at h
    split at h
    · rename_i t e
      injection e with e
      subst e
      rw [one_bool.1 hh, BT.ev_spec (E := E) no_asm (beq_iff_eq.1 h)]
    · cases h
    · rename_i e
      cases e
  | ite b x y ihx ihy =>
    intro h hh
    simp only [allL6, Bool.and_eq_true] at h
    simp only [Tree.pick] at hh
    split at hh
    · exact ihx h.1 hh
    · exact ihy h.2 hh
def okL6 : Option Tree → Bool
  | some T => allL6 T
  | none => false
theorem okL6_spec {o : Option Tree} (h : okL6 o = true) : ∃ T, o = some T ∧ allL6 T = true := by
  cases o with
  | none => cases h
  | some T => exact ⟨T, rfl, h⟩
theorem aw6_walk : okL6 (funE (cfgW WQ tabAw6) Tryz.f7 [] []) = true := by kernel_rfl
theorem awake6_calls (w : World) (hW : WQ w) : Calls Tryz.prog 7 #[] w (IsT w) := by
  obtain ⟨T, hT, hall⟩ := okL6_spec aw6_walk
  refine (fun_sound (E := qE []) mixed (cfgW_ok (tabAw6_ok (qE_ok _))) no_asm Tryz.func7 (by decide +kernel) hT (by decide +kernel) rfl w [] rfl (fun i x hx => by simp at hx) (fun w' e => hW.ext e)).mono ?_
  rintro e w' ⟨β, u, rfl, hh, ex⟩
  rw [allL6_out hall hh]
  exact ⟨rfl, ex⟩
def kAw6 : Con
  | [], _ => some (.val false [.b (.lit true)])
  | _, _ => none
theorem kAw6_ok {E : Env} : ConW Tryz.prog WQ E 7 kAw6 := by
  refine ⟨?_, ?_, ⟨_, Tryz.func7, by decide +kernel, by kernel_rfl⟩⟩
  · intro args G r h hG β w vs hW hv hlen
    unfold kAw6 at h
    split at h
    · injection h with h
      subst h
      obtain rfl : vs = [] := by simpa using hlen
      refine (awake6_calls w hW).mono ?_
      rintro e w' ⟨rfl, ex⟩
      exact ⟨_, rfl, one_bool.2 rfl, ex⟩
    · cases h
  · intro args G r h x off
    unfold kAw6 at h
    split at h
    · injection h with h; subst h; intro e; cases e
    · cases h
theorem LimQ.add6 {l m k j n : Nat} {a b : Rat} (h1 : Lim l a.num) (h2 : Lim m (a.den : Int)) (h3 : Lim k b.num) (h4 : Lim j (b.den : Int)) (e1 : l + j < n) (e2 : k + m < n) : Lim n (a + b).num ∧ Lim (m + j) ((a + b).den : Int) := by
  have e : a + b = a - (-b) := by grind
  rw [e]
  exact LimQ.sub' h1 h2 (by rw [Rat.neg_num]; exact h3.neg) (show Lim j ((-b).den : Int) from h4) e1 e2
end Go.Proofs.YtnejcdjakjmklaaGreatDoor
end

section
set_option maxRecDepth 100000
namespace Go.Proofs.YtnejcdjakjmklaaGreatDoor
open Go.RowKit Go.Shelf
end Go.Proofs.YtnejcdjakjmklaaGreatDoor
end

section
set_option maxRecDepth 100000
namespace Go.Proofs.YtnejcdjakjmklaaGreatDoor
open Go.RowKit Go.Shelf
theorem law6_calls {E : Env} {tab : List (Nat × Con)} (hT : TabW Tryz.prog WQ E tab) {G : Asm} (hG : G.holds E) {f : FuncId} {fn : Func} (hf : Tryz.prog.funcs[f]? = some fn) (h4 : fn.results.toList.length ≤ 4) {args : List AV} (hW : okL6 (funE (cfgW WQ tab) fn G args) = true) (hn : args.length ≤ fn.ntmps) (hp : args.all noPtr = true) (w : World) (hw : WQ w) (vs : List Value) (hl : vs.length = args.length)
    (hv : ∀ (i : Nat) (x : AV), args[i]? = some x → ∃ v, vs[i]? = some v ∧ ∀ β, x.holds E β w v) : Calls Tryz.prog f vs.toArray w (IsT w) := by
  obtain ⟨T, hT', hall⟩ := okL6_spec hW
  refine (fun_sound mixed (cfgW_ok hT) hG hf h4 hT' hn hp w vs hl (fun i x hx => ?_) (fun w' e => hw.ext e)).mono ?_
  · obtain ⟨v, h1, h2⟩ := hv i x hx
    exact ⟨fun _ => 0, v, h1, h2 _⟩
  · rintro e w' ⟨β, v, rfl, hh, ex⟩
    rw [allL6_out hall hh]
    exact ⟨rfl, ex⟩
def hf : Rat := Rat.divInt 1 2
section
variable {E : Env} {a b c : Rat}
end
end Go.Proofs.YtnejcdjakjmklaaGreatDoor
end

section
set_option maxRecDepth 100000
namespace Go.Proofs.YtnejcdjakjmklaaGreatDoor
open Go.RowKit Go.Shelf
end Go.Proofs.YtnejcdjakjmklaaGreatDoor
end

section
set_option maxRecDepth 100000
namespace Go.Proofs.YtnejcdjakjmklaaGreatDoor
open Go.RowKit Go.Shelf
end Go.Proofs.YtnejcdjakjmklaaGreatDoor
end

section
set_option maxRecDepth 100000
namespace Go.Proofs.YtnejcdjakjmklaaGreatDoor
open Go.ChangeShapes Go.WideShapes Go.ChangeAt Go.RowKit Go.Joins
def laidL6 : List (String × DataW Unit) := [("math/bits.deBruijn32tab", Rows.laid_math_bits_deBruijn32tab), ("math/bits.deBruijn64tab", Rows.laid_math_bits_deBruijn64tab), ("internal/strconv.uint64pow10", Rows.laid_internal_strconv_uint64pow10), ("unicode/utf8.acceptRanges", Rows.laid_unicode_utf8_acceptRanges), ("unicode/utf8.first", Rows.laid_unicode_utf8_first)]
theorem WT.laid6 {W : World} (h : laidMetH Tryz.prog laidL6 W) : WT W := by
  rw [MakeChecks.laidMetH_plain _ _ _ (by kernel_rfl)] at h
  have h2 := h.tail.tail
  rw [pow10_eq] at h2
  exact Lib.tabIs_of_head (g := 1) (by kernel_rfl) (t := 166) (by kernel_rfl) (n := 20) (e := 88) Tryz.underlying166 Tryz.underlying88 (by kernel_rfl) (by kernel_rfl) h2
theorem WQ.laid6 {W : World} (h : laidMetH Tryz.prog laidL6 W) (hs : W.ShapedOpen Tryz.prog) : WQ W := ⟨WM.shaped hs, WT.laid6 h⟩
theorem all_met (os : Os) (args : Array Value) : laidMetH Tryz.prog laidL6 ((World.laidAll Tryz.prog os laidL6).forCall (fun _ _ => 0) ⟨#[], args, []⟩).memory := by
  rw [MakeChecks.laidMetH_plain _ _ _ (by kernel_rfl)]
  exact laidMet_laidAll _ (by kernel_rfl) (by kernel_rfl)
end Go.Proofs.YtnejcdjakjmklaaGreatDoor
end

section
set_option maxRecDepth 100000
namespace Go.Proofs.YtnejcdjakjmklaaGreatDoor
open Go.RowKit Go.Shelf
def lays161_ren : Go.Shelf.Ren := ⟨fun | 161 => 95 | 231 => 147 | 227 => 148 | 233 => 149 | 235 => 150 | 228 => 184 | 197 => 185 | 151 => 186 | 260 => 206 | 152 => 207 | 137 => 217 | 119 => 218 | 224 => 182 | 225 => 181 | 217 => 180 | 266 => 204 | n => n, fun | 9 => 9 | 4 => 4 | 3 => 3 | 5 => 5 | 117 => 134 | 116 => 133 | 0 => 0 | 124 => 137 | 105 => 160 | 21 => 21 | 119 => 184 | 46 => 115 | 139 => 187 | 138 => 186 | n => n, fun | 3 => 2 | 4 => 3 | n => n⟩
theorem lays161 : Go.Proofs.Lays.n161 Tryz.prog lays161_ren := {
  mixed := by kernel_rfl
  f119 := Tryz.func218.trans (congrArg some (by kernel_rfl))
  f137 := Tryz.func217.trans (congrArg some (by kernel_rfl))
  f151 := Tryz.func186.trans (congrArg some (by kernel_rfl))
  f152 := Tryz.func207.trans (congrArg some (by kernel_rfl))
  f161 := Tryz.func95.trans (congrArg some (by kernel_rfl))
  f197 := Tryz.func185.trans (congrArg some (by kernel_rfl))
  f217 := Tryz.func180.trans (congrArg some (by kernel_rfl))
  f224 := Tryz.func182.trans (congrArg some (by kernel_rfl))
  f225 := Tryz.func181.trans (congrArg some (by kernel_rfl))
  f227 := Tryz.func148.trans (congrArg some (by kernel_rfl))
  f228 := Tryz.func184.trans (congrArg some (by kernel_rfl))
  f231 := Tryz.func147.trans (congrArg some (by kernel_rfl))
  f233 := Tryz.func149.trans (congrArg some (by kernel_rfl))
  f235 := Tryz.func150.trans (congrArg some (by kernel_rfl))
  f260 := Tryz.func206.trans (congrArg some (by kernel_rfl))
  f266 := Tryz.func204.trans (congrArg some (by kernel_rfl))
  t0 := Tryz.underlying0
  a0 := Tryz.isAgg0
  z0 := Tryz.sizeOf0
  v0 := Tryz.zeroValue0
  t3 := Tryz.underlying3
  a3 := Tryz.isAgg3
  z3 := Tryz.sizeOf3
  v3 := Tryz.zeroValue3
  t4 := Tryz.underlying4
  a4 := Tryz.isAgg4
  z4 := Tryz.sizeOf4
  v4 := Tryz.zeroValue4
  t5 := Tryz.underlying5
  a5 := Tryz.isAgg5
  z5 := Tryz.sizeOf5
  v5 := Tryz.zeroValue5
  t9 := Tryz.underlying9
  a9 := Tryz.isAgg9
  z9 := Tryz.sizeOf9
  v9 := Tryz.zeroValue9
  t21 := Tryz.underlying21
  a21 := Tryz.isAgg21
  z21 := Tryz.sizeOf21
  v21 := Tryz.zeroValue21
  t46 := Tryz.underlying115
  a46 := Tryz.isAgg115
  z46 := Tryz.sizeOf115
  v46 := Tryz.zeroValue115
  t105 := Tryz.underlying160
  a105 := Tryz.isAgg160
  z105 := Tryz.sizeOf160
  v105 := Tryz.zeroValue160
  t116 := Tryz.underlying133
  a116 := Tryz.isAgg133
  z116 := Tryz.sizeOf133
  t117 := Tryz.underlying134
  a117 := Tryz.isAgg134
  z117 := Tryz.sizeOf134
  v117 := Tryz.zeroValue134
  t119 := Tryz.underlying184
  a119 := Tryz.isAgg184
  z119 := Tryz.sizeOf184
  t124 := Tryz.underlying137
  a124 := Tryz.isAgg137
  z124 := Tryz.sizeOf137
  v124 := Tryz.zeroValue137
  t138 := Tryz.underlying186
  a138 := Tryz.isAgg186
  z138 := Tryz.sizeOf186
  v138 := Tryz.zeroValue186
  t139 := Tryz.underlying187
  a139 := Tryz.isAgg187
  z139 := Tryz.sizeOf187
  v139 := Tryz.zeroValue187
  g3 := by kernel_rfl
  g4 := by kernel_rfl }
def digs : List UInt8 := [48, 49, 50, 51, 52, 53, 54, 55, 56, 57]
theorem digs_iff (c : UInt8) : digs.contains c = digB c := by
  have h : ∀ n : Fin 256, digs.contains (UInt8.ofNat n.val) = digB (UInt8.ofNat n.val) := by decide +kernel
  have := h ⟨c.toNat, c.toNat_lt⟩
  rwa [UInt8.ofNat_toNat] at this
theorem trimDig_calls (w : World) (s : ByteArray) : Calls Tryz.prog 95 #[.string s, .string ⟨#[48, 49, 50, 51, 52, 53, 54, 55, 56, 57]⟩] w fun e w' => e = .returned (.string ⟨(s.data.toList.dropWhile digB).toArray⟩) ∧ Ext w w' := by
  refine (Any.strings_TrimLeft_laid lays161 (by kernel_rfl) s ⟨#[48, 49, 50, 51, 52, 53, 54, 55, 56, 57]⟩ w (by decide) (ascii_of_all (by decide))).mono ?_
  rintro e w' ⟨rfl, ex⟩
  refine ⟨?_, ex⟩
  show Ending.returned (.string ⟨(s.data.toList.dropWhile (digs.contains ·)).toArray⟩) = _
  rw [show (fun c => digs.contains c) = digB from funext digs_iff]
theorem trimZero_calls (w : World) (s : ByteArray) : Calls Tryz.prog 95 #[.string s, .string ⟨#[48]⟩] w fun e w' => e = .returned (.string ⟨(Lib.trimLeftB s.data.toList 48).toArray⟩) ∧ w' = w :=
  Any.strings_TrimLeft_one lays161 s 48 (by decide) w
theorem dropWhile_nil {l : List UInt8} {p : UInt8 → Bool} : l.dropWhile p = [] ↔ l.all p = true := by
  induction l with
  | nil => simp
  | cons a l ih =>
    rw [List.dropWhile_cons, List.all_cons]
    cases h : p a <;> simp [ih]
def dgB (l : List UInt8) : Bool := !l.isEmpty && l.all digB
theorem isDigits_calls (w : World) (s : ByteArray) : Calls Tryz.prog 94 #[.string s] w fun e w' => e = .returned (.bool (dgB s.data.toList)) ∧ Ext w w' := by
  cases hl : s.data.toList with
  | nil =>
    have e1 : s.toList = [] := by rw [ByteArray.toList_eq, hl]
    have e2 : s.toList.isEmpty = true := by rw [e1]; rfl
    clear hl
    go_enter Tryz.func94, Tryz.ntmps94
    go_wp2
    go_ret
    exact ⟨rfl, Ext.refl w⟩
  | cons c r =>
    have hne : s.toList.isEmpty = false := by rw [ByteArray.toList_eq, hl]; rfl
    have hne2 : (!s.toList.isEmpty) = true := by rw [hne]; rfl
    have hne3 : ¬ s.toList = [] := by intro e; rw [e] at hne; cases hne
    have ht := trimDig_calls w s
    rw [hl] at ht
    clear hl
    go_enter Tryz.func94, Tryz.ntmps94
    go_wp2_with fail
    refine ht.mono ?_
    rintro e w' ⟨rfl, ex⟩
    cases hd : (c :: r).all digB with
    | true =>
      have hd' : (c :: r).dropWhile digB = [] := dropWhile_nil.2 hd
      rw [hd']
      go_wp2
      go_ret
      refine ⟨?_, ex⟩
      unfold dgB
      rw [hd]
      rfl
    | false =>
      obtain ⟨x, t, hx⟩ : ∃ x t, (c :: r).dropWhile digB = x :: t := by
        cases hh : (c :: r).dropWhile digB with
        | nil => rw [dropWhile_nil.1 hh] at hd; cases hd
        | cons x t => exact ⟨x, t, rfl⟩
      rw [hx]
      obtain ⟨T, hT⟩ : ∃ T : ByteArray, T = ⟨(x :: t).toArray⟩ := ⟨_, rfl⟩
      have tne : T.toList.isEmpty = false := by rw [ByteArray.toList_eq, hT]; rfl
      have tne2 : (!T.toList.isEmpty) = true := by rw [tne]; rfl
      have tne3 : ¬ T.toList = [] := by intro e; rw [e] at tne; cases tne
      rw [← hT]
      clear hT hx
      go_wp2
      go_ret
      refine ⟨?_, ex⟩
      unfold dgB
      rw [hd]
      simp
theorem isFraction_calls (w : World) (s : ByteArray) (hs : s.size ≤ 65536) : Calls Tryz.prog 48 #[.string s] w fun e w' => e = .returned (.bool (dgB s.data.toList && decide (s.size ≤ 30))) ∧ Ext w w' := by
  go_enter Tryz.func48, Tryz.ntmps48
  go_wp2_with fail
  refine (isDigits_calls w s).mono ?_
  rintro e w' ⟨rfl, ex⟩
  cases hd : dgB s.data.toList with
  | false =>
    go_wp2
    go_ret
    exact ⟨by rw [hd]; rfl, ex⟩
  | true =>
    go_wp2
    go_ret
    refine ⟨?_, ex⟩
    rw [hd, Bool.true_and]
    exact congrArg (fun b => Ending.returned (.bool b)) (decide_eq_decide.2 (by omega))
theorem numB_eq (l : List UInt8) : numB l = (l == [48] || (dgB l && !(l.headD 0 == 48))) := by
  unfold numB dgB
  match l with
  | [] => rfl
  | [c] =>
    by_cases hc : c = 48
    · subst hc; rfl
    · have h1 : (c == 48) = false := beq_eq_false_iff_ne.2 hc
      have h2 : (([c] : List UInt8) == [48]) = false := beq_eq_false_iff_ne.2 (fun e => hc (by injection e))
      simp [h1, h2, Bool.and_comm]
  | c :: d :: r =>
    have h2 : ((c :: d :: r) == [48]) = false := beq_eq_false_iff_ne.2 (fun e => by injection e with _ e; cases e)
    simp [h2, Bool.and_comm]
theorem isWhole_calls (w : World) (s : ByteArray) : Calls Tryz.prog 47 #[.string s] w fun e w' => e = .returned (.bool (numB s.data.toList)) ∧ Ext w w' := by
  by_cases hz : s.data.toList = [48]
  · have e1 : s.toList = [48] := by rw [ByteArray.toList_eq, hz]
    have e2 : (s.toList == [48]) = true := by rw [e1]; rfl
    have hn : numB s.data.toList = true := by rw [hz]; rfl
    go_enter Tryz.func47, Tryz.ntmps47
    go_wp2
    go_ret
    exact ⟨by rw [hn]; rfl, Ext.refl w⟩
  · have e1 : ¬ s.toList = [48] := by rw [ByteArray.toList_eq]; exact hz
    have e2 : (s.toList == [48]) = false := beq_eq_false_iff_ne.2 e1
    have hq : (s.data.toList == [48]) = false := beq_eq_false_iff_ne.2 hz
    have hn := numB_eq s.data.toList
    rw [hq, Bool.false_or] at hn
    clear hq hz
    go_enter Tryz.func47, Tryz.ntmps47
    go_wp2_with fail
    refine (isDigits_calls w s).mono ?_
    rintro e w' ⟨rfl, ex⟩
    cases hd : dgB s.data.toList with
    | false =>
      go_wp2
      go_ret
      exact ⟨by rw [hn, hd]; rfl, ex⟩
    | true =>
      obtain ⟨c, r, hl⟩ : ∃ c r, s.data.toList = c :: r := by
        cases hh : s.data.toList with
        | nil => rw [hh] at hd; cases hd
        | cons c r => exact ⟨c, r, rfl⟩
      have hsz : 0 < s.size := by rw [← bytes_len, hl]; simp
      have hx0 : s[0] = c := by
        have : s.data.toList[0]'(by rw [hl]; simp) = c := by simp [hl]
        exact this
      rw [hd, hl, Bool.true_and] at hn
      have hl0 := hl
      clear hd hl
      go_wp2
      go_ret
      refine ⟨?_, ex⟩
      rw [hl0, hn]
      refine congrArg (fun b => Ending.returned (.bool b)) ?_
      show (((c.toNat : Nat) : Int) != 48) = !(c == 48)
      by_cases hc : c = 48
      · subst hc; rfl
      · have h1 : ((c.toNat : Nat) : Int) ≠ 48 := fun e => hc (UInt8.toNat_inj.1 (by show c.toNat = 48; omega))
        rw [bne_iff_ne.2 h1, beq_eq_false_iff_ne.2 hc]
        rfl
def cStr (i : Nat) : List AV → Bool
  | [.val false [.str (.var j) _]] => i == j
  | _ => false
def cStrL (i : Nat) (l : List UInt8) : List AV → Bool
  | [.val false [.str (.var j) _], .val false [.str (.lit m) _]] => i == j && l == m
  | _ => false
theorem str1_known {E : Env} {f i : Nat} {r : AV} (np : ∀ x off, r ≠ .ptr x off) (h : ∀ w, Calls Tryz.prog f #[.string ⟨(E.s i).toArray⟩] w fun e w' => ∃ x, e = .returned x ∧ (∀ β, r.holds E β w' x) ∧ Ext w w') : KnownR E f (cStr i) r := by
  refine ⟨?_, np⟩
  intro args hc β w vs hv hl
  unfold cStr at hc
  split at hc
  · rw [beq_iff_eq] at hc
    subst hc
    obtain ⟨v, rfl, h1⟩ := args1 hv hl
    rw [(one_str.1 h1).1]
    exact h w
  · cases hc
theorem str2_known {E : Env} {f i : Nat} {l : List UInt8} {r : AV} (np : ∀ x off, r ≠ .ptr x off) (h : ∀ w, Calls Tryz.prog f #[.string ⟨(E.s i).toArray⟩, .string ⟨l.toArray⟩] w fun e w' => ∃ x, e = .returned x ∧ (∀ β, r.holds E β w' x) ∧ Ext w w') : KnownR E f (cStrL i l) r := by
  refine ⟨?_, np⟩
  intro args hc β w vs hv hl
  unfold cStrL at hc
  split at hc
  · rw [Bool.and_eq_true, beq_iff_eq, beq_iff_eq] at hc
    obtain ⟨rfl, rfl⟩ := hc
    obtain ⟨v, u, rfl, h1, h2⟩ := args2 hv hl
    rw [(one_str.1 h1).1, (one_str.1 h2).1]
    exact h w
  · cases hc
def tzL (l : List UInt8) : List UInt8 := Lib.trimLeftB l 48
def vO (l : List UInt8) : Int := if tzL l = [] then 0 else pZ (tzL l)
noncomputable def tabVo : List (Nat × Con) := [(95, kKq (cStrL 0 [48]) (.val false [.str (.var 1) 65536]) kNoQ), (96, kKq (cStr 1) (.tup [(true, [.int (.var 0) 7282]), (false, [.n .i64 (.var 1)])]) kNoQ)]
def isVo : Option Tree → Bool
  | some (.ite (.seq (.var 1) (.lit [])) (.leaf [(true, [.int (.lit 0) _])]) (.leaf [(true, [.int (.var 0) _])])) => true
  | _ => false
theorem vo_walk : isVo (funE (cfgOf tabVo) Tryz.f49 [] [.val false [.str (.var 0) 65536]]) = true := by kernel_rfl
theorem tzL_len (l : List UInt8) : (tzL l).length ≤ l.length := by
  unfold tzL Lib.trimLeftB
  exact List.Sublist.length_le (List.dropWhile_sublist _)
theorem dv_zero (l : List UInt8) : dv (48 :: l) = dv l := rfl
theorem dv_tz : ∀ l : List UInt8, dv (tzL l) = dv l
  | [] => rfl
  | c :: l => by
    unfold tzL Lib.trimLeftB
    rw [List.dropWhile_cons]
    split
    · rename_i h
      have hc : c = 48 := by simpa using h
      subst hc
      rw [dv_zero]
      exact dv_tz l
    · rfl
theorem tz_head : ∀ (l : List UInt8) (c : UInt8) (r : List UInt8), tzL l = c :: r → c ≠ 48
  | [], c, r, h => by cases h
  | a :: l, c, r, h => by
    unfold tzL Lib.trimLeftB at h
    rw [List.dropWhile_cons] at h
    split at h
    · exact tz_head l c r h
    · rename_i hne
      injection h with h1 h2
      subst h1
      simpa using hne
theorem tz_all : ∀ (l : List UInt8), l.all digB = true → (tzL l).all digB = true
  | [], h => h
  | a :: l, h => by
    unfold tzL Lib.trimLeftB
    rw [List.dropWhile_cons]
    split
    · rw [List.all_cons, Bool.and_eq_true] at h
      exact tz_all l h.2
    · exact h
theorem vO_dv {l : List UInt8} (hl : l.length ≤ 65536) (h : l.all digB = true) : vO l = dv l := by
  unfold vO
  split
  · rename_i h0
    have := dv_tz l
    rw [h0] at this
    rw [← this]
    rfl
  · rename_i h0
    cases hh : tzL l with
    | nil => exact absurd hh h0
    | cons c r =>
      have hc := tz_head l c r hh
      have ha := tz_all l h
      rw [hh] at ha
      have hl2 := tzL_len l
      rw [hh] at hl2
      have hd : digB c = true := by rw [List.all_cons, Bool.and_eq_true] at ha; exact ha.1
      have hc45 : c ≠ 45 := by rintro rfl; revert hd; decide
      have hneg : negL (c :: r) = false := by
        unfold negL Lib.hasPrefix
        have h45 : ((45 : UInt8) == c) = false := beq_eq_false_iff_ne.2 (fun e => hc45 e.symm)
        simp only [List.isPrefixOf, h45, Bool.false_and]
      have hdig : digL (c :: r) = c :: r := by
        unfold digL Lib.trimPrefix
        have h2 : Lib.hasPrefix (c :: r) [45] = false := hneg
        rw [h2]; rfl
      have hn : numB (c :: r) = true := by
        rw [numB_eq]
        have e1 : ((c :: r).headD 0 == 48) = false := beq_eq_false_iff_ne.2 hc
        rw [e1]
        unfold dgB
        rw [ha]
        cases ((c :: r) == [48]) <;> rfl
      have hok : parseOK (c :: r) = true := by
        unfold parseOK
        rw [hneg, hdig, hn, decide_eq_true (by omega)]
        rfl
      unfold pZ parseV
      rw [if_pos hok, hneg, hdig, ← hh, dv_tz l]
      rfl
theorem bytes_size (l : List UInt8) : (⟨l.toArray⟩ : ByteArray).size = l.length := by simp [ByteArray.size]
theorem dvalueOf_calls (w : World) (l : List UInt8) (hl : l.length ≤ 65536) : Calls Tryz.prog 49 #[.string ⟨l.toArray⟩] w (Ret (fun v w' => IsInt w' v (vO l)) w) := by
  obtain ⟨E, hE⟩ : ∃ E, E = sE [l, tzL l] [pZ (tzL l), pE (tzL l)] [] := ⟨_, rfl⟩
  have s0 : E.s 0 = l := by rw [hE]; rfl
  have s1 : E.s 1 = tzL l := by rw [hE]; rfl
  have i0 : E.i 0 = pZ (tzL l) := by rw [hE]; rfl
  have i1 : E.i 1 = pE (tzL l) := by rw [hE]; rfl
  have ht : (tzL l).length ≤ 65536 := Nat.le_trans (tzL_len l) hl
  have hT : TabOK Tryz.prog E tabVo :=
    .cons (kKr_ok (str2_known (fun x off e => by cases e) fun w => by
      rw [s0]
      refine (trimZero_calls w ⟨l.toArray⟩).mono ?_
      rintro e w' ⟨rfl, rfl⟩
      exact ⟨_, rfl, fun β => one_str.2 ⟨by show _ = Value.string ⟨(E.s 1).toArray⟩; rw [s1]; rfl, by show (E.s 1).length ≤ _; rw [s1]; exact ht⟩, Ext.refl _⟩) (kNoQ_ok ⟨_, Tryz.func95, by decide +kernel, by kernel_rfl⟩)) <|
    .cons (kKr_ok (str1_known (fun x off e => by cases e) fun w => by
      rw [s1]
      refine (parse_list w (tzL l) ht).mono ?_
      rintro e w' ⟨u, rfl, h2, ex⟩
      refine ⟨_, rfl, fun β => ⟨[u, .int .i64 _], rfl, u, _, rfl, one_int.2 ?_, _, _, rfl, one_num.2 ?_, rfl⟩, ex⟩
      · show IsInt w' u (E.i 0) ∧ Lim 7282 (E.i 0)
        rw [i0]
        exact ⟨h2, (pZ_lim ht).mono (by omega)⟩
      · show _ = Value.int .i64 (E.i 1)
        rw [i1]) (kNoQ_ok ⟨_, Tryz.func96, by decide +kernel, by kernel_rfl⟩)) .nil
  have hW := vo_walk
  unfold isVo at hW
  split at hW
  · rename_i l1 l2 hTe
    refine (fun_sound mixed (cfg_ok hT) no_asm Tryz.func49 (by decide +kernel) hTe (by decide +kernel) rfl w [.string ⟨l.toArray⟩] rfl ?_).mono ?_
    · intro i x hx
      match i, hx with
      | 0, hx => injection hx with hx; subst hx; exact ⟨fun _ => 0, _, rfl, one_str.2 ⟨by show _ = Value.string ⟨(E.s 0).toArray⟩; rw [s0], by show (E.s 0).length ≤ _; rw [s0]; exact hl⟩⟩
    · rintro e w' ⟨β, u, rfl, hh, ex⟩
      refine ⟨u, rfl, ?_, ex⟩
      simp only [Tree.pick] at hh
      have hd : (BT.seq (.var 1) (.lit [])).den E = decide (tzL l = []) := by
        show (E.s 1 == []) = _
        rw [s1, Bool.eq_iff_iff, beq_iff_eq, decide_eq_true_iff]
      rw [hd] at hh
      unfold vO
      by_cases h0 : tzL l = []
      · rw [decide_eq_true h0, if_pos rfl] at hh
        rw [if_pos h0]
        exact (one_int.1 hh).1
      · rw [decide_eq_false h0, if_neg (by simp)] at hh
        rw [if_neg h0, ← i0]
        exact (one_int.1 hh).1
  · cases hW
def isLitI (z : Int) : Option Tree → Bool
  | some (.leaf [(true, [.int t m])]) => t.cl == some z && decide (m ≤ 100)
  | _ => false
theorem p10_walk : ((List.range 31).all fun n => isLitI ((10 : Int) ^ n) (funE (cfgOf tabInt) Tryz.f53 [] [.val false [.n .i64 (.lit (n : Int))]])) = true := by kernel_rfl
end Go.Proofs.YtnejcdjakjmklaaGreatDoor
end

section
set_option maxRecDepth 100000
namespace Go.Proofs.YtnejcdjakjmklaaGreatDoor
open Go.RowKit Go.Shelf
def cCat : List AV → Bool
  | [.val false [.str (.cat (.var 2) (.var 3)) _]] => true
  | _ => false
def cSl3 : List AV → Bool
  | [.val false [.n .i64 (.slen 3)]] => true
  | _ => false
def cZZ (t u : IT) : List AV → Bool
  | [.val true [.int x _], .val true [.int y _]] => x.beq t && y.beq u
  | _ => false
def rPd : AV := .tup [(true, [.int (.var 4) 8000, .int (.var 5) 8000]), (false, [.n .i64 (.lit 0)])]
def sgT (neg : Bool) : IT := if neg then .a1 0 (.var 0) else .var 0
noncomputable def tabPd (ok neg : Bool) : List (Nat × Con) :=
  (45, kKq (cStrL 0 [45]) (.tup [(false, [.str (.var 1) 65536]), (false, [.b (.var 0)])]) kNoQ) ::
  (46, kKq (cStrL 1 [46]) (.tup [(false, [.str (.var 2) 65536]), (false, [.str (.var 3) 65536]), (false, [.b (.var 1)])]) kNoQ) ::
  (47, kKq (cStr 2) (.val false [.b (.var 2)]) kNoQ) :: (48, kKq (cStr 3) (.val false [.b (.var 3)]) kNoQ) ::
  (49, kKq cCat (.val true [.int (.var 0) 7282]) kNoQ) ::
  (53, if ok then kKq cSl3 (.val true [.int (.var 2) 100]) kNoQ else kNoQ) ::
  (52, if ok then kKq (cZZ (sgT neg) (.var 2)) rPd kNoQ else kNoQ) :: tabInt
def gPd (neg pt wh fr z : Bool) : Asm := [(.lt (.lit 65536) (.slen 0), false), (.var 0, neg), (.var 1, pt), (.var 2, wh), (.var 3, fr), (.eq (.a2 3 (.var 0) (.lit 0)) (.lit 0), z)]
def vPd (pt wh fr : Bool) : Bool := wh && (!pt || fr)
def isPdR (ok : Bool) : Option Tree → Bool
  | some (.leaf [(true, [.int (.var 4) _, .int (.var 5) _]), (false, [.n .i64 (.lit 0)])]) => ok
  | some (.leaf [(true, [.int (.lit 0) _, .int (.lit 0) _]), (false, [.n .i64 (.lit 2)])]) => !ok
  | _ => false
noncomputable def pdW (neg pt wh fr z : Bool) : Option Tree := funE (cfgW WQ (tabPd (vPd pt wh fr) neg)) Tryz.f11 (gPd neg pt wh fr z) [.val false [.str (.var 0) 65536]]
theorem pd_walk : (bools.all fun neg => bools.all fun pt => bools.all fun wh => bools.all fun fr => bools.all fun z => isPdR (vPd pt wh fr && !(neg && z)) (pdW neg pt wh fr z)) = true := by kernel_rfl
end Go.Proofs.YtnejcdjakjmklaaGreatDoor
end

section
set_option maxRecDepth 100000
namespace Go.Proofs.YtnejcdjakjmklaaGreatDoor
open Go.RowKit Go.Shelf
def whD (l : List UInt8) : List UInt8 := (Lib.cut (digL l) [46]).1
def frD (l : List UInt8) : List UInt8 := (Lib.cut (digL l) [46]).2.1
def ptD (l : List UInt8) : Bool := (Lib.cut (digL l) [46]).2.2
def fOK (l : List UInt8) : Bool := dgB (frD l) && decide ((frD l).length ≤ 30)
def nD (l : List UInt8) : Int := vO (whD l ++ frD l)
def sgD (l : List UInt8) : Int := if negL l then -(nD l) else nD l
def qD (l : List UInt8) : Rat := Rat.divInt (sgD l) ((10 : Int) ^ (frD l).length)
def okD (l : List UInt8) : Bool := vPd (ptD l) (numB (whD l)) (fOK l) && !(negL l && decide (nD l = 0))
theorem cut_sum (l s : List UInt8) : (Lib.cut l s).1.length + (Lib.cut l s).2.1.length ≤ l.length := by
  unfold Lib.cut
  split
  · rename_i h
    have := Lib.index_le l s
    simp only [List.length_take, List.length_drop]
    omega
  · simp
theorem fr_nopt (l : List UInt8) (h : ptD l = false) : frD l = [] := by
  unfold ptD at h
  unfold frD
  unfold Lib.cut at h ⊢
  split at h
  · cases h
  · rename_i hn; rw [if_neg hn]
theorem p10_calls (w : World) (n : Nat) (hn : n ≤ 30) : Calls Tryz.prog 53 #[.int .i64 (n : Int)] w (Ret (fun v w' => IsInt w' v ((10 : Int) ^ n) ∧ Lim 100 ((10 : Int) ^ n)) w) := by
  have hW := List.all_eq_true.1 p10_walk n (List.mem_range.2 (by omega))
  unfold isLitI at hW
  split at hW
  · rename_i t m hTe
    rw [Bool.and_eq_true, beq_iff_eq, decide_eq_true_iff] at hW
    refine (fun_sound (E := qE []) mixed (cfg_ok tabInt_ok) no_asm Tryz.func53 (by decide +kernel) hTe (by show 1 ≤ _; decide +kernel) rfl w [.int .i64 (n : Int)] rfl ?_).mono ?_
    · intro i x hx
      match i, hx with
      | 0, hx => injection hx with hx; subst hx; exact ⟨fun _ => 0, _, rfl, one_num.2 rfl⟩
    · rintro e w' ⟨β, v, rfl, hh, ex⟩
      obtain ⟨k1, k2⟩ := one_int.1 hh
      rw [IT.cl_spec hW.1] at k1 k2
      exact ⟨v, rfl, ⟨k1, k2.mono hW.2⟩, ex⟩
  · cases hW
theorem vO_lim {l : List UInt8} (hl : l.length ≤ 65536) : Lim 7282 (vO l) := by
  unfold vO
  split
  · exact lim_zero
  · exact (pZ_lim (Nat.le_trans (tzL_len l) hl)).mono (by omega)
theorem cutW_ok {E : Env} {l : List UInt8} (s1 : E.s 1 = l) (hl : l.length ≤ 65536) (s2 : E.s 2 = (Lib.cut l [46]).1) (s3 : E.s 3 = (Lib.cut l [46]).2.1) (b1 : E.b 1 = (Lib.cut l [46]).2.2) :
    ConW Tryz.prog WQ E 46 (kKq (cStrL 1 [46]) (.tup [(false, [.str (.var 2) 65536]), (false, [.str (.var 3) 65536]), (false, [.b (.var 1)])]) kNoQ) := by
  refine ⟨?_, ?_, ⟨_, Tryz.func46, by decide +kernel, by kernel_rfl⟩⟩
  · intro args G r h hG β w vs hW hv hlen
    unfold kKq at h
    split at h
    · rename_i hc
      injection h with h
      subst h
      unfold cStrL at hc
      split at hc
      · rw [Bool.and_eq_true, beq_iff_eq, beq_iff_eq] at hc
        obtain ⟨rfl, rfl⟩ := hc
        obtain ⟨v, u, rfl, h1, h2⟩ := args2 hv hlen
        rw [(one_str.1 h1).1, (one_str.1 h2).1]
        have hs : (E.s 1).length ≤ 65536 := by rw [s1]; exact hl
        refine (cutS_calls w hW.1 ⟨(E.s 1).toArray⟩ ⟨#[46]⟩ (by rw [bytes_size]; omega)).mono ?_
        rintro e w' ⟨rfl, ex⟩
        have cl := cut_sum l [46]
        refine ⟨_, rfl, ⟨[_, _, _], rfl, _, _, rfl, one_str.2 ⟨?_, ?_⟩, _, _, rfl, one_str.2 ⟨?_, ?_⟩, _, _, rfl, one_bool.2 ?_, rfl⟩, ex⟩
        · show _ = Value.string ⟨(E.s 2).toArray⟩; rw [s2, ← s1]
        · show (E.s 2).length ≤ _; rw [s2]; omega
        · show _ = Value.string ⟨(E.s 3).toArray⟩; rw [s3, ← s1]
        · show (E.s 3).length ≤ _; rw [s3]; omega
        · show _ = Value.bool (E.b 1); rw [b1, ← s1]
      · cases hc
    · cases h
  · intro args G r h x off
    unfold kKq at h
    split at h
    · injection h with h; subst h; intro e; cases e
    · cases h
theorem isPdR_spec {ok : Bool} {o : Option Tree} (h : isPdR ok o = true) : (ok = true ∧ ∃ m k, o = some (.leaf [(true, [.int (.var 4) m, .int (.var 5) k]), (false, [.n .i64 (.lit 0)])])) ∨ (ok = false ∧ ∃ m k, o = some (.leaf [(true, [.int (.lit 0) m, .int (.lit 0) k]), (false, [.n .i64 (.lit 2)])])) := by
  unfold isPdR at h
  split at h
  · exact .inl ⟨h, _, _, rfl⟩
  · exact .inr ⟨by simpa using h, _, _, rfl⟩
  · cases h
def RetPd (l : List UInt8) (w : World) (e : Ending) (w' : World) : Prop := ∃ v, e = .returned (.tuple #[v, .int .i64 (if okD l then 0 else 2)]) ∧ (if okD l then IsRat w' v (qD l) else IsPair w' v 0 0) ∧ Ext w w'
theorem dparse_calls (w : World) (hW : WQ w) (l : List UInt8) (hl : l.length ≤ 65536) : Calls Tryz.prog 11 #[.string ⟨l.toArray⟩] w (RetPd l w) := by
  obtain ⟨E, hE⟩ : ∃ E, E = sE [l, digL l, whD l, frD l] [nD l, 0, (10 : Int) ^ (frD l).length, 0, (qD l).num, ((qD l).den : Int)] [negL l, ptD l, numB (whD l), fOK l] := ⟨_, rfl⟩
  have s0 : E.s 0 = l := by rw [hE]; rfl
  have s1 : E.s 1 = digL l := by rw [hE]; rfl
  have s2 : E.s 2 = whD l := by rw [hE]; rfl
  have s3 : E.s 3 = frD l := by rw [hE]; rfl
  have i0 : E.i 0 = nD l := by rw [hE]; rfl
  have i2 : E.i 2 = (10 : Int) ^ (frD l).length := by rw [hE]; rfl
  have i4 : E.i 4 = (qD l).num := by rw [hE]; rfl
  have i5 : E.i 5 = ((qD l).den : Int) := by rw [hE]; rfl
  have b0 : E.b 0 = negL l := by rw [hE]; rfl
  have b1 : E.b 1 = ptD l := by rw [hE]; rfl
  have b2 : E.b 2 = numB (whD l) := by rw [hE]; rfl
  have b3 : E.b 3 = fOK l := by rw [hE]; rfl
  clear hE
  have dl := digL_len l
  have cl := cut_sum (digL l) [46]
  have hw : (whD l).length ≤ 65536 := by unfold whD; omega
  have hf : (frD l).length ≤ 65536 := by unfold frD; omega
  have hwf : (whD l ++ frD l).length ≤ 65536 := by rw [List.length_append]; unfold whD frD; omega
  have nl : Lim 7282 (nD l) := vO_lim hwf
  have k30 : vPd (ptD l) (numB (whD l)) (fOK l) = true → (frD l).length ≤ 30 := by
    intro h
    unfold vPd at h
    rw [Bool.and_eq_true] at h
    cases hp : ptD l with
    | false => rw [fr_nopt l hp]; simp
    | true =>
      rw [hp] at h
      have h2 : fOK l = true := by simpa using h.2
      unfold fOK at h2
      rw [Bool.and_eq_true, decide_eq_true_iff] at h2
      exact h2.2
  have p0 : (10 : Int) ^ (frD l).length ≠ 0 := Int.ne_of_gt (Int.pow_pos (by decide))
  have cp : ConOK Tryz.prog E 45 (kKq (cStrL 0 [45]) (.tup [(false, [.str (.var 1) 65536]), (false, [.b (.var 0)])]) kNoQ) := kKr_ok (str2_known (fun x off e => by cases e) fun w => by
    rw [s0]
    refine (cut_calls w ⟨l.toArray⟩).mono ?_
    rintro e w' ⟨D, rfl, hD, rfl⟩
    have hD' : D = ⟨(digL l).toArray⟩ := ByteArray.ext (Array.toList_inj.1 hD)
    subst hD'
    exact ⟨_, rfl, fun β => ⟨[_, _], rfl, _, _, rfl, one_str.2 ⟨by show _ = Value.string ⟨(E.s 1).toArray⟩; rw [s1], by show (E.s 1).length ≤ _; rw [s1]; omega⟩, _, _, rfl, one_bool.2 (by show _ = Value.bool (E.b 0); rw [b0]), rfl⟩, Ext.refl _⟩) (kNoQ_ok ⟨_, Tryz.func45, by decide +kernel, by kernel_rfl⟩)
  have ciw : ConOK Tryz.prog E 47 (kKq (cStr 2) (.val false [.b (.var 2)]) kNoQ) := kKr_ok (str1_known (fun x off e => by cases e) fun w => by
    rw [s2]
    refine (isWhole_calls w ⟨(whD l).toArray⟩).mono ?_
    rintro e w' ⟨rfl, ex⟩
    exact ⟨_, rfl, fun β => one_bool.2 (by show _ = Value.bool (E.b 2); rw [b2]), ex⟩) (kNoQ_ok ⟨_, Tryz.func47, by decide +kernel, by kernel_rfl⟩)
  have cif : ConOK Tryz.prog E 48 (kKq (cStr 3) (.val false [.b (.var 3)]) kNoQ) := kKr_ok (str1_known (fun x off e => by cases e) fun w => by
    rw [s3]
    refine (isFraction_calls w ⟨(frD l).toArray⟩ (by rw [bytes_size]; exact hf)).mono ?_
    rintro e w' ⟨rfl, ex⟩
    exact ⟨_, rfl, fun β => one_bool.2 (by show _ = Value.bool (E.b 3); rw [b3, bytes_size]; rfl), ex⟩) (kNoQ_ok ⟨_, Tryz.func48, by decide +kernel, by kernel_rfl⟩)
  have cvo : ConOK Tryz.prog E 49 (kKq cCat (.val true [.int (.var 0) 7282]) kNoQ) := by
    refine kKr_ok ⟨?_, fun x off e => by cases e⟩ (kNoQ_ok ⟨_, Tryz.func49, by decide +kernel, by kernel_rfl⟩)
    intro args hc β w vs hv hlen
    unfold cCat at hc
    split at hc
    · obtain ⟨v, rfl, h1⟩ := args1 hv hlen
      have e := (one_str.1 h1).1
      have e2 : (ST.cat (.var 2) (.var 3)).den E = whD l ++ frD l := by show E.s 2 ++ E.s 3 = _; rw [s2, s3]
      rw [e2] at e
      subst e
      refine (dvalueOf_calls w (whD l ++ frD l) hwf).mono ?_
      rintro e w' ⟨v, rfl, hv, ex⟩
      exact ⟨v, rfl, fun β => one_int.2 (by show IsInt w' v (E.i 0) ∧ Lim 7282 (E.i 0); rw [i0]; exact ⟨hv, nl⟩), ex⟩
    · cases hc
  have hT : TabW Tryz.prog WQ E (tabPd (vPd (ptD l) (numB (whD l)) (fOK l)) (negL l)) := by
    refine .cons cp.toW <| .cons (cutW_ok (l := digL l) s1 (by omega) s2 s3 b1) <| .cons ciw.toW <| .cons cif.toW <| .cons cvo.toW <| .cons (ConOK.toW ?_) <| .cons (ConOK.toW ?_) tabInt_ok.toW
    · split
      · rename_i hok
        have hk := k30 hok
        refine kKr_ok ⟨?_, fun x off e => by cases e⟩ (kNoQ_ok ⟨_, Tryz.func53, by decide +kernel, by kernel_rfl⟩)
        intro args hc β w vs hv hlen
        unfold cSl3 at hc
        split at hc
        · obtain ⟨v, rfl, h1⟩ := args1 hv hlen
          have e := one_num.1 h1
          have e2 : (IT.slen 3).den E = ((frD l).length : Int) := by show ((E.s 3).length : Int) = _; rw [s3]
          rw [e2] at e
          subst e
          refine (p10_calls w _ hk).mono ?_
          rintro e w' ⟨v, rfl, hv, ex⟩
          exact ⟨v, rfl, fun β => one_int.2 (by show IsInt w' v (E.i 2) ∧ Lim 100 (E.i 2); rw [i2]; exact hv), ex⟩
        · cases hc
      · exact kNoQ_ok ⟨_, Tryz.func53, by decide +kernel, by kernel_rfl⟩
    · split
      · rename_i hok
        have hk := k30 hok
        refine kKr_ok ⟨?_, fun x off e => by cases e⟩ (kNoQ_ok ⟨_, Tryz.func52, by decide +kernel, by kernel_rfl⟩)
        intro args hc β w vs hv hlen
        unfold cZZ at hc
        split at hc
        · rw [Bool.and_eq_true] at hc
          have e1 := IT.eq_of_beq hc.1
          have e2 := IT.eq_of_beq hc.2
          subst e1 e2
          obtain ⟨v, u, rfl, h1, h2⟩ := args2 hv hlen
          have k1 := (one_int.1 h1).1
          have k2 := (one_int.1 h2).1
          have d1 : (sgT (negL l)).den E = sgD l := by
            unfold sgT sgD
            cases negL l
            · exact i0
            · show -(E.i 0) = -(nD l); rw [i0]
          have d2 : (IT.var 2).den E = (10 : Int) ^ (frD l).length := i2
          rw [d1] at k1
          rw [d2] at k2
          have sl : Lim 7282 (sgD l) := by
            unfold sgD
            split
            · exact nl.neg
            · exact nl
          have pl : Lim 100 ((10 : Int) ^ (frD l).length) := by
            refine limbs_len_le ?_
            rw [Int.natAbs_pow]
            refine Nat.lt_of_le_of_lt (Nat.pow_le_pow_right (by decide) hk) ?_
            decide +kernel
          refine (make_calls w v u (sgD l) _ k1 k2 (sl.mono (by omega)) (pl.mono (by omega))).mono ?_
          rintro e w' ⟨x, y, z, t, rfl, j1, j2, ex⟩
          have q2 := divInt_lim sl pl p0
          have de0 : de ((10 : Int) ^ (frD l).length) = 0 := by unfold de; rw [if_neg p0]
          have dz : denZ (sgD l) ((10 : Int) ^ (frD l).length) = ((qD l).den : Int) := by unfold denZ; rw [if_neg p0]; rfl
          refine ⟨_, rfl, fun β => ⟨[.agg #[x, y, z, t], .int .i64 _], rfl, _, _, rfl, ⟨[x, y, z, t], rfl, [x, y], [z, t], rfl, ⟨x, y, rfl, ?_, ?_⟩, [z, t], [], rfl, ⟨z, t, rfl, ?_, ?_⟩, rfl⟩, _, _, rfl, one_num.2 ?_, rfl⟩, ex⟩
          · show IsInt w' _ (E.i 4); rw [i4]; exact j1
          · show Lim 8000 (E.i 4); rw [i4]; exact q2.1.mono (by omega)
          · show IsInt w' _ (E.i 5); rw [i5, ← dz]; exact j2
          · show Lim 8000 (E.i 5); rw [i5]; exact q2.2.mono (by omega)
          · rw [de0]; rfl
        · cases hc
      · exact kNoQ_ok ⟨_, Tryz.func52, by decide +kernel, by kernel_rfl⟩
  have hG : (gPd (negL l) (ptD l) (numB (whD l)) (fOK l) (decide (nD l = 0))).holds E := by
    refine asm_and ?_ <| asm_and b0 <| asm_and b1 <| asm_and b2 <| asm_and b3 <| asm_and ?_ asm_nil
    · show decide ((65536 : Int) < ((E.s 0).length : Int)) = false
      rw [s0, decide_eq_false_iff_not]; omega
    · show (cmpZ (E.i 0) 0 == 0) = decide (nD l = 0)
      rw [i0, Bool.eq_iff_iff, beq_iff_eq, decide_eq_true_iff]
      exact cmp_eq0 _
  have hWk := List.all_eq_true.1 (List.all_eq_true.1 (List.all_eq_true.1 (List.all_eq_true.1 (List.all_eq_true.1 pd_walk _ (bools_mem (negL l))) _ (bools_mem (ptD l))) _ (bools_mem (numB (whD l)))) _ (bools_mem (fOK l))) _ (bools_mem (decide (nD l = 0)))
  have run : ∀ T, pdW (negL l) (ptD l) (numB (whD l)) (fOK l) (decide (nD l = 0)) = some T → Calls Tryz.prog 11 #[.string ⟨l.toArray⟩] w fun e w' => ∃ β v, e = .returned v ∧ (toAV (T.pick E)).holds E β w' v ∧ Ext w w' := by
    intro T hTe
    refine fun_sound mixed (cfgW_ok hT) hG Tryz.func11 (by decide +kernel) hTe (by decide +kernel) rfl w [.string ⟨l.toArray⟩] rfl (fun i x hx => ?_) (fun w' e => hW.ext e)
    match i, hx with
    | 0, hx => injection hx with hx; subst hx; exact ⟨fun _ => 0, _, rfl, one_str.2 ⟨by show _ = Value.string ⟨(E.s 0).toArray⟩; rw [s0], by show (E.s 0).length ≤ _; rw [s0]; exact hl⟩⟩
  have hok : okD l = (vPd (ptD l) (numB (whD l)) (fOK l) && !(negL l && decide (nD l = 0))) := rfl
  rw [← hok] at hWk
  rcases isPdR_spec hWk with ⟨ho, m, k, hTe⟩ | ⟨ho, m, k, hTe⟩
  · refine (run _ hTe).mono ?_
    rintro e w' ⟨β, v, rfl, ⟨vs, rfl, u1, r1, rfl, k1, u2, r2, rfl, k2, hn⟩, ex⟩
    simp only [tupAll] at hn
    subst hn
    have k2' : u2 = .int .i64 0 := one_num.1 k2
    subst k2'
    refine ⟨u1, by rw [ho]; rfl, ?_, ex⟩
    rw [if_pos ho]
    obtain ⟨x, y, z, t, rfl, j1, _, j2, _⟩ := one_rat.1 k1
    have j1' : IsInt w' (.agg #[x, y]) (E.i 4) := j1
    have j2' : IsInt w' (.agg #[z, t]) (E.i 5) := j2
    rw [i4] at j1'
    rw [i5] at j2'
    exact ⟨x, y, z, t, rfl, j1', j2'⟩
  · refine (run _ hTe).mono ?_
    rintro e w' ⟨β, v, rfl, ⟨vs, rfl, u1, r1, rfl, k1, u2, r2, rfl, k2, hn⟩, ex⟩
    simp only [tupAll] at hn
    subst hn
    have k2' : u2 = .int .i64 2 := one_num.1 k2
    subst k2'
    refine ⟨u1, by rw [ho]; rfl, ?_, ex⟩
    rw [if_neg (by rw [ho]; simp)]
    obtain ⟨x, y, z, t, rfl, j1, _, j2, _⟩ := one_rat.1 k1
    exact ⟨x, y, z, t, rfl, j1, j2⟩
end Go.Proofs.YtnejcdjakjmklaaGreatDoor
end

section
set_option maxRecDepth 100000
namespace Go.Proofs.YtnejcdjakjmklaaGreatDoor
open Go.RowKit Go.Shelf
theorem pad_front : ∀ (k r : Nat), pad (k + 1) r = UInt8.ofNat (48 + r / 10 ^ k % 10) :: pad k r
  | 0, r => by simp [pad]
  | k + 1, r => by
    rw [pad, pad_front k (r / 10), Nat.div_div_eq_div_mul, show 10 * 10 ^ k = 10 ^ (k + 1) by rw [Nat.pow_succ, Nat.mul_comm]]
    rfl
theorem groups_snoc (x : Nat) : ∀ (l : List Nat), groups (l ++ [x]) = pad 9 x ++ groups l
  | [] => by simp [groups]
  | y :: l => by rw [List.cons_append, groups, groups_snoc x l, groups, List.append_assoc]
theorem groups_length : ∀ (l : List Nat), (groups l).length = 9 * l.length
  | [] => rfl
  | x :: l => by rw [groups, List.length_append, pad_length, groups_length l, List.length_cons]; omega
theorem pad_strip : ∀ (k r : Nat), 0 < r → r < 10 ^ k → (pad k r).dropWhile (· == 48) = Lib.decDigits r
  | 0, r, h, h2 => by simp at h2; omega
  | k + 1, r, h, h2 => by
    rw [pad]
    by_cases h10 : r < 10
    · have : r / 10 = 0 := by omega
      rw [this, Lib.decDigits, dif_pos h10]
      have e : ∀ k, (pad k 0 ++ [UInt8.ofNat (48 + r % 10)]).dropWhile (· == 48) = [UInt8.ofNat (48 + r % 10)] := by
        intro k
        induction k with
        | zero =>
          have hne : (UInt8.ofNat (48 + r % 10) == 48) = false := by
            rw [beq_eq_false_iff_ne]
            intro e
            have := congrArg UInt8.toNat e
            rw [UInt8.toNat_ofNat'] at this
            have e48 : (48 : UInt8).toNat = 48 := rfl
            rw [e48] at this
            omega
          show ([] ++ [UInt8.ofNat (48 + r % 10)]).dropWhile (· == 48) = _
          rw [List.nil_append, List.dropWhile_cons, hne]
          rfl
        | succ k ih =>
          rw [pad_front]
          have : 0 / 10 ^ k % 10 = 0 := by simp
          rw [this]
          show ((48 : UInt8) :: (pad k 0 ++ _)).dropWhile (· == 48) = _
          rw [List.dropWhile_cons]
          exact ih
      rw [e, show r % 10 = r by omega]
    · have ih := pad_strip k (r / 10) (by omega) (by rw [Nat.pow_succ] at h2; omega)
      rw [Lib.decDigits, dif_neg h10, ← ih, List.dropWhile_append]
      have hne : ((pad k (r / 10)).dropWhile (· == 48)).isEmpty = false := by
        rw [ih]
        cases hd : Lib.decDigits (r / 10) with
        | nil => have := Lib.decDigits_length (r / 10); rw [hd] at this; have := Lib.nDigits_pos (r / 10); simp at *; omega
        | cons a l => rfl
      rw [hne]
      rfl
theorem ba_eq {t : ByteArray} {L : List UInt8} (h : t.data.toList = L) : t = ⟨L.toArray⟩ := by
  cases t with | mk d => subst h; simp
theorem ba_tail {t : ByteArray} {c : UInt8} {r : List UInt8} (h : t.data.toList = c :: r) : (t.extract 1 t.size).data.toList = r ∧ (t.extract 1 t.size).size + 1 = t.size := by
  have hl : r.length + 1 = t.size := by rw [← bytes_len, h, List.length_cons]
  have e : (t.extract 1 t.size).data.toList = r := by
    rw [ByteArray.data_extract, Array.toList_extract, h, List.extract_eq_take_drop]
    show List.take _ r = r
    exact List.take_of_length_le (by omega)
  exact ⟨e, by rw [← bytes_len, e, hl]⟩
theorem conv_digit (w : World) : ∀ (d : Nat), d < 10 → (convert 21 9 (.int .i32 (48 + (d : Int)))).run Tryz.prog w = .ok (.string ⟨#[UInt8.ofNat (48 + d)]⟩) w
  | 0, _ => by kernel_rfl
  | 1, _ => by kernel_rfl
  | 2, _ => by kernel_rfl
  | 3, _ => by kernel_rfl
  | 4, _ => by kernel_rfl
  | 5, _ => by kernel_rfl
  | 6, _ => by kernel_rfl
  | 7, _ => by kernel_rfl
  | 8, _ => by kernel_rfl
  | 9, _ => by kernel_rfl
  | d + 10, h => by omega

set_option maxRecDepth 100000 in
set_option maxHeartbeats 3200000 in
theorem rformat_calls (w : World) (v : Value) (z : Int) (h : IsInt w v z) (l : Lim 100000 z) :
    Calls Tryz.prog 89 #[v] w fun e w' => e = .returned (.string ⟨(Lib.itoa z).toArray⟩) ∧ Ext w w' := by
  obtain ⟨ao, cap, s, n, rfl, h1, h2, h3, H4, H5, H6⟩ := h.open_
  obtain ⟨W, hWW, eW, c0, c1⟩ := box1 w (.bool s) (.slice ao (limbs n).length cap) 24
  rcases Nat.eq_zero_or_pos n with h0 | h0
  · subst h0
    have hz : z = 0 := by have h5 := H5.out; cases s <;> simpa [sgn] using h5
    subst hz
    have HR : Hid (Lib.itoa 0 = [48]) := by unfold Hid; exact (Lib.itoa_nonneg 0).trans (Lib.decDigits_one (by omega))
    rw [limbs_zero] at h1 c1 hWW
    clear H4 H5 H6 l h h3
    go_enter Tryz.func89, Tryz.ntmps89
    go_wp2
    go_ret
    exact ⟨by rw [HR.out]; rfl, (Ext.refl w).alloc _⟩
  · have hl : (limbs n).length ≤ 100000 := by unfold Lim at l; rw [← H4.out] at l; exact l
    have hlp : 0 < (limbs n).length := limbs_pos h0
    obtain ⟨b, off, rfl, hcell⟩ := h3.at_ hlp
    obtain ⟨xs, hxs⟩ : ∃ xs, xs = limbs n := ⟨_, rfl⟩
    have hdig : Dig xs := by rw [hxs]; exact dig_limbs n
    have hlast : xs.getD (xs.length - 1) 0 ≠ 0 := by rw [hxs]; exact limbs_last n (fun e => by rw [e] at hlp; simp at hlp)
    have hval : val xs = n := by rw [hxs]; exact val_limbs n
    rw [← hxs] at hl hlp hcell h1 c1 hWW h3 ⊢
    have hgr : (groups xs).dropWhile (· == 48) = Lib.decDigits n := by
      obtain ⟨L, hL⟩ : ∃ L, L + 1 = xs.length := ⟨xs.length - 1, by omega⟩
      have hsplit : xs = xs.take L ++ [xs.getD L 0] := by
        conv => lhs; rw [← List.take_append_drop L xs]
        congr 1
        rw [List.drop_eq_getElem_cons (by omega), List.getD_eq_getElem?_getD, List.getElem?_eq_getElem (by omega), List.drop_eq_nil_of_le (by omega)]
        rfl
      have ht0 : 0 < xs.getD L 0 := by have := hlast; rw [show xs.length - 1 = L by omega] at this; omega
      have ht9 : xs.getD L 0 < 1000000000 := hdig L
      have e2 := dec_limbs (xs.getD L 0) ht0 (xs.take L) (hdig.take L)
      rw [← hsplit, hval] at e2
      rw [e2]
      conv => lhs; rw [hsplit]
      rw [groups_snoc, List.dropWhile_append, pad_strip 9 _ ht0 (by omega)]
      have hne : (Lib.decDigits (xs.getD L 0)).isEmpty = false := by
        cases hd : Lib.decDigits (xs.getD L 0) with
        | nil => have := Lib.decDigits_length (xs.getD L 0); rw [hd] at this; have := Lib.nDigits_pos (xs.getD L 0); simp at *; omega
        | cons a l => rfl
      rw [hne]
      rfl
    have HG := Lib.hid hgr
    have HZ : Hid (Lib.itoa z = (if s = true then [45] else []) ++ Lib.decDigits n) := by
      unfold Hid
      have h5 := H5.out
      cases s
      · have : z = (n : Int) := h5
        subst this
        rw [Lib.itoa_nonneg]; rfl
      · have : z = -(n : Int) := h5
        subst this
        rw [Lib.itoa_neg n h0]; rfl
    have hcW : ∀ k, k < xs.length → W.cell? ⟨b, off + k, none⟩ = some (.int .u32 ((xs.getD k 0 : Nat) : Int)) := fun k hk => eW.cell (hcell k hk)
    have HC := Lib.hid hcW
    have HD : Hid (∀ k, xs.getD k 0 < 1000000000) := fun k => hdig k
    have HE := Lib.hid eW
    clear hgr hcW hcell hdig hlast hval hxs H4 H5 H6 h l h3 eW h1
    go_enter Tryz.func89, Tryz.ntmps89
    go_wp2
    go_loop [3, 4, 5, 6] (fun o i _ _ => ∃ (k : Nat) (t : ByteArray), k ≤ xs.length ∧ i = .int .i64 k ∧ o = .string t ∧ Hid (t.data.toList = groups (xs.take k))) (fun _ i _ _ => xs.length - (intOf i).toNat)
    case atStart => exact ⟨0, ⟨#[]⟩, Nat.zero_le _, rfl, rfl, rfl⟩
    case round =>
      obtain ⟨k, t, hk, rfl, rfl, HT⟩ := hrel
      by_cases hlt : k < xs.length
      · have hcx := HC.out k hlt
        obtain ⟨x, hx⟩ : ∃ x, x = xs.getD k 0 := ⟨_, rfl⟩
        have hx9 := HD.out k
        rw [← hx] at hcx hx9
        have hxI : (x : Int) ≤ 999999999 := by omega
        have HX := Lib.hid hx
        clear hx hx9
        have hltI : (k : Int) < (xs.length : Int) := by omega
        go_wp2
        go_loop [3, 5, 6] (fun o m j => ∃ (i q : Nat) (t2 : ByteArray), i ≤ 9 ∧ j = .int .i64 i ∧ m = .int .u32 q ∧ o = .string t2 ∧ (q : Int) ≤ 999999999 ∧ Hid (q = x / 10 ^ i) ∧ Hid (t2.data.toList = pad i x ++ t.data.toList)) (fun _ _ j => 9 - (intOf j).toNat)
        case atStart => exact ⟨0, x, t, by omega, rfl, rfl, rfl, hxI, by simp [Hid], rfl⟩
        case round =>
          obtain ⟨i, q, t2, hi, rfl, rfl, rfl, hq, HQ, HT2⟩ := hrel
          by_cases hi9 : i < 9
          · obtain ⟨r, hr⟩ : ∃ r, r = q % 10 := ⟨_, rfl⟩
            have hrI : (q : Int) % 10 = (r : Int) := by omega
            have hr9 : (r : Int) < 10 := by omega
            have hcv := conv_digit W r (by omega)
            have HR := Lib.hid hr
            clear hr
            have hiI : (i : Int) < 9 := by omega
            have hsz : ¬ 9223372036854775807 < 1 + t2.size := by
              have e1 := congrArg List.length HT2.out
              have e2 := congrArg List.length HT.out
              rw [bytes_len, List.length_append, pad_length, bytes_len] at e1
              rw [bytes_len, groups_length, List.length_take] at e2
              omega
            go_wp2
            go_round
            case rel =>
              refine ⟨i + 1, q / 10, _, by omega, by go_num, by go_num, rfl, by omega, ?_, ?_⟩
              · unfold Hid; rw [HQ.out, Nat.div_div_eq_div_mul, Nat.pow_succ]
              · unfold Hid
                rw [pad_front, List.cons_append, ← HT2.out, ← HQ.out, ← HR.out]
                simp
            case measure => simp [intOf]; omega
          · have e9 : i = 9 := by omega
            subst e9
            go_wp2
            go_round
            case rel =>
              refine ⟨k + 1, by omega, by go_num, ?_⟩
              unfold Hid
              rw [HT2.out, HT.out, List.take_succ_eq_append_getElem hlt, groups_snoc]
              congr 2
              rw [HX.out, List.getD_eq_getElem?_getD, List.getElem?_eq_getElem hlt]
              rfl
            case measure => simp [intOf]; omega
      · have ek : k = xs.length := by omega
        subst ek
        have HT' : Hid (t.data.toList.dropWhile (· == 48) = Lib.decDigits n) := by
          unfold Hid
          rw [HT.out, List.take_of_length_le (Nat.le_refl _), HG.out]
        have HN : Hid (Lib.decDigits n ≠ []) := by
          intro e
          have := Lib.decDigits_length n
          rw [e] at this
          have := Lib.nDigits_pos n
          simp at *
          omega
        have HSZ : Hid (t.size ≤ 1000000) := by
          unfold Hid
          have e2 := congrArg List.length HT.out
          rw [bytes_len, groups_length, List.length_take] at e2
          omega
        clear HT HG HC HD
        go_wp2
        go_loop [3] (fun o => ∃ t2 : ByteArray, o = .string t2 ∧ t2.size ≤ 1000000 ∧ Hid (t2.data.toList.dropWhile (· == 48) = Lib.decDigits n)) (fun o => match o with | .string t2 => t2.size | _ => 0)
        case atStart => exact ⟨t, rfl, HSZ.out, HT'⟩
        case round =>
          obtain ⟨t2, rfl, hsz2, HT2⟩ := hrel
          obtain ⟨c, r, hcr⟩ : ∃ c r, t2.data.toList = c :: r := by
            cases hh : t2.data.toList with
            | nil => exact absurd (by rw [← HT2.out, hh]; rfl) HN.out
            | cons c r => exact ⟨c, r, rfl⟩
          have hrl : r.length + 1 = t2.size := by rw [← bytes_len, hcr, List.length_cons]
          have hpos : 0 < t2.size := by omega
          have hc0 : t2[0] = c := by
            have : t2.data.toList[0]'(by rw [hcr]; simp) = c := by simp [hcr]
            exact this
          have HCR := Lib.hid hcr
          clear hcr
          by_cases hz : c = 48
          · have f0 : ((t2[0].toNat : Int) == 48) = true := by rw [hc0, hz]; rfl
            have HZC := Lib.hid hz
            clear hz hc0
            go_wp2
            go_round
            case rel =>
              obtain ⟨e1, e2⟩ := ba_tail HCR.out
              refine ⟨_, rfl, by omega, ?_⟩
              unfold Hid
              have e := HT2.out
              rw [HCR.out, HZC.out, List.dropWhile_cons] at e
              rw [e1]
              exact e
            case measure =>
              have e2 := (ba_tail HCR.out).2
              show (t2.extract 1 t2.size).size < t2.size
              omega
          · have f0 : ((t2[0].toNat : Int) == 48) = false := by
              rw [hc0, beq_eq_false_iff_ne]
              intro e
              exact hz (UInt8.toNat_inj.1 (by have : (48 : UInt8).toNat = 48 := rfl; omega))
            have HF : Hid (t2.data.toList = Lib.decDigits n) := by
              unfold Hid
              have e := HT2.out
              rw [HCR.out, List.dropWhile_cons, beq_eq_false_iff_ne.2 hz] at e
              rw [HCR.out]
              exact e
            clear hz hc0
            have hb : ¬ 9223372036854775807 < 1 + t2.size := by omega
            have HB := Lib.hid (ba_eq HF.out)
            cases s
            · go_wp2
              go_ret
              refine ⟨?_, HE.out⟩
              rw [HZ.out]
              show Ending.returned (Value.string t2) = _
              rw [HB.out]
              rfl
            · go_wp2
              go_ret
              refine ⟨?_, HE.out⟩
              rw [HZ.out]
              show Ending.returned (Value.string _) = _
              congr 2
              refine ba_eq ?_
              simp [HF.out]
end Go.Proofs.YtnejcdjakjmklaaGreatDoor
end
