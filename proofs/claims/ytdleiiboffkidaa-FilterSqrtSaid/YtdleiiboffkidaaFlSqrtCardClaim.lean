/-
  Texts of this seat, joined.
-/
import Derived.Test.YtdleiiboffkidaaJ8
import Derived.Test.YtdleiiboffkidaaRows
import Derived.ProofKit
import Derived.OpenShut
import Derived.ChangeOld
import Derived.Lib.SmallJoins
import Derived.LaidLaws
import Derived.Handed
/- ---- Lift ---- -/
section
/-
  How an argument that is a struct of a bool and a slice of uint32 is read.
-/
set_option maxRecDepth 100000
namespace Go.Proofs.Ytdleiiboffkidaa
open Go.ChangeShapes Go.WideShapes Go.ChangeAt Go.RowKit Go.Joins

theorem own : ownKnob Try.prog.godebug = none := by kernel_rfl
theorem laidOut : laidOutB Try.prog = true := by kernel_rfl

theorem open_cells {H : Type} {enc : TypeId × Value → H} {W : World} {base : Nat} {spare : Nat → Bool} {held : Bool} {v0 v1 : Value} {y0 y1 : DataW H × List MemPlace} {n : Nat}
    (h0 : DataW.trod enc Try.prog W base spare held n 4 [v0] = some y0) (h1 : DataW.trod enc Try.prog W base spare held n 22 [v1] = some y1) : ∃ neg xs, Raw W (.agg #[v0, v1]) neg xs := by
  obtain ⟨b, hb0, _⟩ := DataW.trod_bool Try.underlying4 h0
  simp only [List.cons.injEq, and_true] at hb0
  subst hb0
  rcases open_ints Try.underlying22 Try.underlying67 (by kernel_rfl) h1 with ⟨hcs, _⟩ | ⟨x, l, c, zs, hcs, _, hl, hm, hz, _, hcell, hwz⟩
  · simp only [List.cons.injEq, and_true] at hcs
    subst hcs
    exact ⟨b, [], none, 0, rfl, by simp, by omega, Cells.nil _ _⟩
  · simp only [List.cons.injEq, and_true] at hcs
    subst hcs
    have hlz : l ≤ zs.length := by rw [hz]; split <;> omega
    have hlen : ((zs.take l).map Int.toNat).length = l := by simp [hlz]
    refine ⟨b, (zs.take l).map Int.toNat, some x, c, by rw [hlen], by rw [hlen]; exact hl, by unfold maxLen at hm; omega, ?_⟩
    rcases Nat.eq_zero_or_pos l with h0 | h0
    · exact .inl (List.eq_nil_of_length_eq_zero (by rw [hlen]; exact h0))
    · obtain ⟨bb, off, rfl, hc⟩ := ints_at hcell (by omega)
      refine .inr ⟨bb, off, rfl, fun i hi => ?_⟩
      rw [hlen] at hi
      rw [hc i (by omega)]
      have hmem : zs.getD i 0 ∈ zs := by
        rw [List.getD_eq_getElem?_getD, List.getElem?_eq_getElem (by omega)]
        exact List.getElem_mem _
      have hw := hwz _ hmem
      have hb2 : 0 ≤ zs.getD i 0 := by
        have : 0 ≤ zs.getD i 0 ∧ zs.getD i 0 ≤ 4294967295 := by simpa [Lit.wf, IntKind.min, IntKind.max, IntKind.signed, IntKind.bits] using hw
        exact this.1
      have he : ((zs.take l).map Int.toNat).getD i 0 = (zs.getD i 0).toNat := by
        simp only [List.getD_eq_getElem?_getD, List.getElem?_map, List.getElem?_take]
        rw [if_pos hi]
        rw [List.getElem?_eq_getElem (by omega)]
        rfl
      rw [he]
      congr 2
      omega

theorem open_arg {H : Type} {enc : TypeId × Value → H} {W : World} {b0 base : Nat} {spare : Nat → Bool} {held : Bool} {r : Reach} {v : Value} {d : DataW H} {p : List MemPlace}
    (hv : Value.okWide Try.prog W r b0 24 v) (h : DataW.Trod enc Try.prog W base spare held 24 v d p) : ∃ neg xs, Raw W v neg xs := by
  obtain ⟨v0, v1, y0, y1, n, rfl, rfl, rfl, h0, h1⟩ := open_agg2 Try.underlying24 (by kernel_rfl) (by kernel_rfl) hv h
  exact open_cells h0 h1

end Go.Proofs.Ytdleiiboffkidaa
end

/- ---- Liftf ---- -/
section
/-
  How arguments that are intervals of machine numbers are read.
-/
set_option maxRecDepth 100000
namespace Go.Proofs.Ytdleiiboffkidaa
open Go.ChangeShapes Go.WideShapes Go.ChangeAt Go.RowKit Go.Joins

theorem arr2 {cs : Array Value} (h : cs.size = 2) : ∃ c0 c1, cs = #[c0, c1] := by
  obtain ⟨l⟩ := cs
  have h' : l.length = 2 := h
  match l, h' with
  | [c0, c1], _ => exact ⟨c0, c1, rfl⟩
theorem i64_wf {n : Int} (h : (Lit.int .i64 n).wf = true) : -9223372036854775808 ≤ n ∧ n ≤ 9223372036854775807 := by
  simp only [Lit.wf, Bool.and_eq_true, decide_eq_true_iff] at h
  exact h
theorem open_iv {H : Type} {enc : TypeId × Value → H} {W : World} {b0 base : Nat} {spare : Nat → Bool} {held : Bool} {r : Reach} {v : Value} {d : DataW H} {p : List MemPlace}
    (hv : Value.okWide Try.prog W r b0 34 v) (h : DataW.Trod enc Try.prog W base spare held 34 v d p) : ∃ x y : Int, v = .agg #[.int .i64 x, .int .i64 y] ∧ (-9223372036854775808 ≤ x ∧ x ≤ 9223372036854775807) ∧ (-9223372036854775808 ≤ y ∧ y ≤ 9223372036854775807) := by
  obtain ⟨cs, rfl, hsz⟩ := okWide_struct Try.underlying34 hv
  have c2 : Try.prog.cellsOf 34 = 2 := by kernel_rfl
  have k1 : Try.prog.cellsOf 2 = 1 := by kernel_rfl
  obtain ⟨c0, c1, rfl⟩ := arr2 (hsz.trans c2)
  obtain ⟨fuel, hf⟩ := h
  obtain ⟨y0, y1, n, hx, _, h0, h1⟩ := trod_struct2 Try.underlying34 hf
  obtain ⟨x, e0, _, w0⟩ := DataW.trod_int (cs := [c0]) Try.underlying2 (by simpa [Value.cells, k1] using h0)
  obtain ⟨y, e1, _, w1⟩ := DataW.trod_int (cs := [c1]) Try.underlying2 (by simpa [Value.cells, k1] using h1)
  injection e0 with e0
  injection e1 with e1
  subst e0 e1
  exact ⟨x, y, rfl, i64_wf w0, i64_wf w1⟩
end Go.Proofs.Ytdleiiboffkidaa
end

/- ---- Liftg ---- -/
section
/-
  How arguments that are arrays of machine numbers are read.
-/
set_option maxRecDepth 100000
namespace Go.Proofs.Ytdleiiboffkidaa
open Go.ChangeShapes Go.WideShapes Go.ChangeAt Go.RowKit Go.Joins

theorem okWide_array {W : World} {r : Reach} {b0 : Nat} {t e : TypeId} {n : Nat} {v : Value} (ht : Try.prog.underlying t = some (.array n e)) (h : Value.okWide Try.prog W r b0 t v) : ∃ cs, v = .agg cs ∧ cs.size = Try.prog.cellsOf t := by
  unfold Value.okWide at h
  rw [ht] at h
  obtain ⟨cs, h1, h2, _⟩ := h
  exact ⟨cs, h1, h2⟩
theorem arr4v {cs : Array Value} (h : cs.size = 4) : ∃ c0 c1 c2 c3, cs = #[c0, c1, c2, c3] := by
  obtain ⟨l⟩ := cs
  have h' : l.length = 4 := h
  match l, h' with
  | [c0, c1, c2, c3], _ => exact ⟨c0, c1, c2, c3, rfl⟩
theorem u8_wf {n : Int} (h : (Lit.int .u8 n).wf = true) : 0 ≤ n ∧ n ≤ 255 := by
  simp only [Lit.wf, Bool.and_eq_true, decide_eq_true_iff] at h
  exact h
theorem u32_wf {n : Int} (h : (Lit.int .u32 n).wf = true) : 0 ≤ n ∧ n ≤ 4294967295 := by
  simp only [Lit.wf, Bool.and_eq_true, decide_eq_true_iff] at h
  exact h
theorem open_a2 {H : Type} {enc : TypeId × Value → H} {W : World} {b0 base : Nat} {spare : Nat → Bool} {held : Bool} {r : Reach} {v : Value} {d : DataW H} {p : List MemPlace}
    (hv : Value.okWide Try.prog W r b0 40 v) (h : DataW.Trod enc Try.prog W base spare held 40 v d p) : ∃ x y : Int, v = .agg #[.int .u8 x, .int .u8 y] ∧ (0 ≤ x ∧ x ≤ 255) ∧ (0 ≤ y ∧ y ≤ 255) := by
  obtain ⟨cs, rfl, hsz⟩ := okWide_array Try.underlying40 hv
  have c2 : Try.prog.cellsOf 40 = 2 := by kernel_rfl
  have k1 : Try.prog.cellsOf 5 = 1 := by kernel_rfl
  obtain ⟨c0, c1, rfl⟩ := arr2 (hsz.trans c2)
  obtain ⟨fuel, hf⟩ := h
  obtain ⟨xs, m, _, _, _, hl, hel⟩ := DataW.trod_array Try.underlying40 hf
  match xs, hl with
  | [y0, y1], _ =>
    have h0 := hel 0 (by omega)
    have h1 := hel 1 (by omega)
    obtain ⟨x, e0, _, w0⟩ := DataW.trod_int (cs := [c0]) Try.underlying5 (by simpa [Value.cells, k1] using h0)
    obtain ⟨y, e1, _, w1⟩ := DataW.trod_int (cs := [c1]) Try.underlying5 (by simpa [Value.cells, k1] using h1)
    injection e0 with e0
    injection e1 with e1
    subst e0 e1
    exact ⟨x, y, rfl, u8_wf w0, u8_wf w1⟩
theorem open_a4 {H : Type} {enc : TypeId × Value → H} {W : World} {b0 base : Nat} {spare : Nat → Bool} {held : Bool} {r : Reach} {v : Value} {d : DataW H} {p : List MemPlace}
    (hv : Value.okWide Try.prog W r b0 68 v) (h : DataW.Trod enc Try.prog W base spare held 68 v d p) : ∃ x y z t : Int, v = .agg #[.int .u32 x, .int .u32 y, .int .u32 z, .int .u32 t] ∧ (0 ≤ x ∧ x ≤ 4294967295) ∧ (0 ≤ y ∧ y ≤ 4294967295) ∧ (0 ≤ z ∧ z ≤ 4294967295) ∧ (0 ≤ t ∧ t ≤ 4294967295) := by
  obtain ⟨cs, rfl, hsz⟩ := okWide_array Try.underlying68 hv
  have c4 : Try.prog.cellsOf 68 = 4 := by kernel_rfl
  have k1 : Try.prog.cellsOf 67 = 1 := by kernel_rfl
  obtain ⟨c0, c1, c2, c3, rfl⟩ := arr4v (hsz.trans c4)
  obtain ⟨fuel, hf⟩ := h
  obtain ⟨xs, m, _, _, _, hl, hel⟩ := DataW.trod_array Try.underlying68 hf
  match xs, hl with
  | [y0, y1, y2, y3], _ =>
    have h0 := hel 0 (by omega)
    have h1 := hel 1 (by omega)
    have h2 := hel 2 (by omega)
    have h3 := hel 3 (by omega)
    obtain ⟨x, e0, _, w0⟩ := DataW.trod_int (cs := [c0]) Try.underlying67 (by simpa [Value.cells, k1] using h0)
    obtain ⟨y, e1, _, w1⟩ := DataW.trod_int (cs := [c1]) Try.underlying67 (by simpa [Value.cells, k1] using h1)
    obtain ⟨z, e2, _, w2⟩ := DataW.trod_int (cs := [c2]) Try.underlying67 (by simpa [Value.cells, k1] using h2)
    obtain ⟨t, e3, _, w3⟩ := DataW.trod_int (cs := [c3]) Try.underlying67 (by simpa [Value.cells, k1] using h3)
    injection e0 with e0
    injection e1 with e1
    injection e2 with e2
    injection e3 with e3
    subst e0 e1 e2 e3
    exact ⟨x, y, z, t, rfl, u32_wf w0, u32_wf w1, u32_wf w2, u32_wf w3⟩
end Go.Proofs.Ytdleiiboffkidaa
end

/- ---- FlSqrtCard ---- -/
section
/-
  The statement FilterSqrtSaid: for every input the call returns true, and each argument reads behind the call as it read before.
-/
namespace Go.Proofs.Ytdleiiboffkidaa.lawFlSqrt
open Go.ChangeShapes Go.WideShapes Go.ChangeAt Go.RowKit

set_option maxRecDepth 100000 in
theorem lifted (os : Os) (started : os.Started) (H : Type) (enc : TypeId × Value → H) :
    ReturnsInHanded {} Try.checked os 5 .any (Rows.filterSqrtSpec.pre6 enc Try.prog Try.f5 Rows.filterSqrtRow.domain false) (Rows.filterSqrtSpec.post enc Try.prog Try.f5 false true false false) := by
  refine returnsInHanded_of_change (C := Try.checked) own started (by kernel_rfl) Try.func5
    (ChangeSpec.witness6 (enc := enc) (C := Try.checked) false ⟨#[], #[.agg #[.int .i64 0, .int .i64 0], .int .u8 0], []⟩ 8 (by kernel_rfl) (by kernel_rfl) (by kernel_rfl) (by kernel_rfl)) ?_
  intro W base args ds gs before hval0 hW hcnd _
  have hval : ∀ (j : Nat) t v, Try.f5.params[j]? = some t → args[j]? = some v → Value.okWide Try.prog W .any base t v := hval0
  have hW' := hW
  obtain ⟨p, q, hA0, hV, rfl, hfz, hnd⟩ := hW
  have hA : DataW.TrodAll enc Try.prog W 0 (fun _ => true) true Try.f5.params.toList args.toList ds p := hA0
  rw [Try.params5] at hA hval
  obtain ⟨v0, vs0, d0, ds0, p0, q0, hargs, rfl, rfl, h0, r0⟩ := trodAll_cons hA
  obtain ⟨v1, vs1, d1, ds1, p1, q1, rfl, rfl, rfl, h1, r1⟩ := trodAll_cons r0
  obtain ⟨rfl, rfl, rfl⟩ := trodAll_nil r1
  obtain rfl : args = #[v0, v1] := by cases args; simp_all
  obtain ⟨rfl, rfl⟩ := trodVars_none hV
  have k0 := h0
  have lt0 : ∀ x ∈ p0, x.block < W.heap.size := by obtain ⟨m, hm⟩ := k0; exact DataW.trod_lt m _ _ _ hm
  obtain ⟨a0, b0, w0, i0, j0⟩ := open_iv (hval 0 34 v0 rfl rfl) h0
  obtain ⟨a1, rfl, rfl, rfl, w1⟩ := open_int Try.underlying5 (hval 1 5 v1 rfl rfl) h1
  clear hA0 hval0
  refine (filterSqrt_calls W v0 _ a0 b0 a1 w0 rfl (u8_wf w1)).mono fun e W' ⟨he, bel⟩ => ?_
  subst he
  exact ⟨_, rfl, _, _, _, [], _, [], hW', trodAll_mk1 (shut_bool Try.underlying4 _), (trodAll_cons_mk (Below.trod laidOut (by kernel_rfl) (of_decide_eq_true (by kernel_rfl)) k0 bel lt0) (trodAll_cons_mk (shut_int Try.underlying5 w1) trodAll_mk0)), rfl, bel.frame _, fun h => by cases h⟩

theorem over : Rows.filterSqrtRow.holds Try.pinned (OpenSpec.ofChange Rows.filterSqrtSpec) :=
  OpenClaim.holds_of_wide 5 Try.f5 rfl rfl rfl rfl rfl rfl rfl ⟨rfl, rfl, rfl, rfl, rfl⟩ rfl rfl rfl rfl rfl (by kernel_rfl) Try.func5 (by kernel_rfl)
    (of_decide_eq_true (by kernel_rfl)) (by unfold Func.isWrapper; first | (rw [if_pos (by decide +kernel)]; kernel_rfl) | (rw [if_neg (by decide +kernel)]; exact ⟨rfl, rfl⟩))
    (fun os started H enc _ => lifted os started H enc)

theorem proved : Rows.FilterSqrtSaid := over
end Go.Proofs.Ytdleiiboffkidaa.lawFlSqrt
end
