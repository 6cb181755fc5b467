/-
  Texts of this seat, joined.
-/
import Derived.Test.YtdleiiboffkidaaJ9
import Derived.Test.YtdleiiboffkidaaRows
import Derived.ProofKit
import Derived.OpenShut
import Derived.ChangeOld
import Derived.Lib.SmallJoins
import Derived.LaidLaws
import Derived.Handed
/- ---- Lift ---- -/
section
/-
  How an argument that is a struct of a bool and a slice of uint32 is read.
-/
set_option maxRecDepth 100000
namespace Go.Proofs.Ytdleiiboffkidaa
open Go.ChangeShapes Go.WideShapes Go.ChangeAt Go.RowKit Go.Joins

theorem own : ownKnob Try.prog.godebug = none := by kernel_rfl
theorem laidOut : laidOutB Try.prog = true := by kernel_rfl

theorem open_cells {H : Type} {enc : TypeId × Value → H} {W : World} {base : Nat} {spare : Nat → Bool} {held : Bool} {v0 v1 : Value} {y0 y1 : DataW H × List MemPlace} {n : Nat}
    (h0 : DataW.trod enc Try.prog W base spare held n 4 [v0] = some y0) (h1 : DataW.trod enc Try.prog W base spare held n 22 [v1] = some y1) : ∃ neg xs, Raw W (.agg #[v0, v1]) neg xs := by
  obtain ⟨b, hb0, _⟩ := DataW.trod_bool Try.underlying4 h0
  simp only [List.cons.injEq, and_true] at hb0
  subst hb0
  rcases open_ints Try.underlying22 Try.underlying67 (by kernel_rfl) h1 with ⟨hcs, _⟩ | ⟨x, l, c, zs, hcs, _, hl, hm, hz, _, hcell, hwz⟩
  · simp only [List.cons.injEq, and_true] at hcs
    subst hcs
    exact ⟨b, [], none, 0, rfl, by simp, by omega, Cells.nil _ _⟩
  · simp only [List.cons.injEq, and_true] at hcs
    subst hcs
    have hlz : l ≤ zs.length := by rw [hz]; split <;> omega
    have hlen : ((zs.take l).map Int.toNat).length = l := by simp [hlz]
    refine ⟨b, (zs.take l).map Int.toNat, some x, c, by rw [hlen], by rw [hlen]; exact hl, by unfold maxLen at hm; omega, ?_⟩
    rcases Nat.eq_zero_or_pos l with h0 | h0
    · exact .inl (List.eq_nil_of_length_eq_zero (by rw [hlen]; exact h0))
    · obtain ⟨bb, off, rfl, hc⟩ := ints_at hcell (by omega)
      refine .inr ⟨bb, off, rfl, fun i hi => ?_⟩
      rw [hlen] at hi
      rw [hc i (by omega)]
      have hmem : zs.getD i 0 ∈ zs := by
        rw [List.getD_eq_getElem?_getD, List.getElem?_eq_getElem (by omega)]
        exact List.getElem_mem _
      have hw := hwz _ hmem
      have hb2 : 0 ≤ zs.getD i 0 := by
        have : 0 ≤ zs.getD i 0 ∧ zs.getD i 0 ≤ 4294967295 := by simpa [Lit.wf, IntKind.min, IntKind.max, IntKind.signed, IntKind.bits] using hw
        exact this.1
      have he : ((zs.take l).map Int.toNat).getD i 0 = (zs.getD i 0).toNat := by
        simp only [List.getD_eq_getElem?_getD, List.getElem?_map, List.getElem?_take]
        rw [if_pos hi]
        rw [List.getElem?_eq_getElem (by omega)]
        rfl
      rw [he]
      congr 2
      omega

theorem open_arg {H : Type} {enc : TypeId × Value → H} {W : World} {b0 base : Nat} {spare : Nat → Bool} {held : Bool} {r : Reach} {v : Value} {d : DataW H} {p : List MemPlace}
    (hv : Value.okWide Try.prog W r b0 24 v) (h : DataW.Trod enc Try.prog W base spare held 24 v d p) : ∃ neg xs, Raw W v neg xs := by
  obtain ⟨v0, v1, y0, y1, n, rfl, rfl, rfl, h0, h1⟩ := open_agg2 Try.underlying24 (by kernel_rfl) (by kernel_rfl) hv h
  exact open_cells h0 h1

end Go.Proofs.Ytdleiiboffkidaa
end

/- ---- Liftr ---- -/
section
/-
  How arguments that are rational numbers, or roots, are read.
-/
set_option maxRecDepth 100000
namespace Go.Proofs.Ytdleiiboffkidaa
open Go.ChangeShapes Go.WideShapes Go.ChangeAt Go.RowKit Go.Joins

theorem open_two {H : Type} {enc : TypeId × Value → H} {W : World} {base : Nat} {spare : Nat → Bool} {held : Bool} {v0 v1 : Value} {y : DataW H × List MemPlace} {n : Nat}
    (h : DataW.trod enc Try.prog W base spare held n 24 [v0, v1] = some y) : ∃ neg xs, Raw W (.agg #[v0, v1]) neg xs := by
  obtain ⟨y0, y1, n, hx, _, h0, h1⟩ := trod_struct2 Try.underlying24 h
  have cb : Try.prog.cellsOf 4 = 1 := by kernel_rfl
  have cs : Try.prog.cellsOf 22 = 1 := by kernel_rfl
  exact open_cells (v0 := v0) (v1 := v1) (by simpa [cb] using h0) (by simpa [cs] using h1)
theorem open_rat4 {H : Type} {enc : TypeId × Value → H} {W : World} {base : Nat} {spare : Nat → Bool} {held : Bool} {c0 c1 c2 c3 : Value} {y : DataW H × List MemPlace} {n : Nat}
    (h : DataW.trod enc Try.prog W base spare held n 26 [c0, c1, c2, c3] = some y) : ∃ p q : RI, RawQ W (.agg #[c0, c1, c2, c3]) p.1 p.2 q.1 q.2 := by
  have k2 : Try.prog.cellsOf 24 = 2 := by kernel_rfl
  obtain ⟨y0, y1, n, hx, _, h0, h1⟩ := trod_struct2 Try.underlying26 h
  obtain ⟨s1, xs1, w1⟩ := open_two (v0 := c0) (v1 := c1) (by simpa [Value.cells, k2] using h0)
  obtain ⟨s2, xs2, w2⟩ := open_two (v0 := c2) (v1 := c3) (by simpa [Value.cells, k2] using h1)
  exact ⟨(s1, xs1), (s2, xs2), c0, c1, c2, c3, rfl, w1, w2⟩
theorem arr4 {cs : Array Value} (h : cs.size = 4) : ∃ c0 c1 c2 c3, cs = #[c0, c1, c2, c3] := by
  obtain ⟨l⟩ := cs
  have h' : l.length = 4 := h
  match l, h' with
  | [c0, c1, c2, c3], _ => exact ⟨c0, c1, c2, c3, rfl⟩
theorem arr12 {cs : Array Value} (h : cs.size = 12) : ∃ c0 c1 c2 c3 c4 c5 c6 c7 c8 c9 c10 c11, cs = #[c0, c1, c2, c3, c4, c5, c6, c7, c8, c9, c10, c11] := by
  obtain ⟨l⟩ := cs
  have h' : l.length = 12 := h
  match l, h' with
  | [c0, c1, c2, c3, c4, c5, c6, c7, c8, c9, c10, c11], _ => exact ⟨c0, c1, c2, c3, c4, c5, c6, c7, c8, c9, c10, c11, rfl⟩
theorem open_rq {H : Type} {enc : TypeId × Value → H} {W : World} {b0 base : Nat} {spare : Nat → Bool} {held : Bool} {r : Reach} {v : Value} {d : DataW H} {p : List MemPlace}
    (hv : Value.okWide Try.prog W r b0 26 v) (h : DataW.Trod enc Try.prog W base spare held 26 v d p) : ∃ p q : RI, RawQ W v p.1 p.2 q.1 q.2 := by
  obtain ⟨cs, rfl, hsz⟩ := okWide_struct Try.underlying26 hv
  have c4 : Try.prog.cellsOf 26 = 4 := by kernel_rfl
  obtain ⟨c0, c1, c2, c3, rfl⟩ := arr4 (hsz.trans c4)
  obtain ⟨fuel, hf⟩ := h
  exact open_rat4 (by simpa [Value.cells] using hf)
theorem open_root {H : Type} {enc : TypeId × Value → H} {W : World} {b0 base : Nat} {spare : Nat → Bool} {held : Bool} {r : Reach} {v : Value} {d : DataW H} {p : List MemPlace}
    (hv : Value.okWide Try.prog W r b0 55 v) (h : DataW.Trod enc Try.prog W base spare held 55 v d p) : ∃ p1 p2 p3 p4 p5 p6 : RI, RawR W v p1 p2 p3 p4 p5 p6 := by
  obtain ⟨cs, rfl, hsz⟩ := okWide_struct Try.underlying55 hv
  have c12 : Try.prog.cellsOf 55 = 12 := by kernel_rfl
  have k4 : Try.prog.cellsOf 26 = 4 := by kernel_rfl
  obtain ⟨c0, c1, c2, c3, c4, c5, c6, c7, c8, c9, c10, c11, rfl⟩ := arr12 (hsz.trans c12)
  obtain ⟨fuel, hf⟩ := h
  obtain ⟨xs, n, _, _, _, hlen, hfl⟩ := DataW.trod_struct Try.underlying55 hf
  match xs, hlen with
  | [y0, y1, y2], _ =>
    have h0 := hfl 0 _ rfl
    have h1 := hfl 1 _ rfl
    have h2 := hfl 2 _ rfl
    obtain ⟨p1, p2, w1⟩ := open_rat4 (c0 := c0) (c1 := c1) (c2 := c2) (c3 := c3) (y := y0) (by simpa [Value.cells, k4] using h0)
    obtain ⟨p3, p4, w2⟩ := open_rat4 (c0 := c4) (c1 := c5) (c2 := c6) (c3 := c7) (y := y1) (by simpa [Value.cells, k4] using h1)
    obtain ⟨p5, p6, w3⟩ := open_rat4 (c0 := c8) (c1 := c9) (c2 := c10) (c3 := c11) (y := y2) (by simpa [Value.cells, k4] using h2)
    exact ⟨p1, p2, p3, p4, p5, p6, [c0, c1, c2, c3], [c4, c5, c6, c7], [c8, c9, c10, c11], rfl, w1, w2, w3⟩
end Go.Proofs.Ytdleiiboffkidaa
end

/- ---- Lifts ---- -/
section
/-
  How lines and points are read.
-/
set_option maxRecDepth 100000
namespace Go.Proofs.Ytdleiiboffkidaa
open Go.ChangeShapes Go.WideShapes Go.ChangeAt Go.RowKit Go.Joins

theorem arr12s {cs : Array Value} (h : cs.size = 12) : ∃ c0 c1 c2 c3 c4 c5 c6 c7 c8 c9 c10 c11, cs = #[c0, c1, c2, c3, c4, c5, c6, c7, c8, c9, c10, c11] := arr12 h
theorem arr20 {cs : Array Value} (h : cs.size = 20) : ∃ c0 c1 c2 c3 c4 c5 c6 c7 c8 c9 d0 d1 d2 d3 d4 d5 d6 d7 d8 d9, cs = #[c0, c1, c2, c3, c4, c5, c6, c7, c8, c9, d0, d1, d2, d3, d4, d5, d6, d7, d8, d9] := by
  obtain ⟨l⟩ := cs
  have h' : l.length = 20 := h
  match l, h' with
  | [c0, c1, c2, c3, c4, c5, c6, c7, c8, c9, d0, d1, d2, d3, d4, d5, d6, d7, d8, d9], _ => exact ⟨c0, c1, c2, c3, c4, c5, c6, c7, c8, c9, d0, d1, d2, d3, d4, d5, d6, d7, d8, d9, rfl⟩
theorem open_line {H : Type} {enc : TypeId × Value → H} {W : World} {b0 base : Nat} {spare : Nat → Bool} {held : Bool} {r : Reach} {v : Value} {d : DataW H} {p : List MemPlace}
    (hv : Value.okWide Try.prog W r b0 62 v) (h : DataW.Trod enc Try.prog W base spare held 62 v d p) : ∃ (vs : List Value) (p1 p2 p3 : RI × RI), v = .agg vs.toArray ∧ RatsV W vs [p1, p2, p3] := by
  obtain ⟨cs, rfl, hsz⟩ := okWide_struct Try.underlying62 hv
  have c12 : Try.prog.cellsOf 62 = 12 := by kernel_rfl
  have k4 : Try.prog.cellsOf 26 = 4 := by kernel_rfl
  obtain ⟨c0, c1, c2, c3, c4, c5, c6, c7, c8, c9, c10, c11, rfl⟩ := arr12 (hsz.trans c12)
  obtain ⟨fuel, hf⟩ := h
  obtain ⟨xs, n, _, _, _, hlen, hfl⟩ := DataW.trod_struct Try.underlying62 hf
  match xs, hlen with
  | [y0, y1, y2], _ =>
    have h0 := hfl 0 _ rfl
    have h1 := hfl 1 _ rfl
    have h2 := hfl 2 _ rfl
    obtain ⟨p1, p2, w1⟩ := open_rat4 (c0 := c0) (c1 := c1) (c2 := c2) (c3 := c3) (y := y0) (by simpa [Value.cells, k4] using h0)
    obtain ⟨p3, p4, w2⟩ := open_rat4 (c0 := c4) (c1 := c5) (c2 := c6) (c3 := c7) (y := y1) (by simpa [Value.cells, k4] using h1)
    obtain ⟨p5, p6, w3⟩ := open_rat4 (c0 := c8) (c1 := c9) (c2 := c10) (c3 := c11) (y := y2) (by simpa [Value.cells, k4] using h2)
    exact ⟨[c0, c1, c2, c3, c4, c5, c6, c7, c8, c9, c10, c11], (p1, p2), (p3, p4), (p5, p6), rfl, [c0, c1, c2, c3], _, rfl, w1, [c4, c5, c6, c7], _, rfl, w2, [c8, c9, c10, c11], _, rfl, w3, rfl⟩
theorem open_point {H : Type} {enc : TypeId × Value → H} {W : World} {b0 base : Nat} {spare : Nat → Bool} {held : Bool} {r : Reach} {v : Value} {d : DataW H} {p : List MemPlace}
    (hv : Value.okWide Try.prog W r b0 64 v) (h : DataW.Trod enc Try.prog W base spare held 64 v d p) : ∃ (vs : List Value) (p1 p2 p3 p4 p5 : RI × RI), v = .agg vs.toArray ∧ RatsV W vs [p1, p2, p3, p4, p5] := by
  obtain ⟨cs, rfl, hsz⟩ := okWide_struct Try.underlying64 hv
  have c20 : Try.prog.cellsOf 64 = 20 := by kernel_rfl
  have k4 : Try.prog.cellsOf 26 = 4 := by kernel_rfl
  obtain ⟨c0, c1, c2, c3, c4, c5, c6, c7, c8, c9, d0, d1, d2, d3, d4, d5, d6, d7, d8, d9, rfl⟩ := arr20 (hsz.trans c20)
  obtain ⟨fuel, hf⟩ := h
  obtain ⟨xs, n, _, _, _, hlen, hfl⟩ := DataW.trod_struct Try.underlying64 hf
  match xs, hlen with
  | [y0, y1, y2, y3, y4], _ =>
    have h0 := hfl 0 _ rfl
    have h1 := hfl 1 _ rfl
    have h2 := hfl 2 _ rfl
    have h3 := hfl 3 _ rfl
    have h4 := hfl 4 _ rfl
    obtain ⟨p1, q1, w1⟩ := open_rat4 (c0 := c0) (c1 := c1) (c2 := c2) (c3 := c3) (y := y0) (by simpa [Value.cells, k4] using h0)
    obtain ⟨p2, q2, w2⟩ := open_rat4 (c0 := c4) (c1 := c5) (c2 := c6) (c3 := c7) (y := y1) (by simpa [Value.cells, k4] using h1)
    obtain ⟨p3, q3, w3⟩ := open_rat4 (c0 := c8) (c1 := c9) (c2 := d0) (c3 := d1) (y := y2) (by simpa [Value.cells, k4] using h2)
    obtain ⟨p4, q4, w4⟩ := open_rat4 (c0 := d2) (c1 := d3) (c2 := d4) (c3 := d5) (y := y3) (by simpa [Value.cells, k4] using h3)
    obtain ⟨p5, q5, w5⟩ := open_rat4 (c0 := d6) (c1 := d7) (c2 := d8) (c3 := d9) (y := y4) (by simpa [Value.cells, k4] using h4)
    exact ⟨[c0, c1, c2, c3, c4, c5, c6, c7, c8, c9, d0, d1, d2, d3, d4, d5, d6, d7, d8, d9], (p1, q1), (p2, q2), (p3, q3), (p4, q4), (p5, q5), rfl, [c0, c1, c2, c3], _, rfl, w1, [c4, c5, c6, c7], _, rfl, w2, [c8, c9, d0, d1], _, rfl, w3, [d2, d3, d4, d5], _, rfl, w4, [d6, d7, d8, d9], _, rfl, w5, rfl⟩
end Go.Proofs.Ytdleiiboffkidaa
end

/- ---- FlSideCard ---- -/
section
/-
  The statement FilterSideSaid: for every input the call returns true, and each argument reads behind the call as it read before.
-/
namespace Go.Proofs.Ytdleiiboffkidaa.lawFlSide
open Go.ChangeShapes Go.WideShapes Go.ChangeAt Go.RowKit

set_option maxRecDepth 100000 in
theorem lifted (os : Os) (started : os.Started) (H : Type) (enc : TypeId × Value → H) :
    ReturnsInHanded {} Try.checked os 7 .any (Rows.filterSideSpec.pre6 enc Try.prog Try.f7 Rows.filterSideRow.domain false) (Rows.filterSideSpec.post enc Try.prog Try.f7 false true false false) := by
  refine returnsInHanded_of_change (C := Try.checked) own started (by kernel_rfl) Try.func7
    (ChangeSpec.witness6 (enc := enc) (C := Try.checked) false ⟨#[], #[.agg #[.bool false, .slice none 0 0, .bool false, .slice none 0 0, .bool false, .slice none 0 0, .bool false, .slice none 0 0, .bool false, .slice none 0 0, .bool false, .slice none 0 0], .agg #[.bool false, .slice none 0 0, .bool false, .slice none 0 0, .bool false, .slice none 0 0, .bool false, .slice none 0 0, .bool false, .slice none 0 0, .bool false, .slice none 0 0, .bool false, .slice none 0 0, .bool false, .slice none 0 0, .bool false, .slice none 0 0, .bool false, .slice none 0 0]], []⟩ 8 (by kernel_rfl) (by kernel_rfl) (by kernel_rfl) (by kernel_rfl)) ?_
  intro W base args ds gs before hval0 hW hcnd _
  have hval : ∀ (j : Nat) t v, Try.f7.params[j]? = some t → args[j]? = some v → Value.okWide Try.prog W .any base t v := hval0
  have hW' := hW
  obtain ⟨p, q, hA0, hV, rfl, hfz, hnd⟩ := hW
  have hA : DataW.TrodAll enc Try.prog W 0 (fun _ => true) true Try.f7.params.toList args.toList ds p := hA0
  rw [Try.params7] at hA hval
  obtain ⟨v0, vs0, d0, ds0, p0, q0, hargs, rfl, rfl, h0, r0⟩ := trodAll_cons hA
  obtain ⟨v1, vs1, d1, ds1, p1, q1, rfl, rfl, rfl, h1, r1⟩ := trodAll_cons r0
  obtain ⟨rfl, rfl, rfl⟩ := trodAll_nil r1
  obtain rfl : args = #[v0, v1] := by cases args; simp_all
  obtain ⟨rfl, rfl⟩ := trodVars_none hV
  have k0 := h0
  have lt0 : ∀ x ∈ p0, x.block < W.heap.size := by obtain ⟨m, hm⟩ := k0; exact DataW.trod_lt m _ _ _ hm
  obtain ⟨z0, a0, b0, c0, rfl, w0⟩ := open_line (hval 0 62 v0 rfl rfl) h0
  have k1 := h1
  have lt1 : ∀ x ∈ p1, x.block < W.heap.size := by obtain ⟨m, hm⟩ := k1; exact DataW.trod_lt m _ _ _ hm
  obtain ⟨z1, a1, b1, c1, e1, f1, rfl, w1⟩ := open_point (hval 1 64 v1 rfl rfl) h1
  clear hA0 hval0
  refine (filterSide_calls W z0 z1 a0 b0 c0 a1 b1 c1 e1 f1 w0 w1).mono fun e W' ⟨he, bel⟩ => ?_
  subst he
  exact ⟨_, rfl, _, _, _, [], _, [], hW', trodAll_mk1 (shut_bool Try.underlying4 _), (trodAll_cons_mk (Below.trod laidOut (by kernel_rfl) (of_decide_eq_true (by kernel_rfl)) k0 bel lt0) (trodAll_cons_mk (Below.trod laidOut (by kernel_rfl) (of_decide_eq_true (by kernel_rfl)) k1 bel lt1) trodAll_mk0)), rfl, bel.frame _, fun h => by cases h⟩

theorem over : Rows.filterSideRow.holds Try.pinned (OpenSpec.ofChange Rows.filterSideSpec) :=
  OpenClaim.holds_of_wide 7 Try.f7 rfl rfl rfl rfl rfl rfl rfl ⟨rfl, rfl, rfl, rfl, rfl⟩ rfl rfl rfl rfl rfl (by kernel_rfl) Try.func7 (by kernel_rfl)
    (of_decide_eq_true (by kernel_rfl)) (by unfold Func.isWrapper; first | (rw [if_pos (by decide +kernel)]; kernel_rfl) | (rw [if_neg (by decide +kernel)]; exact ⟨rfl, rfl⟩))
    (fun os started H enc _ => lifted os started H enc)

theorem proved : Rows.FilterSideSaid := over
end Go.Proofs.Ytdleiiboffkidaa.lawFlSide
end
