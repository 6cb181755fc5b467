/-
  Texts of this seat, joined.
-/
import Derived.Test.YtdleiiboffkidaaJ6
import Derived.Shelf.LaysM
import Derived.Shelf.Strings.Cut
import Derived.Shelf.Strconv.AppendUint10
import Derived.Laws.IdiomStrings
import Derived.Lib.LaidTab
import Derived.Shelf.Small.Wraps
import Derived.Deep.DeepCutAuto
/- ---- Fsa ---- -/
section
/-
  Package filter: the square root with floats, at every number.
-/
set_option maxRecDepth 100000
namespace Go.Proofs.Ytdleiiboffkidaa
open Go.RowKit

/-- An environment of machine numbers. -/
def eN (l : List Int) : Env := ⟨fun i => l.getD i 0, fun _ => false, fun _ => (false, []), fun _ => []⟩
def vN (k : IntKind) (i : Nat) : AV := .val false [.n k (.var i)]
theorem vN_holds {l : List Int} {β : Nat → Nat} {w : World} {k : IntKind} {i : Nat} {x : Int} (h : l.getD i 0 = x) : (vN k i).holds (eN l) β w (.int k x) := by
  refine one_num.2 ?_
  show _ = Value.int k (l.getD i 0)
  rw [h]
def gU (t : IT) : Asm := [(.le (.lit 0) t, true), (.le t (.lit 18446744073709551615), true)]
theorem gU_ok {E : Env} {t : IT} (h : 0 ≤ t.den E ∧ t.den E ≤ 18446744073709551615) : Asm.holds E (gU t) := asm_c (decide_eq_true h.1) (asm_c (decide_eq_true h.2) no_asm)
noncomputable def cM : Cfg := cfgOf [(41, kMul64)]
def csqT : Tree :=
  .ite (.eq (.a2 19 (.var 0) (.var 0)) (.var 1))
    (.ite (.eq (.a1 21 (.a2 2 (.var 0) (.var 0))) (.var 2)) (.leaf [(false, [.n .i64 (.lit 0)])])
      (.ite (.lt (.a2 19 (.var 0) (.var 0)) (.var 1)) (.leaf [(false, [.n .i64 (.lit (-1))])])
        (.ite (.lt (.a1 21 (.a2 2 (.var 0) (.var 0))) (.var 2)) (.leaf [(false, [.n .i64 (.lit (-1))])]) (.leaf [(false, [.n .i64 (.lit 1)])]))))
    (.ite (.lt (.a2 19 (.var 0) (.var 0)) (.var 1)) (.leaf [(false, [.n .i64 (.lit (-1))])]) (.leaf [(false, [.n .i64 (.lit 1)])]))
theorem csqT_pick {E : Env} {r N : Nat} (h0 : E.i 0 = (r : Int)) (h1 : E.i 1 = ((N / 18446744073709551616 : Nat) : Int)) (h2 : E.i 2 = ((N % 18446744073709551616 : Nat) : Int)) :
    ∃ z : Int, csqT.pick E = [(false, [.n .i64 (.lit z)])] ∧ z = cmpZ ((r : Int) * r) N := by
  have a : (IT.a2 19 (.var 0) (.var 0)).den E = (((r * r) / 18446744073709551616 : Nat) : Int) := by
    show E.i 0 * E.i 0 / 18446744073709551616 = _
    rw [h0]; omega
  have b : (IT.a1 21 (.a2 2 (.var 0) (.var 0))).den E = (((r * r) % 18446744073709551616 : Nat) : Int) := by
    show IntKind.u64.wrap (E.i 0 * E.i 0) = _
    rw [h0, IntKind.wrap_u64]; omega
  have e1 : ((r : Int) * r) = ((r * r : Nat) : Int) := by omega
  rw [e1]
  generalize r * r = q at *
  have c1 : (BT.eq (.a2 19 (.var 0) (.var 0)) (.var 1)).den E = decide (q / 18446744073709551616 = N / 18446744073709551616) := by
    show (_ == E.i 1) = _
    rw [a, h1, Bool.eq_iff_iff, beq_iff_eq, decide_eq_true_iff]; omega
  have c2 : (BT.eq (.a1 21 (.a2 2 (.var 0) (.var 0))) (.var 2)).den E = decide (q % 18446744073709551616 = N % 18446744073709551616) := by
    show (_ == E.i 2) = _
    rw [b, h2, Bool.eq_iff_iff, beq_iff_eq, decide_eq_true_iff]; omega
  have c3 : (BT.lt (.a2 19 (.var 0) (.var 0)) (.var 1)).den E = decide (q / 18446744073709551616 < N / 18446744073709551616) := by
    show decide (_ < E.i 1) = _
    rw [a, h1, decide_eq_decide]; omega
  have c4 : (BT.lt (.a1 21 (.a2 2 (.var 0) (.var 0))) (.var 2)).den E = decide (q % 18446744073709551616 < N % 18446744073709551616) := by
    show decide (_ < E.i 2) = _
    rw [b, h2, decide_eq_decide]; omega
  have hcase : (q = N ∧ cmpZ (q : Int) N = 0) ∨ (q < N ∧ cmpZ (q : Int) N = -1) ∨ (N < q ∧ cmpZ (q : Int) N = 1) := by
    rcases Nat.lt_trichotomy q N with h | h | h
    · exact .inr (.inl ⟨h, cmpZ_lt (by omega)⟩)
    · exact .inl ⟨h, cmpZ_eq (by omega)⟩
    · exact .inr (.inr ⟨h, cmpZ_gt (by omega)⟩)
  simp only [csqT, Tree.pick, c1, c2, c3, c4, decide_eq_true_eq]
  split
  · split
    · exact ⟨_, rfl, by omega⟩
    · split
      · exact ⟨_, rfl, by omega⟩
      · split
        · exact ⟨_, rfl, by omega⟩
        · exact ⟨_, rfl, by omega⟩
  · split
    · exact ⟨_, rfl, by omega⟩
    · exact ⟨_, rfl, by omega⟩
theorem csq_any (w : World) (r N : Nat) (hr : r < 18446744073709551616) (v : Value) (hv : v = .int .u64 (r : Int)) (v1 : Value) (hv1 : v1 = .int .u64 ((N / 18446744073709551616 : Nat) : Int)) (v2 : Value) (hv2 : v2 = .int .u64 ((N % 18446744073709551616 : Nat) : Int)) :
    Calls Try.prog 85 #[v, v1, v2] w fun e w' => e = .returned (.int .i64 (cmpZ ((r : Int) * r) N)) ∧ Ext w w' := by
  subst hv hv1 hv2
  refine (fun_sound (C := cM) (E := eN [(r : Int), ((N / 18446744073709551616 : Nat) : Int), ((N % 18446744073709551616 : Nat) : Int)]) (G := gU (.var 0)) (args := [vN .u64 0, vN .u64 1, vN .u64 2]) (T := csqT)
    mixed (cfg_ok (.cons kMul64_ok .nil)) (gU_ok ?_) Try.func85 (by decide +kernel) (by kernel_rfl) (by decide +kernel) rfl w [.int .u64 (r : Int), .int .u64 _, .int .u64 _] rfl ?_).mono ?_
  · show 0 ≤ (r : Int) ∧ (r : Int) ≤ 18446744073709551615
    omega
  · intro i x hx
    match i, hx with
    | 0, hx => injection hx with hx; subst hx; exact ⟨fun _ => 0, _, rfl, vN_holds rfl⟩
    | 1, hx => injection hx with hx; subst hx; exact ⟨fun _ => 0, _, rfl, vN_holds rfl⟩
    | 2, hx => injection hx with hx; subst hx; exact ⟨fun _ => 0, _, rfl, vN_holds rfl⟩
  · rintro e w' ⟨β, u, rfl, hh, ex⟩
    obtain ⟨z, hz, hz2⟩ := csqT_pick (E := eN [(r : Int), ((N / 18446744073709551616 : Nat) : Int), ((N % 18446744073709551616 : Nat) : Int)]) (r := r) (N := N) rfl rfl rfl
    rw [hz] at hh
    have h1 : u = .int .i64 z := one_num.1 hh
    rw [h1, hz2]
    exact ⟨rfl, ex⟩
/-- What the floats come to. -/
theorem float_root (n : Nat) (hn : n < 4611686018427387904) : ∃ x r t : Nat, FloatKind.f64.format.mul (floatOfInt .f64 (n : Int)) 4679240012837945344 = some x ∧ FloatKind.f64.format.sqrt x = some r ∧ floatToIntVal .f64 r .u64 = some (t : Int) ∧ (t = isqN (n * 65536) ∨ t = isqN (n * 65536) + 1) ∧ t < 4294967296 * 4294967296 := by
  by_cases h0 : n = 0
  · subst h0
    refine ⟨0, 0, 0, by decide +kernel, by decide +kernel, by decide +kernel, .inl (by decide), by decide⟩
  · obtain ⟨h1, h2⟩ := isqN_spec (n * 65536)
    obtain ⟨x, r, t, e1, e2, e3, e4⟩ := float_sqrt h0 hn h1 h2
    have hb : t < 18446744073709551616 := by
      have : isqN (n * 65536) ≤ n * 65536 := by
        refine Nat.le_trans ?_ h1
        exact Nat.le_mul_self _
      have : isqN (n * 65536) < 4611686018427387904 := by
        refine Decidable.byContradiction fun h => ?_
        have := Nat.mul_le_mul (show 4611686018427387904 ≤ isqN (n * 65536) by omega) (show 4611686018427387904 ≤ isqN (n * 65536) by omega)
        omega
      omega
    refine ⟨x, r, t, ?_, e2, ?_, e4, hb⟩
    · have : floatOfInt .f64 (n : Int) = Ieee.double.nearest false n 0 := by
        show Ieee.double.nearest (decide ((n : Int) < 0)) ((n : Int).natAbs) 0 = _
        rw [show decide ((n : Int) < 0) = false from decide_eq_false (by omega), Int.natAbs_natCast]
      rw [this]
      exact e1
    · unfold floatToIntVal
      have : (FloatKind.decode .f64 r).toInt .zero = some (t : Int) := e3
      rw [this]
      have m1 : IntKind.u64.min = 0 := rfl
      have m2 : IntKind.u64.max = 18446744073709551615 := rfl
      simp only [m1, m2]
      rw [if_pos (by omega)]
end Go.Proofs.Ytdleiiboffkidaa
end

/- ---- Fsb ---- -/
section
/-
  Package filter: sqrt, for every number from 0 on.
-/
set_option maxRecDepth 100000
namespace Go.Proofs.Ytdleiiboffkidaa
open Go.RowKit

def RetFs (n : Nat) (w : World) (e : Ending) (w' : World) : Prop :=
  e = .returned (.tuple #[.int .u64 (isqN (n * 65536) : Int), .bool (isqN (n * 65536) * isqN (n * 65536) == n * 65536)]) ∧ Ext w w'
theorem tdiv_hi (n : Nat) : ((n * 65536 / 18446744073709551616 : Nat) : Int) = ((n : Int) * 65536) / 18446744073709551616 := by omega
set_option maxRecDepth 100000 in
theorem fsqrt_any (w : World) (n : Nat) (hn : n < 4611686018427387904) : Calls Try.prog 54 #[.int .i64 (n : Int)] w (RetFs n w) := by
  obtain ⟨x, r, t, e1, e2, e3, e4, hb⟩ := float_root n hn
  obtain ⟨s, hs⟩ : ∃ s, s = isqN (n * 65536) := ⟨_, rfl⟩
  obtain ⟨s1, s2⟩ : IsSq (n * 65536) s := by rw [hs]; exact isqN_spec _
  rw [← hs] at e4
  unfold RetFs
  rw [← hs]
  obtain ⟨N, hN⟩ : ∃ N, N = n * 65536 := ⟨_, rfl⟩
  rw [← hN] at s1 s2 ⊢
  have hfm := Lib.hid e1
  have hsq := Lib.hid e2
  have hti := Lib.hid e3
  clear e1 e2 e3
  have hNn := Lib.hid hN
  have hnn := Lib.hid hn
  have S1 := Lib.hid s1
  have S2 := Lib.hid s2
  have E4 := Lib.hid e4
  have HB := Lib.hid hb
  clear hN hn s1 s2 e4 hb hs
  obtain ⟨m, hm⟩ : ∃ m : Int, m = (n : Int) := ⟨_, rfl⟩
  rw [← hm]
  have HM := Lib.hid hm
  clear hm
  go_enter Try.func54, Try.ntmps54
  go_wp2_with fail
  have hw : IntKind.u64.wrap m = (n : Int) := by
    have := HM.out
    have := hnn.out
    rw [IntKind.wrap_u64]; omega
  rw [hw]
  refine (mul64_calls w n 65536 (by have := hnn.out; omega) (by omega)).mono ?_
  rintro e w' ⟨rfl, rfl⟩
  rw [← hNn.out]
  go_wp2_with fail
  have hm := run_float_arith (P := Try.prog) w' .mul 117 .f64 (floatOfInt .f64 m) 4679240012837945344 x (by rw [HM.out]; exact hfm.out)
  rw [hm]
  simp only [Result.andThen_ok, Oper.upon_value]
  clear hm
  go_wp2_with fail
  refine (mathSqrt_calls w' x r hsq.out).mono ?_
  rintro e w2 ⟨rfl, ex⟩
  go_wp2_with fail
  rw [run_convert_float_int (P := Try.prog) (w := w2) 117 75 .f64 .u64 r (t : Int) (by kernel_rfl) Try.underlying75 hti.out]
  simp only [Result.andThen_ok, Oper.upon_value]
  go_wp2_with fail
  refine (csq_any w2 t N (by have := HB.out; omega) _ rfl _ rfl _ rfl).mono ?_
  rintro e w3 ⟨rfl, ex3⟩
  have hcase : (cmpZ ((t : Int) * t) N = 0 ∧ t = s ∧ s * s = N) ∨ (cmpZ ((t : Int) * t) N = -1 ∧ t = s ∧ s * s < N) ∨ (cmpZ ((t : Int) * t) N = 1 ∧ t = s + 1) := by
    have k1 := S1.out
    have k2 := S2.out
    rcases E4.out with rfl | rfl
    · have e : ((t : Int) * t) = ((t * t : Nat) : Int) := by omega
      rcases Nat.lt_or_eq_of_le k1 with h | h
      · exact .inr (.inl ⟨cmpZ_lt (by rw [e]; omega), rfl, h⟩)
      · exact .inl ⟨cmpZ_eq (by rw [e]; omega), rfl, h⟩
    · have e : (((s + 1 : Nat) : Int) * ((s + 1 : Nat) : Int)) = (((s + 1) * (s + 1) : Nat) : Int) := by omega
      exact .inr (.inr ⟨cmpZ_gt (by rw [e]; omega), rfl⟩)
  have hb := HB.out
  rcases hcase with ⟨hc, ht, hx⟩ | ⟨hc, ht, hx⟩ | ⟨hc, ht⟩
  · rw [hc]
    clear hw
    subst ht
    go_wp2_with fail
    refine (csq_any w3 t N (by omega) _ rfl _ rfl _ rfl).mono ?_
    rintro e w4 ⟨rfl, ex4⟩
    rw [hc]
    go_wp2_with fail
    go_ret2
    refine ⟨?_, ex.trans (ex3.trans ex4)⟩
    rw [show (t * t == N) = true from beq_iff_eq.2 hx]
    rfl
  · rw [hc]
    clear hw
    subst ht
    go_wp2_with fail
    refine (csq_any w3 t N (by omega) _ rfl _ rfl _ rfl).mono ?_
    rintro e w4 ⟨rfl, ex4⟩
    rw [hc]
    go_wp2_with fail
    go_ret2
    refine ⟨?_, ex.trans (ex3.trans ex4)⟩
    rw [show (t * t == N) = false from beq_eq_false_iff_ne.2 (by omega)]
    rfl
  · rw [hc]
    clear hw
    have hw2 : IntKind.u64.wrap ((t : Int) - 1) = (s : Int) := by
      rw [IntKind.wrap_u64]; omega
    have HT := Lib.hid ht
    clear ht
    go_wp2_with fail
    refine (csq_any w3 s N (by have := HT.out; omega) _ rfl _ rfl _ rfl).mono ?_
    rintro e w4 ⟨rfl, ex4⟩
    have hd : (cmpZ ((s : Int) * s) N = 0 ∧ (s * s == N) = true) ∨ (cmpZ ((s : Int) * s) N = -1 ∧ (s * s == N) = false) := by
      have e : ((s : Int) * s) = ((s * s : Nat) : Int) := by omega
      rcases Nat.lt_or_eq_of_le S1.out with h | h
      · exact .inr ⟨cmpZ_lt (by rw [e]; omega), beq_eq_false_iff_ne.2 (by omega)⟩
      · exact .inl ⟨cmpZ_eq (by rw [e]; omega), beq_iff_eq.2 h⟩
    rcases hd with ⟨h1, h2⟩ | ⟨h1, h2⟩
    · rw [h1]
      go_wp2_with fail
      go_ret2
      refine ⟨?_, ex.trans (ex3.trans ex4)⟩
      rw [h2]
      rfl
    · rw [h1]
      go_wp2_with fail
      go_ret2
      refine ⟨?_, ex.trans (ex3.trans ex4)⟩
      rw [h2]
      rfl
end Go.Proofs.Ytdleiiboffkidaa
end

/- ---- Fsc ---- -/
section
/-
  Package filter: sqrt for the walker; results that may not exist.
-/
set_option maxRecDepth 100000
namespace Go.Proofs.Ytdleiiboffkidaa
open Go.RowKit

def sqfT (t : IT) : IT := .a1 2 (.a2 2 t (.lit 65536))
def natT (G : Asm) (t : IT) : Bool :=
  match t.cl with
  | some z => decide (0 ≤ z) && decide (z ≤ 2305843009213693952)
  | none => G.find (.le (.lit 0) t) == some true && G.find (.le t (.lit 2305843009213693952)) == some true
theorem natT_spec {E : Env} {G : Asm} (hG : G.holds E) {t : IT} (h : natT G t = true) : 0 ≤ t.den E ∧ t.den E ≤ 2305843009213693952 := by
  unfold natT at h
  split at h
  · rename_i z hz
    rw [Bool.and_eq_true, decide_eq_true_iff, decide_eq_true_iff] at h
    rw [IT.cl_spec hz]
    exact h
  · rw [Bool.and_eq_true, beq_iff_eq, beq_iff_eq] at h
    have f1 := of_decide_eq_true (Asm.find_spec hG h.1)
    have f2 := of_decide_eq_true (Asm.find_spec hG h.2)
    simp only [IT.den] at f1 f2
    omega
def kFs : Con
  | [.val false [.n .i64 t]], G => if natT G t then some (.tup [(false, [.n .u64 (sqfT t)]), (false, [.b (.eq (.a2 2 (sqfT t) (sqfT t)) (.a2 2 t (.lit 65536)))])]) else none
  | _, _ => none
theorem kFs_ok {E : Env} : ConOK Try.prog E 54 kFs := by
  refine ⟨?_, ?_, ⟨_, Try.func54, by decide +kernel, by kernel_rfl⟩⟩
  · intro args G r h hG β w vs hv hlen
    unfold kFs at h
    split at h
    · rename_i t
      split at h
      · rename_i hc
        obtain ⟨a1, a2⟩ := natT_spec hG hc
        injection h with h
        subst h
        obtain ⟨v, rfl, h1⟩ := args1 hv hlen
        have h1' := one_num.1 h1
        obtain ⟨n, hn⟩ : ∃ n : Nat, t.den E = (n : Int) := ⟨(t.den E).toNat, by omega⟩
        rw [hn] at h1'
        subst h1'
        have e1 : (sqfT t).den E = (isqN (n * 65536) : Int) := by
          show isq (t.den E * 65536) = _
          rw [hn]
          unfold isq
          rw [if_neg (by omega)]
          congr 2
        refine (fsqrt_any w n (by omega)).mono ?_
        rintro e w' ⟨rfl, ex⟩
        refine ⟨_, rfl, ⟨[_, _], rfl, _, _, rfl, one_num.2 ?_, _, _, rfl, one_bool.2 ?_, rfl⟩, ex⟩
        · rw [e1]
        · congr 1
          show _ = (((sqfT t).den E * (sqfT t).den E) == (t.den E * 65536))
          rw [e1, hn, Bool.eq_iff_iff, beq_iff_eq, beq_iff_eq]
          constructor
          · intro h; rw [← Int.natCast_mul, h]; omega
          · intro h
            have : ((isqN (n * 65536) * isqN (n * 65536) : Nat) : Int) = ((n * 65536 : Nat) : Int) := by rw [Int.natCast_mul, h]; omega
            exact Int.ofNat.inj this
      · cases h
    · cases h
  · intro args G r h x off
    unfold kFs at h
    split at h
    · split at h
      · injection h with h; subst h; intro e; cases e
      · cases h
    · cases h
/-- Results that may not exist. -/
def ivV (o : Option (Int × Int)) : Value := match o with
  | some (x, y) => .tuple #[.agg #[.int .i64 x, .int .i64 y], .bool true]
  | none => .tuple #[.agg #[.int .i64 0, .int .i64 0], .bool false]
def prpB (x y : Int) : Bool := decide (x ≤ y) && (decide (-2305843009213693952 ≤ x) && decide (y ≤ 2305843009213693952))
def prI (x y : Int) : Option (Int × Int) := if prpB x y then some (x, y) else none
def exT (x y : IT) : BT := .and (.le x y) (.and (.le lM x) (.le y lP))
theorem exT_den {E : Env} (x y : IT) : (exT x y).den E = prpB (x.den E) (y.den E) := rfl
def tIv (x y : IT) : AV := .tup [(true, [.n .i64 x, .n .i64 y]), (false, [.b (.lit true)])]
def tNo : AV := .tup [(true, [.n .i64 (.lit 0), .n .i64 (.lit 0)]), (false, [.b (.lit false)])]
theorem tIv_holds {E : Env} {β : Nat → Nat} {w : World} {x y : IT} {a b : Int} (hx : x.den E = a) (hy : y.den E = b) : (tIv x y).holds E β w (ivV (some (a, b))) := by
  subst hx hy
  exact ⟨[_, _], rfl, _, _, rfl, ⟨[_, _], rfl, [_], _, rfl, rfl, [_], [], rfl, rfl, rfl⟩, _, _, rfl, one_bool.2 rfl, rfl⟩
theorem tNo_holds {E : Env} {β : Nat → Nat} {w : World} : tNo.holds E β w (ivV none) :=
  ⟨[_, _], rfl, _, _, rfl, ⟨[_, _], rfl, [_], _, rfl, rfl, [_], [], rfl, rfl, rfl⟩, _, _, rfl, one_bool.2 rfl, rfl⟩
def kEx (lo hi : IT) (G : Asm) : Option AV := match (exT lo hi).ev G with
  | some true => some (tIv lo hi)
  | some false => some tNo
  | none => none
theorem kEx_holds {E : Env} {G : Asm} {lo hi : IT} {r : AV} (hG : G.holds E) (h : kEx lo hi G = some r) {β : Nat → Nat} {w : World} : r.holds E β w (ivV (prI (lo.den E) (hi.den E))) := by
  unfold kEx at h
  split at h
  · rename_i he
    injection h with h
    subst h
    have := BT.ev_spec hG he
    rw [exT_den] at this
    unfold prI
    rw [if_pos this]
    exact tIv_holds rfl rfl
  · rename_i he
    injection h with h
    subst h
    have := BT.ev_spec hG he
    rw [exT_den] at this
    unfold prI
    rw [if_neg (by rw [this]; decide)]
    exact tNo_holds
  · cases h
theorem kEx_nptr {lo hi : IT} {G : Asm} {r : AV} (h : kEx lo hi G = some r) : ∀ x off, r ≠ .ptr x off := by
  intro x off
  unfold kEx at h
  split at h
  · injection h with h; subst h; intro e; cases e
  · injection h with h; subst h; intro e; cases e
  · cases h
/-- A leaf of a walk, and its call. -/
theorem fun_leaf {C : Cfg} {E : Env} (hC : CfgOK Try.prog E C) {G : Asm} (hG : G.holds E) {f : FuncId} {fn : Func} (hf : Try.prog.funcs[f]? = some fn) (h4 : fn.results.toList.length ≤ 4) {args : List AV} {l : List (Bool × List Chunk)} (hT : funE C fn G args = some (.leaf l)) (hn : args.length ≤ fn.ntmps) (hp : args.all noPtr = true) (hw : ∀ w, C.wok w) (w : World) (vs : List Value) (hl : vs.length = args.length)
    (hv : ∀ (i : Nat) (x : AV), args[i]? = some x → ∃ v, vs[i]? = some v ∧ ∀ β, x.holds E β w v) : Calls Try.prog f vs.toArray w (fun e w' => ∃ β v, e = .returned v ∧ (toAV l).holds E β w' v ∧ Ext w w') := by
  refine (fun_sound mixed hC hG hf h4 hT hn hp w vs hl (fun i x hx => ?_) (fun w' _ => hw w')).mono ?_
  · obtain ⟨v, h1, h2⟩ := hv i x hx
    exact ⟨fun _ => 0, v, h1, h2 _⟩
  · rintro e w' ⟨β, v, h1, h2, h3⟩
    exact ⟨β, v, h1, h2, h3⟩
end Go.Proofs.Ytdleiiboffkidaa
end

/- ---- Rfb ---- -/
section
/-
  RationalField: sums and products are associative, commutative and distributive; differences and quotients undo them.
-/
set_option maxRecDepth 100000
namespace Go.Proofs.Ytdleiiboffkidaa
open Go.RowKit

def fieldOut : BT := qsame (qop 4 (qop 2 (qv 0) (qv 2)) (qv 2)) (qv 0)
def leafB (b : BT) : Tree := .leaf [(false, [.b b])]
def fieldT : Tree :=
  .ite (qsame (qop 0 (qop 0 (qv 0) (qv 1)) (qv 2)) (qop 0 (qv 1) (qop 0 (qv 2) (qv 0))))
    (.ite (qsame (qop 2 (qop 2 (qv 0) (qv 1)) (qv 2)) (qop 2 (qv 1) (qop 2 (qv 2) (qv 0))))
      (.ite (qsame (qop 2 (qv 0) (qop 0 (qv 1) (qv 2))) (qop 0 (qop 2 (qv 0) (qv 1)) (qop 2 (qv 0) (qv 2))))
        (.ite (qsame (qop 1 (qop 0 (qv 0) (qv 1)) (qv 1)) (qv 0))
          (.ite (.eq (.a2 3 (.var 4) (.lit 0)) (.lit 0))
            (.ite (.eq (.a1 1 (.var 4)) (.lit 6)) (.ite (.eq (.a1 1 (.var 4)) (.lit 0)) (leafB fieldOut) (leafB (.lit true))) (leafB (.lit false)))
            (.ite (.eq (.a1 1 (.var 4)) (.lit 6)) (leafB (.lit false)) (.ite (.eq (.a1 1 (.var 4)) (.lit 0)) (leafB fieldOut) (leafB (.lit true)))))
          (leafB (.lit false))) (leafB (.lit false))) (leafB (.lit false))) (leafB (.lit false))
end Go.Proofs.Ytdleiiboffkidaa
end

/- ---- Ree ---- -/
section
/-
  Simplest, at the constants of awake.
-/
set_option maxRecDepth 100000
namespace Go.Proofs.Ytdleiiboffkidaa
open Go.RowKit

def argL (i l : Nat) : AV := .val true [.int (.var (2 * i)) l, .int (.var (2 * i + 1)) l]
def kConv : Con
  | [.val true [.int x l, .int y m], .val true [.int z k, .int t j], .val true [.int u n]], _ => if decide (l ≤ 1000) && (decide (m ≤ 1000) && (decide (k ≤ 1000) && (decide (j ≤ 1000) && decide (n ≤ 1000)))) then
      some (.val true [.int (.a2 0 (.a2 2 u x) z) (n + l + k + 1), .int (.a2 0 (.a2 2 u y) t) (n + m + j + 1)]) else none
  | _, _ => none
def litP (a b : Int) : AV := .val true [.int (.lit a) 1, .int (.lit b) 1]
theorem lim1 {z : Int} (h : z.natAbs < 1000000000) : Lim 1 z := limbs_len_le (by simpa using h)
def leafP : Tree → Option (Int × Int)
  | .leaf [(true, [.int x _, .int y _])] => match x.cl, y.cl with
    | some p, some q => some (p, q)
    | _, _ => none
  | _ => none
def leafPE : Tree → Option (Int × Int × Int)
  | .leaf [(true, [.int x _, .int y _]), (false, [.n .i64 z])] => match x.cl, y.cl, z.cl with
    | some p, some q, some e => some (p, q, e)
    | _, _, _ => none
  | _ => none
theorem leafP_spec {E : Env} {β : Nat → Nat} {w : World} {T : Tree} {p q : Int} {v : Value} (h : leafP T = some (p, q)) (hh : (toAV (T.pick E)).holds E β w v) : IsPair w v p q := by
  unfold leafP at h
  split at h
  · split at h
    · rename_i a b ha hb
      injection h with h
      injection h with h1 h2
      subst h1 h2
      have := (one_pair.1 hh).1
      rw [IT.cl_spec ha, IT.cl_spec hb] at this
      exact this
    · cases h
  · cases h
theorem leafPE_spec {E : Env} {β : Nat → Nat} {w : World} {T : Tree} {p q e : Int} {v : Value} (h : leafPE T = some (p, q, e)) (hh : (toAV (T.pick E)).holds E β w v) : ∃ u, v = .tuple #[u, .int .i64 e] ∧ IsPair w u p q := by
  unfold leafPE at h
  split at h
  · split at h
    · rename_i a b c ha hb hc
      injection h with h
      injection h with h1 h2
      injection h2 with h2 h3
      subst h1 h2 h3
      obtain ⟨u, rfl, hp⟩ := open_quot hh
      rw [IT.cl_spec ha, IT.cl_spec hb] at hp
      rw [IT.cl_spec hc]
      exact ⟨u, rfl, hp⟩
    · cases h
  · cases h
theorem litP_holds {E : Env} {β : Nat → Nat} {w : World} {v : Value} {a b : Int} (h : IsPair w v a b) (l1 : Lim 1 a) (l2 : Lim 1 b) : (litP a b).holds E β w v := one_pair.2 ⟨h, l1, l2⟩
/-- simplestPositive at the constants. -/
def kSP : Con
  | [.val true [.int (.lit a) l, .int (.lit b) m], .val true [.int (.lit c) k, .int (.lit d) j]], _ =>
    if l == 1 && (m == 1 && (k == 1 && j == 1)) then
      if a == 3 && (b == 10 && (c == 2 && d == 5)) then some (.val true [.int (.lit 1) 1, .int (.lit 3) 1])
      else if a == 2 && (b == 1 && (c == 3 && d == 1)) then some (.val true [.int (.lit 5) 1, .int (.lit 2) 1]) else none
    else none
  | _, _ => none
end Go.Proofs.Ytdleiiboffkidaa
end

/- ---- Rsi ---- -/
section
/-
  Simplest, at the constants of awake.
-/
set_option maxRecDepth 100000
namespace Go.Proofs.Ytdleiiboffkidaa
open Go.RowKit

def kValP : Con
  | [.val true [.int x l, .int y m]], _ => if decide (l ≤ 100000) && decide (m ≤ 100000) then some (.val false [.b (.and (.lt (.lit 0) y) (.eq (.a2 6 x y) (.lit 1)))]) else none
  | _, _ => none
end Go.Proofs.Ytdleiiboffkidaa
end

/- ---- Rsr ---- -/
section
/-
  Square roots of rational numbers.
-/
set_option maxRecDepth 100000
namespace Go.Proofs.Ytdleiiboffkidaa
open Go.RowKit

theorem isqN_le (n : Nat) : isqN n ≤ n := by
  induction n with
  | zero => exact Nat.le_refl _
  | succ n ih =>
    unfold isqN
    split <;> omega
theorem isq_lim {l : Nat} {z : Int} (h : Lim l z) : Lim l (isq z) := by
  refine h.natAbs_le ?_
  unfold isq
  split
  · simp
  · rw [Int.natAbs_natCast]; exact isqN_le _
def kSqI : Con
  | [.val true [.int x l]], _ => if lo l then some (.tup [(true, [.int (.a1 2 x) l]), (false, [.n .i64 (.a1 3 x)])]) else none
  | _, _ => none
/-- Whether an integer is a square. -/
def sqB (z : Int) : Bool := isqE z == 0 && cmpZ (isq z * isq z) z == 0
def kSqr : Con
  | [.val true [.int x l]], _ => if decide (l ≤ 100000) then some (.tup [(true, [.int (.a1 2 x) l]), (false, [.b (.and (.eq (.a1 3 x) (.lit 0)) (.eq (.a2 3 (.a2 2 (.a1 2 x) (.a1 2 x)) x) (.lit 0)))])]) else none
  | _, _ => none
end Go.Proofs.Ytdleiiboffkidaa
end

/- ---- Sxi ---- -/
section
/-
  A walker that goes by reckoning: loops of any number of rounds, by what each round keeps.
-/
set_option maxRecDepth 100000
namespace Go.Proofs.Ytdleiiboffkidaa
open Go.RowKit

def lookN {α : Type} : List (Nat × α) → Nat → Option α
  | [], _ => none
  | p :: l, t => if p.1 == t then some p.2 else lookN l t
theorem lookN_mem {α : Type} : ∀ {l : List (Nat × α)} {t : Nat} {x : α}, lookN l t = some x → (t, x) ∈ l
  | [], _, _, h => by simp [lookN] at h
  | p :: l, t, x, h => by
    unfold lookN at h
    split at h
    · rename_i hp
      have : p.1 = t := by simpa using hp
      injection h with h
      obtain ⟨a, b⟩ := p
      simp only at this h
      subst this h
      exact List.mem_cons_self
    · exact List.mem_cons_of_mem _ (lookN_mem h)
/-- Numbers of an environment, turned. -/
def updI : List Nat → List Int → Nat → Option Int
  | v :: vs, z :: zs, k => if k = v then some z else updI vs zs k
  | _, _, _ => none
def Env.upd (E : Env) (vs : List Nat) (zs : List Int) : Env := { E with i := fun k => (updI vs zs k).getD (E.i k) }
theorem updI_map (f : Nat → Int) : ∀ (vs : List Nat) (k : Nat), updI vs (vs.map f) k = if k ∈ vs then some (f k) else none
  | [], k => rfl
  | v :: vs, k => by
    simp only [List.map_cons, updI, List.mem_cons]
    by_cases h : k = v
    · subst h; simp
    · rw [if_neg h, updI_map f vs k]
      simp [h]
/-- What a loop keeps: slots, variables, the numbers that turn, what is known of them, and how long they are. -/
structure LInv where
  lk : List (Nat × AV)
  vr : List (Nat × List Chunk)
  vs : List Nat
  G : Asm
  lm : List (Nat × Nat)
def LInv.st (I : LInv) : St := ⟨lookN I.lk, lookN I.vr⟩
def IT.free (vs : List Nat) : IT → Bool
  | .var i => !(vs.contains i)
  | .lit _ => true
  | .rlen _ => true
  | .slen _ => true
  | .a1 _ x => x.free vs
  | .a2 _ x y => x.free vs && y.free vs
  | .a4 _ x y z t => (x.free vs && y.free vs) && (z.free vs && t.free vs)
def ST.free (vs : List Nat) : ST → Bool
  | .lit _ => true
  | .var _ => true
  | .fmt z => z.free vs
  | .cat x y => x.free vs && y.free vs
def BT.free (vs : List Nat) : BT → Bool
  | .seq x y => x.free vs && y.free vs
  | .lit _ => true
  | .var _ => true
  | .eq x y => x.free vs && y.free vs
  | .lt x y => x.free vs && y.free vs
  | .le x y => x.free vs && y.free vs
  | .ok _ => true
  | .and x y => x.free vs && y.free vs
  | .not x => x.free vs
theorem IT.den_free {E : Env} {vs : List Nat} {zs : List Int} (hz : zs.length = vs.length) : ∀ {t : IT}, t.free vs = true → t.den (E.upd vs zs) = t.den E := by
  have hup : ∀ (vs : List Nat) (zs : List Int) (k : Nat), k ∉ vs → updI vs zs k = none := by
    intro vs
    induction vs with
    | nil => intro zs k _; simp [updI]
    | cons v vs ih =>
      intro zs k hk
      cases zs with
      | nil => rfl
      | cons z zs =>
        simp only [updI]
        rw [if_neg (fun e => hk (by rw [e]; simp))]
        exact ih zs k (fun h => hk (by simp [h]))
  intro t
  induction t with
  | var i =>
    intro h
    simp only [IT.free, Bool.not_eq_true', List.contains_eq_mem, decide_eq_false_iff_not] at h
    simp only [IT.den, Env.upd, hup vs zs i h, Option.getD_none]
  | lit z => intro _; rfl
  | rlen i => intro _; rfl
  | slen i => intro _; rfl
  | a1 f x ih => intro h; simp only [IT.free] at h; simp only [IT.den, ih h]
  | a2 f x y ihx ihy => intro h; simp only [IT.free, Bool.and_eq_true] at h; simp only [IT.den, ihx h.1, ihy h.2]
  | a4 f x y z t ihx ihy ihz iht =>
    intro h
    simp only [IT.free, Bool.and_eq_true] at h
    simp only [IT.den, ihx h.1.1, ihy h.1.2, ihz h.2.1, iht h.2.2]
theorem ST.den_free {E : Env} {vs : List Nat} {zs : List Int} (hz : zs.length = vs.length) : ∀ {t : ST}, t.free vs = true → t.den (E.upd vs zs) = t.den E := by
  intro t
  induction t with
  | lit l => intro _; rfl
  | var i => intro _; rfl
  | fmt z => intro h; simp only [ST.free] at h; simp only [ST.den, IT.den_free hz h]
  | cat x y ihx ihy => intro h; simp only [ST.free, Bool.and_eq_true] at h; simp only [ST.den, ihx h.1, ihy h.2]
theorem BT.den_free {E : Env} {vs : List Nat} {zs : List Int} (hz : zs.length = vs.length) : ∀ {t : BT}, t.free vs = true → t.den (E.upd vs zs) = t.den E := by
  intro t
  induction t with
  | lit b => intro _; rfl
  | var i => intro _; rfl
  | ok i => intro _; rfl
  | seq x y => intro h; simp only [BT.free, Bool.and_eq_true] at h; simp only [BT.den, ST.den_free hz h.1, ST.den_free hz h.2]
  | eq x y => intro h; simp only [BT.free, Bool.and_eq_true] at h; simp only [BT.den, IT.den_free hz h.1, IT.den_free hz h.2]
  | lt x y => intro h; simp only [BT.free, Bool.and_eq_true] at h; simp only [BT.den, IT.den_free hz h.1, IT.den_free hz h.2]
  | le x y => intro h; simp only [BT.free, Bool.and_eq_true] at h; simp only [BT.den, IT.den_free hz h.1, IT.den_free hz h.2]
  | and x y ihx ihy => intro h; simp only [BT.free, Bool.and_eq_true] at h; simp only [BT.den, ihx h.1, ihy h.2]
  | not x ih => intro h; simp only [BT.free] at h; simp only [BT.den, ih h]

/-- The terms for the numbers that turn: sought (not trusted), then held against the state. -/
abbrev Sig := List (Nat × IT)
def colT (vs : List Nat) (p t : IT) (σ : Sig) : Sig :=
  match p with
  | .var i => if vs.contains i && (lookN σ i).isNone then (i, t) :: σ else σ
  | _ => σ
def colC (vs : List Nat) : Chunk → Chunk → Sig → Sig
  | .int p _, .int t _, σ => colT vs p t σ
  | .n _ p, .n _ t, σ => colT vs p t σ
  | .mag p _, .mag t _, σ => colT vs p t σ
  | _, _, σ => σ
def colCs (vs : List Nat) : List Chunk → List Chunk → Sig → Sig
  | c :: cs, d :: ds, σ => colCs vs cs ds (colC vs c d σ)
  | _, _, σ => σ
def colV (vs : List Nat) : AV → AV → Sig → Sig
  | .val _ cs, .val _ ds, σ => colCs vs cs ds σ
  | _, _, σ => σ
def colS (I : LInv) (S : St) : Sig :=
  I.vr.foldl (fun σ p => match S.var p.1 with | some ds => colCs I.vs p.2 ds σ | none => σ) (I.lk.foldl (fun σ p => match S.look p.1 with | some x => colV I.vs p.2 x σ | none => σ) [])
def okT (vs : List Nat) (σ : Sig) (p t : IT) : Bool :=
  match p with
  | .var i => if vs.contains i then (match lookN σ i with | some u => u.beq t | none => false) else t.beq (.var i)
  | p => p.free vs && p.beq t
def okL (I : LInv) (p : IT) (l m : Nat) : Bool :=
  match p with
  | .var i => if I.vs.contains i then I.lm.contains (i, l) else decide (m ≤ l)
  | _ => decide (m ≤ l)
def okC (I : LInv) (σ : Sig) : Chunk → Chunk → Bool
  | .b p, .b t => p.free I.vs && p.beq t
  | .n k p, .n j t => decide (k = j) && okT I.vs σ p t
  | .int p l, .int t m => okT I.vs σ p t && okL I p l m
  | .mag p l, .mag t m => okT I.vs σ p t && okL I p l m
  | .raw i, .raw j => i == j
  | .rmag i, .rmag j => i == j
  | .fn f, .fn g => f == g
  | .nilSlice, .nilSlice => true
  | .str s l, .str t m => s.free I.vs && (s.beq t && decide (m ≤ l))
  | _, _ => false
def okCs (I : LInv) (σ : Sig) : List Chunk → List Chunk → Bool
  | [], [] => true
  | c :: cs, d :: ds => okC I σ c d && okCs I σ cs ds
  | _, _ => false
def okV (I : LInv) (σ : Sig) : AV → AV → Bool
  | .val a cs, .val b ds => a == b && okCs I σ cs ds
  | .ptr x o, .ptr y p => (x == y && o == p) && (lookN I.vr x).isSome
  | .bad, .bad => true
  | _, _ => false
def okS (I : LInv) (σ : Sig) (S : St) : Bool :=
  (I.lk.all fun p => match S.look p.1 with | some x => okV I σ p.2 x | none => false) &&
  (I.vr.all fun p => match S.var p.1 with | some ds => okCs I σ p.2 ds && !(sizes p.2 == 0) | none => false)
def sigT (I : LInv) (σ : Sig) : List IT := I.vs.map fun i => (lookN σ i).getD (.lit 0)
def matchS (I : LInv) (S : St) : Option (List IT) := if okS I (colS I S) S then some (sigT I (colS I S)) else none
/-- What must stand where a round begins. -/
def enterL (Good : Env → Prop) (I : LInv) (ts : List IT) (E : Env) : Prop :=
  I.G.holds (E.upd I.vs (ts.map (IT.den E))) ∧ Good (E.upd I.vs (ts.map (IT.den E))) ∧ ∀ p ∈ I.lm, Lim p.2 ((E.upd I.vs (ts.map (IT.den E))).i p.1)

section
variable {E : Env} {n B : Nat} {w w0 : World} {a : Act} {I : LInv} {σ : Sig} {S : St} {ts : List IT}
theorem okT_spec (hts : ts = sigT I σ) {p t : IT} (h : okT I.vs σ p t = true) : p.den (E.upd I.vs (ts.map (IT.den E))) = t.den E := by
  have hlen : (ts.map (IT.den E)).length = I.vs.length := by rw [hts]; simp [sigT]
  have key : ∀ (q u : IT), (q.free I.vs && q.beq u) = true → q.den (E.upd I.vs (ts.map (IT.den E))) = u.den E := by
    intro q u hq
    rw [Bool.and_eq_true] at hq
    rw [IT.den_free hlen hq.1, IT.eq_of_beq hq.2]
  unfold okT at h
  split at h
  · rename_i i
    split at h
    · rename_i hi
      split at h
      · rename_i u hu
        have : ts.map (IT.den E) = I.vs.map (fun i => ((lookN σ i).getD (.lit 0)).den E) := by rw [hts]; simp [sigT, Function.comp_def]
        simp only [IT.den, Env.upd]
        rw [this, updI_map]
        rw [List.contains_iff_mem] at hi
        rw [if_pos hi]
        simp only [Option.getD_some, hu]
        rw [IT.eq_of_beq h]
      · cases h
    · rename_i hi
      refine Eq.trans ?_ (congrArg (IT.den E) (IT.eq_of_beq h).symm)
      exact IT.den_free (t := .var i) hlen (by simpa [IT.free] using hi)
  · exact key _ _ h
theorem okL_spec {Good : Env → Prop} (he : enterL Good I ts E) {p t : IT} {l m : Nat} (hp : p.den (E.upd I.vs (ts.map (IT.den E))) = t.den E) (h : okL I p l m = true) (hm : Lim m (t.den E)) : Lim l (p.den (E.upd I.vs (ts.map (IT.den E)))) := by
  unfold okL at h
  split at h
  · rename_i i
    split at h
    · rw [List.contains_iff_mem] at h
      exact he.2.2 _ h
    · rw [hp]; exact hm.mono (of_decide_eq_true h)
  · rw [hp]; exact hm.mono (of_decide_eq_true h)
theorem okC_spec {Good : Env → Prop} (hts : ts = sigT I σ) (he : enterL Good I ts E) : ∀ {c d : Chunk} {vs : List Value}, okC I σ c d = true → d.holds E w vs → c.holds (E.upd I.vs (ts.map (IT.den E))) w vs ∧ c.size = d.size := by
  intro c d vs h hd
  have hlen : (ts.map (IT.den E)).length = I.vs.length := by rw [hts]; simp [sigT]
  cases c <;> cases d <;> simp only [okC, Bool.false_eq_true, Bool.and_eq_true, beq_iff_eq, decide_eq_true_iff] at h
  · rename_i p t
    refine ⟨?_, rfl⟩
    simp only [Chunk.holds] at hd ⊢
    rw [hd, BT.den_free hlen h.1, BT.den_of_beq E h.2]
  · rename_i k p j t
    obtain ⟨rfl, h⟩ := h
    refine ⟨?_, rfl⟩
    simp only [Chunk.holds] at hd ⊢
    rw [hd, okT_spec hts h]
  · rename_i p l t m
    obtain ⟨x, y, hv, hI, hm⟩ := hd
    have hp := okT_spec (E := E) hts h.1
    exact ⟨⟨x, y, hv, by rw [hp]; exact hI, okL_spec he hp h.2 hm⟩, rfl⟩
  · subst h
    obtain ⟨x, y, hv, hR⟩ := hd
    exact ⟨⟨x, y, hv, hR⟩, rfl⟩
  · rename_i p l t m
    obtain ⟨x, hv, hI, hm⟩ := hd
    have hp := okT_spec (E := E) hts h.1
    exact ⟨⟨x, hv, by rw [hp]; exact hI, okL_spec he hp h.2 hm⟩, rfl⟩
  · subst h
    obtain ⟨x, hv, ao, c, h1, h2, h3, h4⟩ := hd
    exact ⟨⟨x, hv, ao, c, h1, h2, h3, h4⟩, rfl⟩
  · subst h; exact ⟨hd, rfl⟩
  · exact ⟨hd, rfl⟩
  · obtain ⟨h1, h2, h3⟩ := h
    refine ⟨?_, rfl⟩
    obtain ⟨hv, hl⟩ := hd
    rw [← ST.eq_of_beq h2] at hv hl
    exact ⟨by rw [ST.den_free hlen h1]; exact hv, by rw [ST.den_free hlen h1]; exact Nat.le_trans hl h3⟩
theorem okCs_spec {Good : Env → Prop} (hts : ts = sigT I σ) (he : enterL Good I ts E) : ∀ {cs ds : List Chunk} {vs : List Value}, okCs I σ cs ds = true → chunks E w ds vs → chunks (E.upd I.vs (ts.map (IT.den E))) w cs vs
  | [], [], _, _, hd => hd
  | c :: cs, d :: ds, _, h, ⟨l, r, hv, h1, h2⟩ => by
    simp only [okCs, Bool.and_eq_true] at h
    exact ⟨l, r, hv, (okC_spec hts he h.1 h1).1, okCs_spec hts he h.2 h2⟩
  | [], _ :: _, _, h, _ => by simp [okCs] at h
  | _ :: _, [], _, h, _ => by simp [okCs] at h
theorem matchS_spec {Good : Env → Prop} (h : matchS I S = some ts) (he : enterL Good I ts E) (hS : S.holds E n B w0 a w) : I.st.holds (E.upd I.vs (ts.map (IT.den E))) n B w0 a w := by
  unfold matchS at h
  split at h
  · rename_i hok
    injection h with h
    have hts := h.symm
    unfold okS at hok
    rw [Bool.and_eq_true, List.all_eq_true, List.all_eq_true] at hok
    obtain ⟨h1, h2⟩ := hok
    obtain ⟨β, hS⟩ := hS
    have hvar : ∀ x cs, I.st.var x = some cs → ∃ ds, S.var x = some ds ∧ okCs I (colS I S) cs ds = true ∧ sizes cs ≠ 0 := by
      intro x cs hx
      have := h2 _ (lookN_mem hx)
      simp only at this
      split at this
      · rename_i ds hds
        rw [Bool.and_eq_true, Bool.not_eq_true', beq_eq_false_iff_ne] at this
        exact ⟨ds, hds, this⟩
      · cases this
    refine ⟨β, fun t x hx => ?_, fun x cs hx => ?_, fun x y hx hy he => ?_, fun t x off hx => ?_, hS.sz, hS.nd, hS.hp, hS.bl, fun x cs hx => ?_⟩
    · have := h1 _ (lookN_mem hx)
      simp only at this
      split at this
      · rename_i y hy
        have hv := hS.sl t y hy
        cases x with
        | val ag cs =>
          cases y with
          | val bg ds =>
            simp only [okV, Bool.and_eq_true, beq_iff_eq] at this
            obtain ⟨rfl, hc⟩ := this
            cases ag
            · exact ⟨okCs_spec hts he hc hv.1, hv.2⟩
            · obtain ⟨us, hu, hcs⟩ := hv
              exact ⟨us, hu, okCs_spec hts he hc hcs⟩
          | _ => simp [okV] at this
        | ptr z o =>
          cases y with
          | ptr z' o' =>
            simp only [okV, Bool.and_eq_true, beq_iff_eq] at this
            obtain ⟨⟨rfl, rfl⟩, _⟩ := this
            exact hv
          | _ => simp [okV] at this
        | tup l => cases y <;> simp [okV] at this
        | bad =>
          cases y with
          | bad => exact hv
          | _ => simp [okV] at this
      · cases this
    · obtain ⟨ds, hds, hc, _⟩ := hvar x cs hx
      obtain ⟨k1, us, k2, k3⟩ := hS.vr x ds hds
      exact ⟨k1, us, okCs_spec hts he hc k2, k3⟩
    · obtain ⟨cs, hcs⟩ := Option.isSome_iff_exists.1 hx
      obtain ⟨ds, hds⟩ := Option.isSome_iff_exists.1 hy
      obtain ⟨c1, e1, _⟩ := hvar x cs hcs
      obtain ⟨c2, e2, _⟩ := hvar y ds hds
      exact hS.inj x y (by rw [e1]; rfl) (by rw [e2]; rfl) he
    · have := h1 _ (lookN_mem hx)
      simp only at this
      split at this
      · rename_i y hy
        cases y with
        | ptr z' o' =>
          simp only [okV, Bool.and_eq_true] at this
          exact this.2
        | _ => simp [okV] at this
      · cases this
    · exact (hvar x cs hx).choose_spec.2.2
  · cases h
end

/-- What a walk with loops comes to. -/
inductive LTree where
  | leaf (l : List (Bool × List Chunk))
  | ite (b : BT) (t e : LTree)
  | loop (d : Nat) (I : LInv) (ts : List IT) (T : LTree)
  | again (d : Nat) (ts : List IT)
abbrev Stk := Nat → Option (LInv × LTree)
def Stk.set (K : Stk) (d : Nat) (p : LInv × LTree) : Stk := fun j => if j = d then some p else K j
/-- A run through a tree: m rounds are begun again. -/
inductive Run (Good : Env → Prop) : Stk → LTree → Env → Nat → Env → List (Bool × List Chunk) → Prop where
  | leaf {K l E} : Run Good K (.leaf l) E 0 E l
  | iteT {K b t e E m E' l} : b.den E = true → Run Good K t E m E' l → Run Good K (.ite b t e) E m E' l
  | iteF {K b t e E m E' l} : b.den E = false → Run Good K e E m E' l → Run Good K (.ite b t e) E m E' l
  | loop {K d I ts T E m E' l} : enterL Good I ts E → Run Good (K.set d (I, T)) T (E.upd I.vs (ts.map (IT.den E))) m E' l → Run Good K (.loop d I ts T) E m E' l
  | again {K : Stk} {d I ts T E m E' l} : K d = some (I, T) → enterL Good I ts E → Run Good K T (E.upd I.vs (ts.map (IT.den E))) m E' l → Run Good K (.again d ts) E (m + 1) E' l

def regTL (C : Cfg) (n : Nat) (l : List Oper) (drawn : Bool) (k : Asm → St → Option LTree) : Nat → Asm → St → Option LTree
  | 0, _, _ => none
  | f + 1, G, S => match regE C G n l drawn S with
    | some S' => k G S'
    | none => match needE C G n l.toArray l S with
      | some b => match regTL C n l drawn k f ((b, true) :: G) S, regTL C n l drawn k f ((b, false) :: G) S with
        | some t, some e => some (.ite b t e)
        | _, _ => none
      | none => none
def firstId : Code → Option Nat
  | .region id _ _ => some id
  | .seq a b => match firstId a with | some i => some i | none => firstId b
  | .block _ c => firstId c
  | .cond _ a b => match firstId a with | some i => some i | none => firstId b
  | .loop c => firstId c
  | _ => none
def execL (C : Cfg) (L : Nat → Option LInv) (n : Nat) : Code → Nat → (Asm → St → Ex → Option LTree) → Asm → St → Option LTree
  | .skip, _, k, G, S => k G S .norm
  | .ret, _, k, G, S => k G S .ret
  | .exit id, _, k, G, S => k G S (.exit id)
  | .region _ ops drawn, _, k, G, S => regTL C n ops.toList drawn (fun G S => k G S .norm) 64 G S
  | .seq a b, d, k, G, S => execL C L n a d (fun G S e => match e with | .norm => execL C L n b d k G S | e => k G S e) G S
  | .loop c, d, k, G, S => match (firstId c).bind L with
    | some I => match matchS I S with
      | some ts => match execL C L n c (d + 1) (fun G S e => match e with | .norm => (matchS I S).map (.again d) | e => k G S e) I.G I.st with
        | some T => some (.loop d I ts T)
        | none => none
      | none => none
    | none => none
  | .block id c, d, k, G, S => execL C L n c d (fun G S e => match e with | .exit j => if j = id then k G S .norm else k G S (.exit j) | e => k G S e) G S
  | .cond c x y, d, k, G, S => match opnd S.look c with
    | some (.val false [.b tt]) => match tt.ev G with
      | some true => execL C L n x d k G S
      | some false => execL C L n y d k G S
      | none => match tt.ev ((tt.base, true) :: G), tt.ev ((tt.base, false) :: G) with
        | some b1, some b2 =>
          match (if b1 then execL C L n x d k ((tt.base, true) :: G) S else execL C L n y d k ((tt.base, true) :: G) S), (if b2 then execL C L n x d k ((tt.base, false) :: G) S else execL C L n y d k ((tt.base, false) :: G) S) with
          | some t, some e => some (.ite tt.base t e)
          | _, _ => none
        | _, _ => none
    | _ => none
  | _, _, _, _, _ => none

section
variable {P : Program} {n B : Nat} {w0 : World} {C : Cfg} {L : Nat → Option LInv} {Good : Env → Prop} {E' : Env} {l : List (Bool × List Chunk)}
/-- What the code behind owes. -/
def KOK (Good : Env → Prop) (n B : Nat) (w0 : World) (E' : Env) (l : List (Bool × List Chunk)) (k : Asm → St → Ex → Option LTree) (Q : Exit → Act → World → Prop) (K : Stk) (d m : Nat) : Prop :=
  ∀ (K' : Stk) G S e T E m', m' ≤ m → (∀ j, j < d → K' j = K j) → k G S e = some T → Run Good K' T E m' E' l → G.holds E → Good E → ∀ a w, S.holds E n B w0 a w → Q e.to a w
theorem regTL_sound (hm : P.follows .mixedOrders = true) {E : Env} (hC : CfgAt P E C B w0) {id : Nat} {lo : List Oper} {drawn : Bool} {k : Asm → St → Option LTree} {Q : Exit → Act → World → Prop} {K : Stk} {m : Nat} {w : World} {a : Act} : ∀ (f : Nat) (G : Asm) (S : St) (T : LTree), G.holds E → S.holds E n B w0 a w →
    regTL C n lo drawn k f G S = some T → Run Good K T E m E' l →
    (∀ G' S' T', k G' S' = some T' → G'.holds E → Run Good K T' E m E' l → ∀ a' w', S'.holds E n B w0 a' w' → Q .normal a' w') → (Code.region id lo.toArray drawn).wp P Q a w
  | 0, _, _, _, _, _, h, _, _ => by simp [regTL] at h
  | f + 1, G, S, T, hG, hS, h, hR, hk => by
    unfold regTL at h
    split at h
    · rename_i S' hS'
      exact regE_sound hm hC hG hS hS' (fun a' w' h' => hk G S' T h hG hR a' w' h')
    · split at h
      · rename_i b hb
        split at h
        · rename_i t e ht he
          injection h with h
          subst h
          cases hR with
          | iteT hbv hR => exact regTL_sound hm hC f _ S t (asm_cons hG hbv) hS ht hR hk
          | iteF hbv hR => exact regTL_sound hm hC f _ S e (asm_cons hG hbv) hS he hR hk
        · cases h
      · cases h
theorem execL_sound (hm : P.follows .mixedOrders = true) (hC : ∀ E, Good E → CfgAt P E C B w0) : ∀ (c : Code) (d : Nat) (k : Asm → St → Ex → Option LTree) (Q : Exit → Act → World → Prop) (K : Stk) (G : Asm) (S : St) (T : LTree) (E : Env) (m : Nat) (a : Act) (w : World), G.holds E → Good E → S.holds E n B w0 a w →
    execL C L n c d k G S = some T → Run Good K T E m E' l → KOK Good n B w0 E' l k Q K d m → c.wp P Q a w := by
  intro c
  induction c with
  | skip => intro d k Q K G S T E m a w hG hE hS h hR hk; exact wp_skip (hk K G S .norm T E m (Nat.le_refl _) (fun _ _ => rfl) h hR hG hE a w hS)
  | ret => intro d k Q K G S T E m a w hG hE hS h hR hk; exact wp_ret (hk K G S .ret T E m (Nat.le_refl _) (fun _ _ => rfl) h hR hG hE a w hS)
  | exit id => intro d k Q K G S T E m a w hG hE hS h hR hk; exact wp_exit (hk K G S (.exit id) T E m (Nat.le_refl _) (fun _ _ => rfl) h hR hG hE a w hS)
  | region id ops drawn =>
    intro d k Q K G S T E m a w hG hE hS h hR hk
    have := regTL_sound (id := id) (Q := Q) hm (hC E hE) 64 G S T hG hS h hR (fun G' S' T' h1 h2 h3 a' w' h4 => hk K G' S' .norm T' E m (Nat.le_refl _) (fun _ _ => rfl) h1 h3 h2 hE a' w' h4)
    simpa using this
  | seq x y ihx ihy =>
    intro d k Q K G S T E m a w hG hE hS h hR hk
    refine wp_seq (ihx d _ _ K G S T E m a w hG hE hS h hR (fun K' G' S' e T' E1 m' hm' hK' h1 hR' hG' hE' a' w' h4 => ?_))
    cases e with
    | norm => exact ihy d k Q K' G' S' T' E1 m' a' w' hG' hE' h4 h1 hR' (fun K2 G2 S2 e2 T2 E2 m2 j1 j2 j3 j4 j5 j6 => hk K2 G2 S2 e2 T2 E2 m2 (Nat.le_trans j1 hm') (fun j hj => (j2 j hj).trans (hK' j hj)) j3 j4 j5 j6)
    | ret => exact hk K' G' S' .ret T' E1 m' hm' hK' h1 hR' hG' hE' a' w' h4
    | exit id => exact hk K' G' S' (.exit id) T' E1 m' hm' hK' h1 hR' hG' hE' a' w' h4
  | block id c ih =>
    intro d k Q K G S T E m a w hG hE hS h hR hk
    refine wp_block (ih d _ _ K G S T E m a w hG hE hS h hR (fun K' G' S' e T' E1 m' hm' hK' h1 hR' hG' hE' a' w' h4 => ?_))
    cases e with
    | norm => exact hk K' G' S' .norm T' E1 m' hm' hK' h1 hR' hG' hE' a' w' h4
    | ret => exact hk K' G' S' .ret T' E1 m' hm' hK' h1 hR' hG' hE' a' w' h4
    | exit j =>
      simp only at h1
      show (if j = id then Q .normal a' w' else Q (.exit j) a' w')
      by_cases hj : j = id
      · rw [if_pos hj] at h1 ⊢
        exact hk K' G' S' .norm T' E1 m' hm' hK' h1 hR' hG' hE' a' w' h4
      · rw [if_neg hj] at h1 ⊢
        exact hk K' G' S' (.exit j) T' E1 m' hm' hK' h1 hR' hG' hE' a' w' h4
  | loop c ih =>
    intro d k Q K G S T E m a w hG hE hS h hR hk
    simp only [execL] at h
    split at h
    · rename_i I hI
      split at h
      · rename_i ts hts
        split at h
        · rename_i T0 hT0
          injection h with h
          subst h
          cases hR with
          | loop hen hR =>
            have key : ∀ (m0 : Nat), ∀ (K1 : Stk) (E1 : Env) (a : Act) (w : World) (f : Nat), m0 ≤ m → m0 < f → K1 d = some (I, T0) → (∀ j, j < d → K1 j = K j) → I.G.holds E1 → Good E1 → I.st.holds E1 n B w0 a w → Run Good K1 T0 E1 m0 E' l → Code.rounds P c Q f a w := by
              intro m0
              induction m0 using Nat.strongRecOn with
              | ind m0 ihm =>
                intro K1 E1 a w f hm0 hf hKd hKj hG1 hE1 hS1 hR1
                match f, hf with
                | f + 1, hf =>
                  rw [rounds_succ]
                  refine ih (d + 1) _ _ K1 I.G I.st T0 E1 m0 a w hG1 hE1 hS1 hT0 hR1 (fun K' G' S' e T' E2 m' hm' hK' h1 hR' hG' hE' a' w' h4 => ?_)
                  cases e with
                  | norm =>
                    obtain ⟨ts', hts', rfl⟩ := Option.map_eq_some_iff.1 h1
                    cases hR' with
                    | again hd hen' hR2 =>
                      rename_i I2 T2 m2
                      have : K' d = some (I, T0) := (hK' d (by omega)).trans hKd
                      rw [this] at hd
                      injection hd with hd
                      injection hd with e1 e2
                      subst e1 e2
                      exact ihm m2 (by omega) K' _ a' w' f (by omega) (by omega) this (fun j hj => (hK' j (by omega)).trans (hKj j hj)) hen'.1 hen'.2.1 (matchS_spec hts' hen' h4) hR2
                  | ret => exact hk K' G' S' .ret T' E2 m' (by omega) (fun j hj => (hK' j (by omega)).trans (hKj j hj)) h1 hR' hG' hE' a' w' h4
                  | exit id => exact hk K' G' S' (.exit id) T' E2 m' (by omega) (fun j hj => (hK' j (by omega)).trans (hKj j hj)) h1 hR' hG' hE' a' w' h4
            exact wp_loop_rounds (m + 1) (key m _ _ a w (m + 1) (Nat.le_refl _) (by omega) (by simp [Stk.set]) (fun j hj => by simp [Stk.set]; omega) hen.1 hen.2.1 (matchS_spec hts hen hS) hR)
        · cases h
      · cases h
    · cases h
  | cond c x y ihx ihy =>
    intro d k Q K G S T E m a w hG hE hS h hR hk
    simp only [execL] at h
    split at h
    · rename_i tt hc
      obtain ⟨β, hS'⟩ := hS
      have hv := opnd_spec (E := E) (β := β) (w := w) hS'.sl hc
      have hSS : S.holds E n B w0 a w := ⟨β, hS'⟩
      obtain ⟨⟨l1, r1, h1, h2, h3⟩, _⟩ := hv
      simp only [Chunk.holds] at h2
      simp only [chunks] at h3
      subst h2 h3
      injection h1 with h1
      split at h
      · rename_i hev
        rw [BT.ev_spec hG hev] at h1
        exact wp_cond_true h1 (ihx d k Q K G S T E m a w hG hE hSS h hR hk)
      · rename_i hev
        rw [BT.ev_spec hG hev] at h1
        exact wp_cond_false h1 (ihy d k Q K G S T E m a w hG hE hSS h hR hk)
      · split at h
        · rename_i b1 b2 e1 e2
          split at h
          · rename_i t e ht he
            injection h with h
            subst h
            cases hR with
            | iteT hbv hR =>
              have hG2 := asm_cons hG hbv
              rw [BT.ev_spec hG2 e1] at h1
              cases b1 with
              | true => exact wp_cond_true h1 (ihx d k Q K _ S t E m a w hG2 hE hSS ht hR hk)
              | false => exact wp_cond_false h1 (ihy d k Q K _ S t E m a w hG2 hE hSS ht hR hk)
            | iteF hbv hR =>
              have hG2 := asm_cons hG hbv
              rw [BT.ev_spec hG2 e2] at h1
              cases b2 with
              | true => exact wp_cond_true h1 (ihx d k Q K _ S e E m a w hG2 hE hSS he hR hk)
              | false => exact wp_cond_false h1 (ihy d k Q K _ S e E m a w hG2 hE hSS he hR hk)
          · cases h
        · cases h
    · cases h
  | _ => intro d k Q K G S T E m a w hG hE hS h hR hk; simp [execL] at h

/-- A function with loops, called. -/
def funL (C : Cfg) (L : Nat → Option LInv) (fn : Func) (G : Asm) (args : List AV) : Option LTree :=
  match fn.body with
  | some c => execL C L fn.ntmps c 0 (fun _ S e => match e with
    | .norm => (resE C S fn.results.toList).map .leaf
    | .ret => (resE C S fn.results.toList).map .leaf
    | .exit _ => none) G ⟨fun t => args[t]?, fun _ => none⟩
  | none => none
def noStk : Stk := fun _ => none
theorem loops_sound (hm : P.follows .mixedOrders = true) (hC : ∀ E, Good E → CfgOK P E C) {E : Env} {G : Asm} (hG : G.holds E) (hE : Good E) {f : FuncId} {fn : Func} (hf : P.funcs[f]? = some fn) (h4 : fn.results.toList.length ≤ 4) {args : List AV} {T : LTree} (hT : funL C L fn G args = some T) (hn : args.length ≤ fn.ntmps) (hnp : args.all noPtr = true)
    {m : Nat} (hR : Run Good noStk T E m E' l) (w : World) (vs : List Value) (hl : vs.length = args.length) (hv : ∀ (i : Nat) (x : AV), args[i]? = some x → ∃ β v, vs[i]? = some v ∧ x.holds E β w v) (hwk : ∀ w', Ext w w' → C.wok w' := by intros; exact True.intro) :
    Calls P f vs.toArray w fun e w' => ∃ β v, e = .returned v ∧ (toAV l).holds E' β w' v ∧ Ext w w' := by
  unfold funL at hT
  split at hT
  · rename_i c hb
    refine calls_of_wp hf hb ?_
    refine execL_sound (B := w.heap.size) (w0 := w) (n := fn.ntmps) (E' := E') (l := l) hm (fun E hE => ⟨hC E hE, hwk⟩) c 0 _ _ noStk G _ T E m _ w hG hE ⟨fun _ => 0, ?_⟩ hT hR ?_
    · refine ⟨fun t x hx => ?_, fun x cs h => (by cases h), fun x y h => (by cases h), fun t x off h => ?_, ?_, rfl, Nat.le_refl _, Below.refl _ _, fun x cs h => (by cases h)⟩
      · obtain ⟨β, v, h1, h2⟩ := hv t x hx
        have hlt := (List.getElem?_eq_some_iff.1 h1).1
        have e : (vs.toArray ++ Array.replicate (fn.ntmps - vs.toArray.size) Go.undef).getD t Go.undef = v := by
          rw [Array.getD_eq_getD_getElem?, Array.getElem?_append_left (by simpa using hlt)]
          simp [h1]
        rw [e]
        have hnp' : noPtr x = true := List.all_eq_true.1 hnp x (List.mem_of_getElem? hx)
        cases x with
        | ptr y off => cases hnp'
        | _ => exact h2
      · have hnp' : noPtr (.ptr x off) = true := List.all_eq_true.1 hnp _ (List.mem_of_getElem? h)
        cases hnp'
      · simp; omega
    · intro K' G' S' e T' E1 m' hm' hK' h1 hR' hG' hE' a' w' h4'
      have fin : (resE C S' fn.results.toList).map LTree.leaf = some T' → a'.defers = [] ∧ ∃ v, (results fn a'.tmps).run P w' = .ok v w' ∧ (∃ β v', Ending.returned v = .returned v' ∧ (toAV l).holds E' β w' v' ∧ Ext w w') := by
        intro hh
        obtain ⟨l', hl, rfl⟩ := Option.map_eq_some_iff.1 hh
        cases hR' with
        | leaf =>
          obtain ⟨β, v, r1, r2⟩ := resE_sound (hC _ hE') h4' (fn := fn) (rs := fn.results.toList) (by simp) h4 hl
          obtain ⟨β', hS⟩ := h4'
          exact ⟨hS.nd, v, r1, β, v, rfl, r2, hS.bl⟩
      cases e with
      | norm => exact fin h1
      | ret => exact fin h1
      | exit id => cases h1
  · cases hT
end

end Go.Proofs.Ytdleiiboffkidaa
end

/- ---- Cut ---- -/
section
/-
  strings.Cut, and what it asks of the world; contracts that ask something of the world.
-/
set_option maxRecDepth 100000
namespace Go.Proofs.Ytdleiiboffkidaa
open Go.RowKit Go.Shelf

/-- A contract that asks something of the world. -/
structure ConW (P : Program) (W : World → Prop) (E : Env) (f : Nat) (k : Con) : Prop where
  calls : ∀ args G r, k args G = some r → G.holds E → ∀ (β : Nat → Nat) (w : World) (vs : List Value), W w → (∀ (i : Nat) (x : AV), args[i]? = some x → ∃ v, vs[i]? = some v ∧ x.holds E β w v) → vs.length = args.length →
    Calls P f vs.toArray w (fun e w' => ∃ v, e = .returned v ∧ r.holds E β w' v ∧ Ext w w')
  nptr : ∀ args G r, k args G = some r → ∀ x off, r ≠ .ptr x off
  body : ∃ fn, P.funcs[f]? = some fn ∧ fn.name ≠ "runtime.NumGoroutine" ∧ fn.body.isNone = false
theorem ConOK.toW {P : Program} {W : World → Prop} {E : Env} {f : Nat} {k : Con} (h : ConOK P E f k) : ConW P W E f k :=
  ⟨fun args G r hr hG β w vs _ hv hl => h.calls args G r hr hG β w vs hv hl, h.nptr, h.body⟩
structure TabW (P : Program) (W : World → Prop) (E : Env) (l : List (Nat × Con)) : Prop where
  all : ∀ p ∈ l, ConW P W E p.1 p.2
theorem TabW.nil {P : Program} {W : World → Prop} {E : Env} : TabW P W E [] := ⟨fun p h => by simp at h⟩
theorem TabW.cons {P : Program} {W : World → Prop} {E : Env} {f : Nat} {k : Con} {l : List (Nat × Con)} (h : ConW P W E f k) (t : TabW P W E l) : TabW P W E ((f, k) :: l) := ⟨fun p hp => by
  rcases List.mem_cons.1 hp with rfl | hp
  · exact h
  · exact t.all p hp⟩
theorem TabOK.toW {P : Program} {W : World → Prop} {E : Env} {l : List (Nat × Con)} (h : TabOK P E l) : TabW P W E l := ⟨fun p hp => (h.all p hp).toW⟩
def cfgW (W : World → Prop) (tab : List (Nat × Con)) : Cfg := { cfgOf tab with wok := W }
theorem cfgW_ok {E : Env} {W : World → Prop} {tab : List (Nat × Con)} (h : TabW Try.prog W E tab) : CfgOK Try.prog E (cfgW W tab) := by
  have k : CfgOK Try.prog E (cfgOf []) := cfg_ok .nil
  refine ⟨k.zero, k.ag, k.fld, k.flds, k.bool, k.row, k.arr, ?_, ?_, ?_, k.slc, k.strT, k.cnv, k.apd, k.eq2⟩
  · intro f args M G r hr hG β w vs hwk hv hlen hm
    obtain ⟨kk, hk, hkr⟩ := tabE_mem hr
    exact (h.all _ hk).calls args G r hkr hG β w vs hwk hv hlen
  · intro f args M G r hr x off
    obtain ⟨kk, hk, hkr⟩ := tabE_mem hr
    exact (h.all _ hk).nptr args G r hkr x off
  · intro f args M G r hr
    obtain ⟨kk, hk, hkr⟩ := tabE_mem hr
    exact (h.all _ hk).body

end Go.Proofs.Ytdleiiboffkidaa
end

/- ---- Dig ---- -/
section
/-
  Decimal digits: which strings are numerals, and the value of at most nine digits.
-/
set_option maxRecDepth 100000
namespace Go.Proofs.Ytdleiiboffkidaa
open Go.RowKit

def digB (c : UInt8) : Bool := decide (48 ≤ c.toNat) && decide (c.toNat ≤ 57)
/-- The value of digits. -/
def dv (l : List UInt8) : Nat := l.foldl (fun v c => v * 10 + (c.toNat - 48)) 0
def numB (l : List UInt8) : Bool := !l.isEmpty && (!(l.headD 0 == 48 && decide (1 < l.length)) && l.all digB)
theorem dv_snoc (l : List UInt8) (c : UInt8) : dv (l ++ [c]) = dv l * 10 + (c.toNat - 48) := by unfold dv; rw [List.foldl_append]; rfl
theorem dv_append (l r : List UInt8) : dv (l ++ r) = dv l * 10 ^ r.length + dv r := by
  induction r generalizing l with
  | nil => simp [dv]
  | cons c r ih =>
    have e1 : l ++ c :: r = (l ++ [c]) ++ r := by simp
    have e2 : dv (c :: r) = dv [c] * 10 ^ r.length + dv r := ih [c]
    rw [e1, ih, dv_snoc, e2, List.length_cons, Nat.pow_succ]
    have e3 : dv [c] = c.toNat - 48 := by simp [dv]
    rw [e3, Nat.add_mul, Nat.mul_assoc, Nat.mul_comm 10]
    omega
theorem dv_lt {l : List UInt8} (h : l.all digB = true) : dv l < 10 ^ l.length := by
  induction l with
  | nil => simp [dv]
  | cons c r ih =>
    simp only [List.all_cons, Bool.and_eq_true] at h
    have h1 := ih h.2
    have h2 := h.1
    unfold digB at h2
    rw [Bool.and_eq_true, decide_eq_true_iff, decide_eq_true_iff] at h2
    have e2 : dv (c :: r) = dv [c] * 10 ^ r.length + dv r := dv_append [c] r
    have e3 : dv [c] = c.toNat - 48 := by simp [dv]
    have h4 : (c.toNat - 48) * 10 ^ r.length ≤ 9 * 10 ^ r.length := Nat.mul_le_mul_right _ (by omega)
    rw [e2, e3, List.length_cons, Nat.pow_succ]
    omega
theorem bytes_len (s : ByteArray) : s.data.toList.length = s.size := Array.length_toList
theorem bytes_take (s : ByteArray) (k : Nat) (h : k < s.size) : s.data.toList.take (k + 1) = s.data.toList.take k ++ [s[k]] := by
  rw [List.take_succ_eq_append_getElem (by rw [bytes_len]; exact h)]; rfl
theorem bytes_all (s : ByteArray) : s.data.toList.take s.size = s.data.toList := List.take_of_length_le (by rw [bytes_len]; omega)

end Go.Proofs.Ytdleiiboffkidaa
end

/- ---- Fmt ---- -/
section
/-
  Format: the decimal text of an integer.
-/
set_option maxRecDepth 100000
namespace Go.Proofs.Ytdleiiboffkidaa
open Go.RowKit Go.Shelf

/-- The last k decimal digits. -/
def pad : Nat → Nat → List UInt8
  | 0, _ => []
  | k + 1, r => pad k (r / 10) ++ [UInt8.ofNat (48 + r % 10)]
theorem pad_length : ∀ (k r : Nat), (pad k r).length = k
  | 0, _ => rfl
  | k + 1, r => by simp [pad, pad_length k]
theorem dec_pad (q : Nat) (hq : 0 < q) : ∀ (k r : Nat), r < 10 ^ k → Lib.decDigits (q * 10 ^ k + r) = Lib.decDigits q ++ pad k r
  | 0, r, h => by
    have : r = 0 := by simpa using h
    subst this
    simp [pad]
  | k + 1, r, h => by
    have h10 : (10 : Nat) ^ (k + 1) = 10 * 10 ^ k := by rw [Nat.pow_succ, Nat.mul_comm]
    have hk : 0 < 10 ^ k := Nat.pow_pos (by omega)
    have e : q * 10 ^ (k + 1) + r = 10 * (q * 10 ^ k) + r := by rw [h10, Nat.mul_left_comm]
    have hge : 1 ≤ q * 10 ^ k := Nat.mul_pos hq hk
    rw [e, Lib.decDigits, dif_neg (by omega), show (10 * (q * 10 ^ k) + r) / 10 = q * 10 ^ k + r / 10 by omega, show (10 * (q * 10 ^ k) + r) % 10 = r % 10 by omega, dec_pad q hq k (r / 10) (by rw [h10] at h; omega)]
    rw [pad, List.append_assoc]
/-- The groups of nine digits below the top limb. -/
def groups : List Nat → List UInt8
  | [] => []
  | x :: xs => groups xs ++ pad 9 x
theorem dec_limbs (t : Nat) (ht : 0 < t) : ∀ (xs : List Nat), Dig xs → Lib.decDigits (val (xs ++ [t])) = Lib.decDigits t ++ groups xs
  | [], _ => by simp [val, groups]
  | x :: xs, h => by
    have hx := h.head
    have ih := dec_limbs t ht xs h.tail
    have hp : 0 < val (xs ++ [t]) := by
      have : 0 < val (xs ++ [t]) ∨ val (xs ++ [t]) = 0 := by omega
      rcases this with h | h
      · exact h
      · exfalso
        have h1 : val (xs ++ [t]) = val xs + 1000000000 ^ xs.length * val [t] := val_append xs [t]
        have h2 : 0 < 1000000000 ^ xs.length * val [t] := Nat.mul_pos (Nat.pow_pos (by omega)) (by simp [val]; omega)
        omega
    have e : val ((x :: xs) ++ [t]) = val (xs ++ [t]) * 10 ^ 9 + x := by
      show x + 1000000000 * val (xs ++ [t]) = _
      rw [show (10 : Nat) ^ 9 = 1000000000 from rfl]
      omega
    rw [e, dec_pad _ hp 9 x hx, ih, groups, List.append_assoc]
/-- The table of strconv's powers of ten is what it is. -/
def WT (w : World) : Prop := Lib.TabIs Try.prog w "internal/strconv.uint64pow10" .u64 Lib.pow10Tab
theorem WT.ext {w w' : World} (h : WT w) (e : Ext w w') : WT w' := Lib.tabBelow_of_tabIs h w' e
theorem info_u8 : (Try.prog.info? 5).map (fun i => (i.zero, i.size, i.bytes)) = some (some (.int .u8 0), 1, 1) := by kernel_rfl
theorem pad_cell (m : Nat) : Value.int .u8 (((UInt8.ofNat (48 + m % 10)).toNat : Nat) : Int) = .int .u8 (48 + (m : Int) % 10) := by
  rw [UInt8.toNat_ofNat', show (48 + m % 10) % 2 ^ 8 = 48 + m % 10 by omega]
  congr 1
theorem pad_cells (x : Nat) : (#[Value.int .u8 (48 + (x : Int) / 10 / 10 / 10 / 10 / 10 / 10 / 10 / 10 % 10), .int .u8 (48 + (x : Int) / 10 / 10 / 10 / 10 / 10 / 10 / 10 % 10), .int .u8 (48 + (x : Int) / 10 / 10 / 10 / 10 / 10 / 10 % 10), .int .u8 (48 + (x : Int) / 10 / 10 / 10 / 10 / 10 % 10), .int .u8 (48 + (x : Int) / 10 / 10 / 10 / 10 % 10), .int .u8 (48 + (x : Int) / 10 / 10 / 10 % 10), .int .u8 (48 + (x : Int) / 10 / 10 % 10), .int .u8 (48 + (x : Int) / 10 % 10), .int .u8 (48 + (x : Int) % 10)] : Array Value) = (Lib.byteCells (pad 9 x)).toArray := by
  simp only [pad, Lib.byteCells, List.map_append, List.map_cons, List.map_nil, pad_cell, List.nil_append, List.cons_append]
  rfl

/-- What the text is while the groups are appended. -/
def FmtRel (B : Nat) (W : World) (k : Nat) (sv : Value) (l : List UInt8) (wr : World) : Prop :=
  wr.ownsRow B 5 1 sv l.length (Lib.byteCells l) ∧ Below B W wr ∧ B ≤ wr.heap.size ∧ Hid (l.length + 9 * k ≤ 1000000)
theorem groups_drop (xs : List Nat) (k : Nat) (h : k < xs.length) : groups (xs.drop k) = groups (xs.drop (k + 1)) ++ pad 9 (xs.getD k 0) := by
  rw [List.drop_eq_getElem_cons h, groups, List.getD_eq_getElem?_getD, List.getElem?_eq_getElem h]
  rfl
theorem FmtRel.step {B : Nat} {W wr w' : World} {k : Nat} {sv v' : Value} {l m : List UInt8} (h : FmtRel B W (k + 1) sv l wr) (hm : m.length = 9) (ho : w'.ownsRow B 5 1 v' (l.length + 9) (Lib.byteCells l ++ Lib.byteCells m)) (hb : Below B wr w') : FmtRel B W k v' (l ++ m) w' := by
  obtain ⟨h1, h2, h3, h4⟩ := h
  refine ⟨?_, h2.trans hb, Nat.le_trans h3 hb.size, ?_⟩
  · rw [Lib.byteCells_append, List.length_append, hm]; exact ho
  · unfold Hid; have := h4.out; rw [List.length_append, hm]; omega
end Go.Proofs.Ytdleiiboffkidaa
end

/- ---- Parse ---- -/
section
/-
  Parse, at every string.
-/
set_option maxRecDepth 100000
namespace Go.Proofs.Ytdleiiboffkidaa
open Go.RowKit Go.Shelf

/-- A minus sign in front, and what stands behind it. -/
def negL (l : List UInt8) : Bool := Lib.hasPrefix l [45]
def digL (l : List UInt8) : List UInt8 := Lib.trimPrefix l [45]
theorem digL_len (l : List UInt8) : (digL l).length ≤ l.length := by
  unfold digL Lib.trimPrefix
  split
  · rw [List.length_drop]; omega
  · exact Nat.le_refl _
def parseOK (l : List UInt8) : Bool := decide (l.length ≤ 65536) && (numB (digL l) && !(negL l && digL l == [48]))
def parseV (l : List UInt8) : Int := sgn (negL l) (dv (digL l))
def RetParse (l : List UInt8) (w : World) (e : Ending) (w' : World) : Prop :=
  ∃ v, e = .returned (.tuple #[v, .int .i64 (if parseOK l then 0 else 2)]) ∧ IsInt w' v (if parseOK l then parseV l else 0) ∧ Ext w w'

theorem extract_list (D : ByteArray) (a b : Nat) : (D.extract a b).data.toList = (D.data.toList.take b).drop a := by
  rw [List.drop_take, ByteArray.data_extract, Array.toList_extract]
/-- What the loop of Parse keeps: the groups from the end, each in its place. -/
def ParseRel (w : World) (g : Nat) (D : List UInt8) (k : Nat) (zs : List Nat) (wr : World) : Prop :=
  zs.length = (D.length + 8) / 9 ∧ Dig zs ∧ Blk wr g zs ∧ Ext w wr ∧ val (zs.take k) = dv (D.drop (D.length - 9 * k))
theorem ParseRel.step {w : World} {g : Nat} {D : List UInt8} {k : Nat} {zs : List Nat} {wr : World} (h : ParseRel w g D k zs wr) (hg : w.heap.size ≤ g) (hk : k < zs.length) (hd : D.all digB = true) (x : Nat)
    (hx : x = dv ((D.take (D.length - 9 * k)).drop (D.length - 9 * k - 9))) : ParseRel w g D (k + 1) (zs.set k x) (wr.setCell ⟨g, k, none⟩ (.int .u32 (x : Int))) ∧ x < 1000000000 := by
  obtain ⟨h1, h2, h3, h4, h5⟩ := h
  have hL : 9 * k < D.length := by omega
  obtain ⟨e, he⟩ : ∃ e, e = D.length - 9 * k := ⟨_, rfl⟩
  rw [← he] at hx h5
  have hall : ((D.take e).drop (e - 9)).all digB = true := by
    rw [List.all_eq_true] at hd ⊢
    exact fun y hy => hd y (List.mem_of_mem_take (List.mem_of_mem_drop hy))
  have hxl : ((D.take e).drop (e - 9)).length ≤ 9 := by rw [List.length_drop, List.length_take]; omega
  have hxb : x < 1000000000 := by
    have := dv_lt hall
    rw [← hx] at this
    have h10 := Nat.pow_le_pow_right (n := 10) (by omega) hxl
    omega
  refine ⟨⟨by simpa using h1, h2.set k hxb, h3.set k x hk, h4.setCell (p := ⟨g, k, none⟩) hg _, ?_⟩, hxb⟩
  rw [val_take_set zs k x hk, h5]
  have hsplit : D.drop (D.length - 9 * (k + 1)) = (D.take e).drop (e - 9) ++ D.drop e := by
    rw [show D.length - 9 * (k + 1) = e - 9 by omega]
    rw [← List.drop_append_of_le_length (by rw [List.length_take]; omega), List.take_append_drop]
  rw [hsplit, dv_append, ← hx, List.length_drop, show D.length - e = 9 * k by omega, Nat.pow_mul, show (10 : Nat) ^ 9 = 1000000000 from rfl, Nat.mul_comm x]
  omega

end Go.Proofs.Ytdleiiboffkidaa
end

/- ---- Rpa ---- -/
section
/-
  Parse of rational numbers, and their texts.
-/
set_option maxRecDepth 100000
namespace Go.Proofs.Ytdleiiboffkidaa
open Go.RowKit Go.Shelf

/-- What a text says of an integer. -/
def pZ (l : List UInt8) : Int := if parseOK l then parseV l else 0
def pE (l : List UInt8) : Int := if parseOK l then 0 else 2
theorem digL_all {l : List UInt8} (h : parseOK l = true) : (digL l).all digB = true := by
  unfold parseOK at h
  simp only [Bool.and_eq_true] at h
  have := h.2.1
  unfold numB at this
  simp only [Bool.and_eq_true] at this
  exact this.2.2
theorem pZ_lim {l : List UInt8} {m : Nat} (h : l.length ≤ m) : Lim (m / 9 + 1) (pZ l) := by
  unfold pZ
  split
  · rename_i hok
    have h1 := dv_lt (digL_all hok)
    have h2 := digL_len l
    have h3 : (parseV l).natAbs = dv (digL l) := by
      unfold parseV sgn
      split <;> omega
    refine limbs_len_le ?_
    rw [h3]
    refine Nat.lt_of_lt_of_le h1 ?_
    rw [show (1000000000 : Nat) = 10 ^ 9 from rfl, ← Nat.pow_mul]
    exact Nat.pow_le_pow_right (by omega) (by omega)
  · exact lim_zero
theorem bytes_of (s : ByteArray) : (⟨s.data.toList.toArray⟩ : ByteArray) = s := rfl
/-- An environment of one text and two numbers. -/
def kPar0 : Con
  | [.val false [.str (.var 0) m]], _ => if decide (m ≤ 65536) then some (.tup [(true, [.int (.var 0) 7282]), (false, [.n .i64 (.var 1)])]) else none
  | _, _ => none
def sE (ls : List (List UInt8)) (zs : List Int) (bs : List Bool) : Env := ⟨fun i => zs.getD i 0, fun i => bs.getD i false, fun _ => (false, []), fun i => ls.getD i []⟩
theorem one_str {E : Env} {w : World} {t : ST} {m : Nat} {v : Value} : one E w (false, [.str t m]) v ↔ v = .string ⟨(t.den E).toArray⟩ ∧ (t.den E).length ≤ m := by
  constructor
  · rintro ⟨⟨x, y, e1, ⟨e2, e3⟩, e4⟩, _⟩
    simp only [chunks] at e4
    subst e2 e4
    injection e1 with e1
    exact ⟨e1, e3⟩
  · rintro ⟨rfl, h⟩
    exact ⟨⟨[_], [], rfl, ⟨rfl, h⟩, rfl⟩, rfl⟩
theorem open_ib {E : Env} {β : Nat → Nat} {w : World} {v : Value} {x : IT} {k : Nat} {t : BT} (hx : (AV.tup [(true, [.int x k]), (false, [.b t])]).holds E β w v) : ∃ p, v = .tuple #[p, .bool (t.den E)] ∧ IsInt w p (x.den E) := by
  obtain ⟨vs, rfl, u1, r1, rfl, k1, u2, r2, rfl, k2, hn⟩ := hx
  simp only [tupAll] at hn
  subst hn
  have k2' := one_bool.1 k2
  subst k2'
  exact ⟨u1, rfl, (one_int.1 k1).1⟩
/-- What a text says of a rational number. -/
def qNT (l : List UInt8) : List UInt8 := (Lib.cut l [47]).1
def qDT (l : List UInt8) : List UInt8 := (Lib.cut l [47]).2.1
def qSl (l : List UInt8) : Bool := (Lib.cut l [47]).2.2
def coB (n d : Int) : Bool := decide (0 < d) && ((Nat.gcd n.natAbs d.natAbs : Nat) : Int) == 1
def qOK (l : List UInt8) : Bool :=
  if qSl l then parseOK (qNT l) && (parseOK (qDT l) && (!(pZ (qDT l) == 1) && coB (pZ (qNT l)) (pZ (qDT l)))) else parseOK (qNT l)
def qNV (l : List UInt8) : Int := if qOK l then pZ (qNT l) else 0
def qDV (l : List UInt8) : Int := if qOK l then (if qSl l then pZ (qDT l) else 1) else 0
def qEV (l : List UInt8) : Int := if qOK l then 0 else 2
theorem cut_len1 (l s : List UInt8) : (Lib.cut l s).1.length ≤ l.length := by
  unfold Lib.cut
  split
  · show (List.take _ l).length ≤ _
    rw [List.length_take]; omega
  · exact Nat.le_refl _
theorem cut_len2 (l s : List UInt8) : (Lib.cut l s).2.1.length ≤ l.length := by
  unfold Lib.cut
  split
  · show (List.drop _ l).length ≤ _
    rw [List.length_drop]; omega
  · exact Nat.zero_le _
def kCut : Con
  | [.val false [.str (.var 0) l], .val false [.str (.lit s) _]], _ => if s == [47] && decide (l ≤ 1000000) then some (.tup [(false, [.str (.var 1) l]), (false, [.str (.var 2) l]), (false, [.b (.var 0)])]) else none
  | _, _ => none
def kPI : Con
  | [.val false [.str (.var i) m]], _ => if decide (m ≤ 65536) then (if i == 1 then some (.tup [(true, [.int (.var 0) 7282]), (false, [.b (.var 1)])]) else if i == 2 then some (.tup [(true, [.int (.var 1) 7282]), (false, [.b (.var 2)])]) else none) else none
  | [.val false [.str (.lit s) _]], _ => if s == [49] then some (.tup [(true, [.int (.lit 1) 1]), (false, [.b (.lit true)])]) else none
  | _, _ => none
def pqE (l : List UInt8) : Env := sE [l, qNT l, qDT l] [pZ (qNT l), pZ (qDT l)] [qSl l, parseOK (qNT l), parseOK (qDT l)]
theorem p49 : parseOK [49] = true ∧ pZ [49] = 1 := by decide +kernel
def tPQbad : Tree := .leaf [(true, [.int (.lit 0) 0, .int (.lit 0) 0]), (false, [.n .i64 (.lit 2)])]
def tPQ : Tree := .ite (.var 0)
  (.ite (.var 1) (.ite (.var 2) (.ite (.eq (.var 1) (.lit 1)) tPQbad (.ite (.and (.lt (.lit 0) (.var 1)) (.eq (.a2 6 (.var 0) (.var 1)) (.lit 1))) (.leaf [(true, [.int (.var 0) 7282, .int (.var 1) 7282]), (false, [.n .i64 (.lit 0)])]) tPQbad)) tPQbad) tPQbad)
  (.ite (.var 1) (.ite (.and (.lt (.lit 0) (.lit 1)) (.eq (.a2 6 (.var 0) (.lit 1)) (.lit 1))) (.leaf [(true, [.int (.var 0) 7282, .int (.lit 1) 1]), (false, [.n .i64 (.lit 0)])]) tPQbad) tPQbad)
def RetPQ (l : List UInt8) (w : World) (e : Ending) (w' : World) : Prop := ∃ v, e = .returned (.tuple #[v, .int .i64 (qEV l)]) ∧ IsPair w' v (qNV l) (qDV l) ∧ Ext w w'
end Go.Proofs.Ytdleiiboffkidaa
end

/- ---- Raw ---- -/
section
/-
  The examples of rational numbers: the laws' helper awake returns true.
-/
set_option maxRecDepth 100000
namespace Go.Proofs.Ytdleiiboffkidaa
open Go.RowKit Go.Shelf

theorem nDigits_le : ∀ (k u : Nat), u < 10 ^ (k + 1) → Lib.nDigits u ≤ k + 1
  | 0, u, h => by rw [Lib.nDigits_small (by simpa using h)]; exact Nat.le_refl _
  | k + 1, u, h => by
    by_cases h1 : u < 10
    · rw [Lib.nDigits_small h1]; omega
    · rw [Lib.nDigits_big h1]
      have := nDigits_le k (u / 10) (by rw [Nat.pow_succ] at h; omega)
      omega
theorem itoa_len {l : Nat} {z : Int} (h : Lim l z) : (Lib.itoa z).length ≤ 9 * l + 2 := by
  have h1 := lt_of_limbs_len h
  have h2 : (Lib.decDigits z.natAbs).length ≤ 9 * l + 1 := by
    rw [Lib.decDigits_length]
    refine nDigits_le (9 * l) _ (Nat.lt_of_lt_of_le h1 ?_)
    rw [show (1000000000 : Nat) = 10 ^ 9 from rfl, ← Nat.pow_mul]
    exact Nat.pow_le_pow_right (by omega) (by omega)
  unfold Lib.itoa
  split
  · simp only [List.length_cons]; omega
  · rename_i hz
    rw [show z.toNat = z.natAbs by omega]; omega
def kFmt : Con
  | [.val true [.int x l]], _ => if decide (l ≤ 100000) then some (.val false [.str (.fmt x) (9 * l + 2)]) else none
  | _, _ => none
/-- The text of a rational number. -/
def fmtQ (n d : Int) : List UInt8 := if d = 1 then Lib.itoa n else Lib.itoa n ++ [47] ++ Lib.itoa d
/-- Short texts, reckoned. -/
def dgC (z : Int) : List UInt8 := (if z < 0 then [45] else []) ++ [UInt8.ofNat (48 + z.natAbs)]
def fmtC (n d : Int) : List UInt8 := if d == 1 then dgC n else dgC n ++ [47] ++ dgC d
theorem dgC_eq {z : Int} (h : z.natAbs < 10) : Lib.itoa z = dgC z := by
  unfold Lib.itoa dgC
  split
  · rw [Lib.decDigits_one h]; rfl
  · rw [show z.toNat = z.natAbs by omega, Lib.decDigits_one h]; rfl
theorem fmtC_eq {n d : Int} (h1 : n.natAbs < 10) (h2 : d.natAbs < 10) : fmtQ n d = fmtC n d := by
  unfold fmtQ fmtC
  rw [dgC_eq h1, dgC_eq h2]
  by_cases hd : d = 1
  · rw [if_pos hd, if_pos (by simpa using hd)]
  · rw [if_neg hd, if_neg (by simpa using hd)]
def kFmtL : Con
  | [.val true [.int x l, .int y m]], _ => match x.cl, y.cl with
    | some n, some d => if decide (n.natAbs < 10) && (decide (d.natAbs < 10) && (decide (l ≤ 100000) && decide (m ≤ 100000))) then some (.val false [.str (.lit (fmtC n d)) (fmtC n d).length]) else none
    | _, _ => none
  | _, _ => none
/-- text. -/
def kPQ0 : Con
  | [.val false [.str (.var 0) m]], _ => if decide (m ≤ 65536) then some (.tup [(true, [.int (.var 0) 7283, .int (.var 1) 7283]), (false, [.n .i64 (.var 2)])]) else none
  | _, _ => none
theorem qNV_lim {l : List UInt8} (h : l.length ≤ 65536) : Lim 7283 (qNV l) ∧ Lim 7283 (qDV l) := by
  have h1 := pZ_lim (Nat.le_trans (cut_len1 l [47]) h)
  have h2 := pZ_lim (Nat.le_trans (cut_len2 l [47]) h)
  unfold qNV qDV
  constructor
  · split
    · exact h1.mono (by omega)
    · exact lim_zero
  · split
    · split
      · exact h2.mono (by omega)
      · exact (lim1 (by decide)).mono (by omega)
    · exact lim_zero
def llen (z : Int) : Nat := (limbs z.natAbs).length
def kText : Con
  | [.val false [.str (.lit l) _]], _ => if decide (l.length ≤ 65536) then some (.val true [.int (.lit (qNV l)) (llen (qNV l)), .int (.lit (qDV l)) (llen (qDV l))]) else none
  | _, _ => none
/-- Square roots. -/
def sqN (n d : Int) (z : Int) : Int := if sqB n && sqB d then isq z else 0
def tSq : Tree := .ite (.and (.eq (.a1 3 (.var 0)) (.lit 0)) (.eq (.a2 3 (.a2 2 (.a1 2 (.var 0)) (.a1 2 (.var 0))) (.var 0)) (.lit 0)))
  (.ite (.and (.eq (.a1 3 (.var 1)) (.lit 0)) (.eq (.a2 3 (.a2 2 (.a1 2 (.var 1)) (.a1 2 (.var 1))) (.var 1)) (.lit 0))) (.leaf [(true, [.int (.a1 2 (.var 0)) 100000, .int (.a1 2 (.var 1)) 100000]), (false, [.b (.lit true)])])
    (.leaf [(true, [.int (.lit 0) 0, .int (.lit 0) 0]), (false, [.b (.lit false)])]))
  (.leaf [(true, [.int (.lit 0) 0, .int (.lit 0) 0]), (false, [.b (.lit false)])])
def RetSqQ (n d : Int) (w : World) (e : Ending) (w' : World) : Prop := ∃ v, e = .returned (.tuple #[v, .bool (sqB n && sqB d)]) ∧ IsPair w' v (sqN n d n) (sqN n d d) ∧ Ext w w'
theorem open_qb {E : Env} {β : Nat → Nat} {w : World} {v : Value} {x y : IT} {k m : Nat} {t : BT} (hx : (AV.tup [(true, [.int x k, .int y m]), (false, [.b t])]).holds E β w v) : ∃ p, v = .tuple #[p, .bool (t.den E)] ∧ IsPair w p (x.den E) (y.den E) := by
  obtain ⟨vs, rfl, u1, r1, rfl, k1, u2, r2, rfl, k2, hn⟩ := hx
  simp only [tupAll] at hn
  subst hn
  have k2' := one_bool.1 k2
  subst k2'
  exact ⟨u1, rfl, (one_pair.1 k1).1⟩
def kSqrtL : Con
  | [.val true [.int (.lit n) l, .int (.lit d) m]], _ => if decide (l ≤ 100000) && decide (m ≤ 100000) then
      some (.tup [(true, [.int (.lit (sqN n d n)) (llen (sqN n d n)), .int (.lit (sqN n d d)) (llen (sqN n d d))]), (false, [.b (.lit (sqB n && sqB d))])]) else none
  | _, _ => none
/-- Simplest, at the three examples. -/
def kSimL : Con
  | [.val true [.int (.lit a) _, .int (.lit b) _], .val true [.int (.lit c) _, .int (.lit d) _]], _ =>
    if a == 3 && (b == 10 && (c == 2 && d == 5)) then some (.tup [(true, [.int (.lit 1) 1, .int (.lit 3) 1]), (false, [.n .i64 (.lit 0)])])
    else if a == -5 && (b == 2 && (c == 7 && d == 2)) then some (.tup [(true, [.int (.lit 0) 1, .int (.lit 1) 1]), (false, [.n .i64 (.lit 0)])])
    else if a == 2 && (b == 1 && (c == 3 && d == 1)) then some (.tup [(true, [.int (.lit 5) 1, .int (.lit 2) 1]), (false, [.n .i64 (.lit 0)])]) else none
  | _, _ => none
/-- Floor. -/
def kFlQ : Con
  | [.val true [.int x l, .int y m]], _ => if canon x y && (ql l && ql m) then some (.val true [.int (.a2 4 x y) l]) else none
  | _, _ => none
end Go.Proofs.Ytdleiiboffkidaa
end

/- ---- Rfc ---- -/
section
/-
  RationalOrder and RationalFloor.
-/
set_option maxRecDepth 100000
namespace Go.Proofs.Ytdleiiboffkidaa
open Go.RowKit

def sgQ (q : Rat) : Int := cmpZ q.num 0
theorem num_pos_iff (q : Rat) : 0 < q.num ↔ 0 < q := by
  have h1 : 0 ≤ q.num ↔ 0 ≤ q := Rat.num_nonneg
  have h2 : q.num = 0 ↔ q = 0 := Rat.num_eq_zero
  constructor
  · intro h
    have a := h1.1 (by omega)
    have b : q ≠ 0 := fun e => by have := h2.2 e; omega
    grind
  · intro h
    have a := h1.2 (by grind)
    have b : q.num ≠ 0 := fun e => by have := h2.1 e; grind
    omega
theorem sgQ_cases (q : Rat) : (q < 0 ∧ sgQ q = -1) ∨ (q = 0 ∧ sgQ q = 0) ∨ (0 < q ∧ sgQ q = 1) := by
  have h1 := num_pos_iff q
  have h2 : q.num = 0 ↔ q = 0 := Rat.num_eq_zero
  unfold sgQ
  rcases cmpZ_cases q.num 0 with ⟨h, e⟩ | ⟨h, e⟩ | ⟨h, e⟩
  · refine .inl ⟨?_, e⟩
    have a : ¬ 0 < q := fun k => by have := h1.2 k; omega
    have b : q ≠ 0 := fun k => by have := h2.2 k; omega
    grind
  · exact .inr (.inl ⟨h2.1 h, e⟩)
  · exact .inr (.inr ⟨h1.1 h, e⟩)
theorem sgQ_pos {q : Rat} (h : 0 < q) : sgQ q = 1 := by rcases sgQ_cases q with ⟨k, e⟩ | ⟨k, e⟩ | ⟨k, e⟩ <;> grind
theorem sgQ_neg' {q : Rat} (h : q < 0) : sgQ q = -1 := by rcases sgQ_cases q with ⟨k, e⟩ | ⟨k, e⟩ | ⟨k, e⟩ <;> grind
theorem sgQ_zero : sgQ 0 = 0 := rfl
theorem sgQ_opp (q : Rat) : sgQ (-q) = - sgQ q := by
  rcases sgQ_cases q with ⟨k, e⟩ | ⟨k, e⟩ | ⟨k, e⟩
  · rw [e, sgQ_pos (by grind)]; rfl
  · rw [e, k]; rfl
  · rw [e, sgQ_neg' (by grind)]
theorem sgQ_mul (a b : Rat) : sgQ (a * b) = sgQ a * sgQ b := by
  rcases sgQ_cases a with ⟨k, e⟩ | ⟨k, e⟩ | ⟨k, e⟩ <;> rcases sgQ_cases b with ⟨j, f⟩ | ⟨j, f⟩ | ⟨j, f⟩ <;> rw [e, f]
  · have := Rat.mul_pos (a := -a) (b := -b) (by grind) (by grind)
    rw [sgQ_pos (by grind)]; rfl
  · rw [j, Rat.mul_zero]; rfl
  · have := Rat.mul_pos (a := -a) (b := b) (by grind) (by grind)
    rw [sgQ_neg' (by grind)]; rfl
  · rw [k, Rat.zero_mul]; rfl
  · rw [k, Rat.zero_mul]; rfl
  · rw [k, Rat.zero_mul]; rfl
  · have := Rat.mul_pos (a := a) (b := -b) (by grind) (by grind)
    rw [sgQ_neg' (by grind)]; rfl
  · rw [j, Rat.mul_zero]; rfl
  · rw [sgQ_pos (Rat.mul_pos k j)]; rfl
theorem cmpQ_sub (a b : Rat) : cmpZ (a.num * (b.den : Int)) (b.num * (a.den : Int)) = sgQ (a - b) := by
  have h1 := Rat.lt_iff a b
  have h2 := Rat.lt_iff b a
  rcases cmpZ_cases (a.num * (b.den : Int)) (b.num * (a.den : Int)) with ⟨h, e⟩ | ⟨h, e⟩ | ⟨h, e⟩
  · have := h1.2 h
    rw [e, sgQ_neg' (by grind)]
  · have k1 : ¬ a < b := fun k => by have := h1.1 k; omega
    have k2 : ¬ b < a := fun k => by have := h2.1 k; omega
    have : a - b = 0 := by grind
    rw [e, this]; rfl
  · have := h2.2 h
    rw [e, sgQ_pos (by grind)]
def qcmp (p q : IT2) : IT := .a2 3 (.a2 2 p.1 q.2) (.a2 2 q.1 p.2)
theorem rep_cmp {E : Env} {p q : IT2} {a b : Rat} (hp : RepQ E p a) (hq : RepQ E q b) : (qcmp p q).den E = sgQ (a - b) := by
  show cmpZ (p.1.den E * q.2.den E) (q.1.den E * p.2.den E) = _
  rw [hp.1, hp.2, hq.1, hq.2, cmpQ_sub]
def ordT : Tree :=
  .ite (.eq (qcmp (qv 1) (qv 0)) (.a1 0 (qcmp (qv 0) (qv 1))))
    (.ite (.eq (qcmp (qop 0 (qv 0) (qv 2)) (qop 0 (qv 1) (qv 2))) (qcmp (qv 0) (qv 1)))
      (leafB (.eq (qcmp (qop 2 (qv 0) (qv 2)) (qop 2 (qv 1) (qv 2))) (.a2 2 (qcmp (qv 0) (qv 1)) (.a2 3 (.var 4) (.lit 0)))))
      (leafB (.lit false))) (leafB (.lit false))
theorem eq_den {E : Env} {s t : IT} {x y : Int} (h : s.den E = x) (k : t.den E = y) (e : x = y) : (BT.eq s t).den E = true := by
  show (s.den E == t.den E) = true
  rw [h, k, e]; simp
/-- Floor. -/
theorem rvalidI_calls (w : World) (v : Value) (z : Int) (h : IsInt w v z) : Calls Try.prog 69 #[v] w fun e w' => e = .returned (.bool true) ∧ Ext w w' := by
  obtain ⟨k1, k2⟩ := int_raw h
  have := rvalid_calls w v _ _ k1
  rw [k2] at this
  exact this
def kFI : Con
  | [.val true [.int x l]], _ => if lo l then some (.val true [.int x l, .int (.lit 1) 3]) else none
  | _, _ => none
def flQ : IT2 := (.a2 4 (.var 0) (.var 1), .lit 1)
def flT : Tree :=
  .ite (.le (.lit 0) (.a2 3 (qop 1 (qv 0) flQ).1 (.lit 0))) (leafB (.lt (qcmp (qop 1 (qv 0) flQ) (.lit 1, .lit 1)) (.lit 0))) (leafB (.lit false))
end Go.Proofs.Ytdleiiboffkidaa
end

/- ---- Rsq ---- -/
section
/-
  Sqrt of the reference.
-/
set_option maxRecDepth 100000
namespace Go.Proofs.Ytdleiiboffkidaa
open Go.RowKit

/-- What an append of limbs to a slice of the call's own leaves. -/
theorem run_append_own_limbs (w : World) (B : Nat) (hB : B ≤ w.heap.size) (ty : TypeId) (v : Value) (zs : List Nat) (lz : zs.length ≤ 1099511627776) (hz : 0 < zs.length) (hown : w.ownsRow B 67 1 v zs.length (zs.map fun x => Value.int .u32 ((x : Nat) : Int))) (b : Nat) (xs : List Nat) (c : Nat) (lx : xs.length ≤ 1099511627776)
    (h : ∀ i, i < xs.length → w.cell? ⟨b, i, none⟩ = some (.int .u32 ((xs.getD i 0 : Nat) : Int))) :
    ∃ ao' cap w1, (Builtin.append_ #[22, 22] ty #[v, .slice (some ⟨b, 0, none⟩) xs.length c]).run Try.prog w = .ok (.slice ao' (zs.length + xs.length) cap) w1 ∧
      zs.length + xs.length ≤ cap ∧ cap ≤ 9223372036854775807 ∧ Below B w w1 ∧ Cells w1 ao' (zs ++ xs) := by
  obtain ⟨i0, hi, hz0, hz1, hz2⟩ := info_parts info_u32
  have hnews : ∀ j u, (xs.map fun x => Value.int .u32 ((x : Nat) : Int))[j]? = some u → w.cell? ((⟨b, 0, none⟩ : Addr).add j) = some u := by
    intro j u hu
    rw [List.getElem?_map] at hu
    obtain ⟨x, hx1, rfl⟩ := Option.map_eq_some_iff.1 hu
    have hj : j < xs.length := (List.getElem?_eq_some_iff.1 hx1).1
    have := h j hj
    rw [List.getD_eq_getElem?_getD, hx1] at this
    by_cases h0 : j = 0
    · subst h0; simpa [Addr.add] using this
    · simpa [Addr.add, h0] using this
  obtain ⟨v', w1, hrun, hown1, hgrow, hnil⟩ := run_append_own (P := Try.prog) w B 22 ty 67 i0 (.int .u32 0) 1 4 Try.underlying22 hi hz0 hz1 hz2 rfl (by decide) _ _ _ hown ⟨b, 0, none⟩ xs.length c (xs.map fun x => Value.int .u32 ((x : Nat) : Int)) (by simp) hnews
    (by intro u hu; obtain ⟨x, _, rfl⟩ := List.mem_map.1 hu; rfl) (by unfold maxLen; omega) (by omega) hB
  rw [← List.map_append, ← List.length_append] at hown1
  have hE : Below B w w1 := Below.grown (Below.refl _ _) hgrow hB (fun k hk => (hown.lt k hk).1)
  rcases hown1.2 with ⟨rfl, h0⟩ | ⟨g, cap, cur, rfl, hg, _, hnc, hcm, _, _⟩
  · exfalso
    rw [List.length_append] at h0
    omega
  · rw [List.length_append] at hnc
    exact ⟨_, cap, w1, by rw [hrun, List.length_append], hnc, by unfold maxLen at hcm; omega, hE, (Blk.of_owns hown1).cells⟩

/-- The rounds. -/
def sqI : LInv where
  lk := [(1, .ptr 1 0), (2, .ptr 2 0), (4, .ptr 4 0), (5, .ptr 5 0)]
  vr := [(1, [.int (.var 0) 100000]), (2, [.int (.lit 0) 0]), (4, [.int (.var 1) 100001]), (5, [.int (.lit 2) 3])]
  vs := [1]
  G := []
  lm := [(1, 100001)]
def sqNext : IT := .a2 4 (.a2 0 (.var 1) (.a2 4 (.var 0) (.var 1))) (.lit 2)
def sqLeaf : List (Bool × List Chunk) := [(true, [.int (.var 1) 100001]), (false, [.n .i64 (.lit 0)])]
def sqTree : LTree := .ite (.le (.lit 0) (.a2 3 sqNext (.var 1))) (.leaf sqLeaf) (.again 0 [sqNext])
def tabRsq : List (Nat × Con) := [(79, kDM), (57, kII (.a2 0) (fun l m => max l m + 1)), (51, kIIn (.a2 3))]
theorem rcmp_calls' (w : World) (v1 v2 : Value) (z1 z2 : Int) (h1 : IsInt w v1 z1) (h2 : IsInt w v2 z2) : Calls Try.prog 51 #[v1, v2] w fun e w' => e = .returned (.int .i64 (cmpZ z1 z2)) ∧ Ext w w' := rcmp_calls w v1 v2 z1 z2 h1 h2
theorem tabRsq_ok {E : Env} : TabOK Try.prog E tabRsq :=
  .cons (kDMg_ok (fun w v u a b h k l1 l2 => rdivMod_fn w v u a b h k l1 l2) ⟨_, Try.func79, by decide +kernel, by kernel_rfl⟩)
    (.cons (tabR1_ok.all (57, kII (.a2 0) (fun l m => max l m + 1)) (by simp [tabR1]))
      (.cons (kIIn_ok cmpZ (fun _ _ => rfl) (fun w v1 v2 z1 z2 h1 h2 => rcmp_calls w v1 v2 z1 z2 h1 h2) ⟨_, Try.func51, by decide +kernel, by kernel_rfl⟩) .nil))

/-- A variable that was just made. -/
theorem VarAt.new {E : Env} {w : World} {cs : List Chunk} {vs : List Value} {t : TypeId} (h : chunks E w cs vs) : VarAt E (w.alloc (.cells vs.toArray t)) w.heap.size cs := by
  have hk := Kp.of (B := w.heap.size) ((Ext.refl w).alloc (.cells vs.toArray t)) (Nat.le_refl _)
  have hh : (w.alloc (.cells vs.toArray t)).heap[w.heap.size]? = some (.cells vs.toArray t (0, 0)) := heap_alloc_new w _
  refine ⟨vs, chunks_keep hk h, fun i v hi => ⟨?_, ?_⟩⟩
  · simp only [World.cell?, hh]
    simpa using hi
  · simp only [World.frozen?, hh]
    simp
theorem chunks_int {E : Env} {w : World} {x y : Value} {t : IT} {l : Nat} {z : Int} (h : IsInt w (.agg #[x, y]) z) (hz : t.den E = z) (hl : Lim l z) : chunks E w [.int t l] [x, y] :=
  ⟨[x, y], [], rfl, ⟨x, y, rfl, by rw [hz]; exact h, by rw [hz]; exact hl⟩, rfl⟩
/-- Newton's method from above ends at the root. -/
theorem sq_run (n : Nat) (hn : 0 < n) : ∀ (x : Nat), 0 < x → n < (x + 1) * (x + 1) → Lim 100001 (x : Int) → ∃ m E', Run (fun _ => True) (noStk.set 0 (sqI, sqTree)) sqTree ((zE [(n : Int), 0]).upd [1] [(x : Int)]) m E' sqLeaf ∧ E'.i 1 = (isqN n : Int) := by
  intro x
  induction x using Nat.strongRecOn with
  | ind x ih =>
    intro hx hu hl
    have hq : dq (n : Int) (x : Int) = ((n / x : Nat) : Int) := by rw [dq_pos (by omega)]; exact (Int.natCast_ediv n x).symm
    have hy : sqNext.den ((zE [(n : Int), 0]).upd [1] [(x : Int)]) = (((x + n / x) / 2 : Nat) : Int) := by
      show dq ((x : Int) + dq (n : Int) (x : Int)) 2 = _
      rw [hq, dq_pos (by omega)]
      omega
    have hc : (IT.a2 3 sqNext (.var 1)).den ((zE [(n : Int), 0]).upd [1] [(x : Int)]) = cmpZ (((x + n / x) / 2 : Nat) : Int) (x : Int) := by
      show cmpZ (sqNext.den _) (x : Int) = _
      rw [hy]
    by_cases hge : x ≤ (x + n / x) / 2
    · refine ⟨0, _, .iteT ?_ .leaf, ?_⟩
      · show decide ((0 : Int) ≤ (IT.a2 3 sqNext (.var 1)).den _) = true
        rw [hc, decide_eq_true_iff]
        rcases cmpZ_cases (((x + n / x) / 2 : Nat) : Int) (x : Int) with ⟨h, e⟩ | ⟨h, e⟩ | ⟨h, e⟩ <;> omega
      · show (x : Int) = _
        rw [isqN_spec_eq (newton_stop hx hu hge)]
    · have hp := newton_pos hx hn
      have hnx := newton_next (n := n) hx
      obtain ⟨m, E', hR, hE⟩ := ih _ (by omega) hp hnx (hl.natAbs_le (by omega))
      refine ⟨m + 1, E', .iteF ?_ (.again (I := sqI) (T := sqTree) (by simp [Stk.set]) ⟨no_asm, trivial, ?_⟩ ?_), hE⟩
      · show decide ((0 : Int) ≤ (IT.a2 3 sqNext (.var 1)).den _) = false
        rw [hc, decide_eq_false_iff_not]
        rcases cmpZ_cases (((x + n / x) / 2 : Nat) : Int) (x : Int) with ⟨h, e⟩ | ⟨h, e⟩ | ⟨h, e⟩ <;> omega
      · intro p hp
        simp only [sqI, List.mem_cons, List.not_mem_nil, or_false] at hp
        subst hp
        show Lim 100001 (sqNext.den _)
        rw [hy]
        exact hl.natAbs_le (by omega)
      · have : Env.upd ((zE [(n : Int), 0]).upd [1] [(x : Int)]) sqI.vs ([sqNext].map (IT.den ((zE [(n : Int), 0]).upd [1] [(x : Int)]))) = (zE [(n : Int), 0]).upd [1] [(((x + n / x) / 2 : Nat) : Int)] := by
          simp only [List.map_cons, List.map_nil, hy]
          unfold Env.upd
          congr 1
          funext k
          simp only [sqI, updI]
          by_cases hk : k = 1
          · simp [hk]
          · simp [hk]
        rw [this]
        exact hR

set_option maxRecDepth 100000 in
set_option maxHeartbeats 1600000 in
theorem rsqrt_pos (w : World) (v : Value) (z : Int) (h : IsInt w v z) (l : Lim 100000 z) (hz : 0 < z) : Calls Try.prog 56 #[v] w (RetSqA z w) := by
  obtain ⟨ao, cap, s, n, rfl, h1, h2, h3, H4, H5, H6⟩ := h.open_
  obtain ⟨W, hW, eW, c0, c1, r0, r1, f0, f1⟩ := boxes1r w (.bool s) (.slice ao (limbs n).length cap) 24
  have hs : s = false := by
    cases s
    · rfl
    · have h5 := H5.out; have h6 := H6.out rfl; simp only [sgn, if_true] at h5; omega
  subst hs
  have hz2 : z = (n : Int) := H5.out
  have hl0 : 0 < (limbs n).length := limbs_pos (by omega)
  have l' := l
  unfold Lim at l'
  rw [← H4.out] at l'
  subst hz2
  obtain ⟨K, hK⟩ : ∃ K, K = ((limbs n).length + 1) / 2 := ⟨_, rfl⟩
  have hKI : (((limbs n).length : Int) + 1).tdiv 2 = (K : Int) := by rw [Int.tdiv_eq_ediv_of_nonneg (by omega)]; omega
  have hmk := run_mk K (by omega) ↑K rfl
  have hKb : K ≤ 100000 := by omega
  have hWs : W.heap.size = w.heap.size + 2 := by rw [← hW]; simp
  have HI := Lib.hid (show IsInt W (.agg #[.bool false, .slice ao (limbs n).length cap]) (n : Int) from h.ext eW)
  -- the zeros, the one, and what the append leaves
  have hown : ((W.alloc (.cells (u32s (List.replicate K 0)) 67)).alloc (.cells #[.int .u32 1] 67)).ownsRow W.heap.size 67 1 (.slice (some ⟨W.heap.size, 0, none⟩) K K) (List.replicate K 0).length ((List.replicate K 0).map fun x => Value.int .u32 ((x : Nat) : Int)) := by
    have h0 : (W.alloc (.cells (u32s (List.replicate K 0)) 67)).ownsRow W.heap.size 67 1 (.slice (some ⟨W.heap.size, 0, none⟩) K K) K ((List.replicate K 0).map fun x => Value.int .u32 ((x : Nat) : Int)) :=
      ⟨by simp, .inr ⟨W.heap.size, K, u32s (List.replicate K 0), rfl, by omega, heap_alloc_new W _, Nat.le_refl _, by unfold maxLen; omega, by simp [u32s], by rw [Nat.mul_one]; simp only [u32s]; exact List.take_of_length_le (by simp)⟩⟩
    have := h0.alloc (.cells #[.int .u32 1] 67)
    rwa [List.length_replicate]
  obtain ⟨a3, c3, w3, hrun, k1, k2, hB3, k3⟩ := run_append_own_limbs _ W.heap.size (by simp; omega) 22 _ (List.replicate K 0) (by simp; omega) (by simp; omega) hown (W.heap.size + 1) [1] 1 (by simp) (fun i hi => by
    have : i = 0 := by simpa using hi
    subst this
    simp)
  rw [List.length_replicate, show [1].length = 1 from rfl] at hrun k1
  obtain ⟨x0, hx0⟩ : ∃ x0, x0 = 1000000000 ^ K := ⟨_, rfl⟩
  have hsh := limbs_shift K 1 (by omega)
  rw [Nat.mul_one, ← hx0, limbs_of_one] at hsh
  rw [← hsh] at k3
  have hxl : K + 1 = (limbs x0).length := by rw [hsh]; simp
  have HX : Hid (IsInt w3 (.agg #[.bool false, .slice a3 (K + 1) c3]) (x0 : Int)) := by
    rw [hxl]
    exact ⟨a3, c3, by simp, by rw [Int.natAbs_natCast, ← hxl]; exact k1, k2, by rw [Int.natAbs_natCast]; exact k3⟩
  have e3 : Ext W w3 := by
    refine Below.trans ?_ hB3
    exact ((Ext.refl W).alloc _).alloc _
  have V1 : Hid (VarAt (zE [(n : Int), (x0 : Int)]) W w.heap.size [.int (.var 0) 100000]) := by
    unfold Hid
    rw [← hW]
    refine VarAt.ext (w := w.alloc (.cells #[.bool false, .slice ao (limbs n).length cap] 24)) ?_ ((Ext.refl _).alloc _)
    exact VarAt.new (vs := [_, _]) (chunks_int h rfl l)
  have V2 : Hid (VarAt (zE [(n : Int), (x0 : Int)]) W (w.heap.size + 1) [.int (.lit 0) 0]) := by
    unfold Hid
    rw [← hW]
    have := VarAt.new (E := zE [(n : Int), (x0 : Int)]) (w := w.alloc (.cells #[.bool false, .slice ao (limbs n).length cap] 24)) (vs := [_, _]) (t := 24) (chunks_int (t := .lit 0) (l := 0) (isInt_zero _) rfl lim_zero)
    rwa [World.size_alloc] at this
  have HL3 : Hid (Lim 100001 (x0 : Int)) := by unfold Hid Lim; rw [Int.natAbs_natCast, ← hxl]; omega
  have HRUN := Lib.hid hrun
  have HK := Lib.hid hK
  have Hx0 := Lib.hid hx0
  clear hK H4 H5 H6 h hrun hown hx0 hsh k1 k2 k3 hxl hB3
  go_enter Try.func56, Try.ntmps56
  have hWs2 := Lib.hid hWs
  clear hWs
  go_wp2_with (at_builtin; refine wpList_append_run' rfl _ _ 22 rfl rfl rfl HRUN.out ?_)
  obtain ⟨w4, hw4⟩ : ∃ w4, w4 = w3.alloc (.cells #[.bool false, .slice a3 (K + 1) c3] 24) := ⟨_, rfl⟩
  rw [← hw4]
  refine (rfromInt64_calls w4 2 (by decide) (by decide)).mono ?_
  rintro e w5 ⟨v5, rfl, hI5, e5⟩
  obtain ⟨ao5, cap5, s5, n5, rfl, _⟩ := IsInt.open_ hI5
  have HI5 := Lib.hid hI5
  clear hI5
  go_wp2_with fail
  have hx0p : 0 < x0 := by rw [Hx0.out]; exact Nat.pow_pos (by omega)
  have hnx : n < (x0 + 1) * (x0 + 1) := by
    refine lt_next_sq ?_
    rw [Hx0.out, ← Nat.pow_add]
    exact Nat.lt_of_lt_of_le (lt_of_limbs_len (Nat.le_refl _)) (Nat.pow_le_pow_right (by omega) (by have := HK.out; omega))
  obtain ⟨m, E', hR, hE⟩ := sq_run n (by omega) x0 hx0p hnx HL3.out
  have hup : (zE [(n : Int), (x0 : Int)]).upd sqI.vs ([IT.var 1].map (IT.den (zE [(n : Int), (x0 : Int)]))) = (zE [(n : Int), 0]).upd [1] [(x0 : Int)] := by
    unfold Env.upd
    congr 1
    funext k
    show (if k = 1 then some (x0 : Int) else none).getD (([(n : Int), (x0 : Int)]).getD k 0) = (if k = 1 then some (x0 : Int) else none).getD (([(n : Int), 0]).getD k 0)
    by_cases hk : k = 1
    · rw [if_pos hk]; rfl
    · rw [if_neg hk]
      match k, hk with
      | 0, _ => rfl
      | k + 2, _ => rfl
  have e35 : Ext w3 w5 := by
    have := (Ext.refl w3).alloc (.cells #[.bool false, .slice a3 (K + 1) c3] 24)
    rw [← hw4] at this
    exact this.trans e5
  have e6 := (Ext.refl w5).alloc (.cells #[.bool s5, .slice ao5 (limbs n5).length cap5] 24)
  have V4 : VarAt (zE [(n : Int), (x0 : Int)]) w4 w3.heap.size [.int (.var 1) 100001] := by
    rw [hw4]
    exact VarAt.new (vs := [_, _]) (chunks_int HX.out rfl HL3.out)
  have V5 := VarAt.new (E := zE [(n : Int), (x0 : Int)]) (vs := [_, _]) (t := 24) (chunks_int (t := .lit 2) (l := 3) HI5.out rfl (lim3 (by decide) (by decide)))
  have sz3 := e3.size
  have sz35 := e35.size
  have sz4 : w4.heap.size = w3.heap.size + 1 := by rw [hw4]; simp
  have sz5 := e5.size
  have hs2 := hWs2.out
  refine execL_sound (Good := fun _ => True) (C := cfgOf tabRsq) (L := fun _ => some sqI) (w0 := w) (B := w.heap.size) (n := Try.f56.ntmps) (l := sqLeaf) (E' := E') mixed (fun _ _ => ⟨cfg_ok tabRsq_ok, fun _ _ => True.intro⟩) _ 0 (fun _ S e => match e with | .ret => (resE (cfgOf tabRsq) S Try.f56.results.toList).map .leaf | _ => none) _ noStk [] ⟨lookN sqI.lk, lookN sqI.vr⟩ (.loop 0 sqI [.var 1] sqTree) (zE [(n : Int), (x0 : Int)]) m _ _ no_asm trivial ?_ (by kernel_rfl) (.loop ⟨no_asm, trivial, ?_⟩ (by rw [hup]; exact hR)) ?_
  · have hz2 : ∀ t x, lookN sqI.lk t = some x → t = 1 ∧ x = .ptr 1 0 ∨ t = 2 ∧ x = .ptr 2 0 ∨ t = 4 ∧ x = .ptr 4 0 ∨ t = 5 ∧ x = .ptr 5 0 := by
      intro t x hx
      have := lookN_mem hx
      simpa [sqI] using this
    have hz3 : ∀ t x, lookN sqI.vr t = some x → t = 1 ∧ x = [.int (.var 0) 100000] ∨ t = 2 ∧ x = [.int (.lit 0) 0] ∨ t = 4 ∧ x = [.int (.var 1) 100001] ∨ t = 5 ∧ x = [.int (.lit 2) 3] := by
      intro t x hx
      have := lookN_mem hx
      simpa [sqI] using this
    refine ⟨fun t => if t = 1 then w.heap.size else if t = 2 then w.heap.size + 1 else if t = 4 then w3.heap.size else w5.heap.size, ⟨?_, ?_, ?_, ?_, by kernel_rfl, rfl, ?_, ?_, ?_⟩⟩
    · intro t x hx
      rcases hz2 t x hx with ⟨rfl, rfl⟩ | ⟨rfl, rfl⟩ | ⟨rfl, rfl⟩ | ⟨rfl, rfl⟩ <;> rfl
    · intro t x hx
      rcases hz3 t x hx with ⟨rfl, rfl⟩ | ⟨rfl, rfl⟩ | ⟨rfl, rfl⟩ | ⟨rfl, rfl⟩
      · exact ⟨fun _ => Nat.le_refl _, (V1.out.ext (e3.trans e35)).ext e6⟩
      · exact ⟨fun _ => by show w.heap.size ≤ w.heap.size + 1; omega, (V2.out.ext (e3.trans e35)).ext e6⟩
      · exact ⟨fun _ => by show w.heap.size ≤ w3.heap.size; omega, (V4.ext e5).ext e6⟩
      · exact ⟨fun _ => by show w.heap.size ≤ w5.heap.size; omega, V5⟩
    · intro x y hx hy he
      obtain ⟨cs, hcs⟩ := Option.isSome_iff_exists.1 hx
      obtain ⟨ds, hds⟩ := Option.isSome_iff_exists.1 hy
      rcases hz3 x cs hcs with ⟨rfl, _⟩ | ⟨rfl, _⟩ | ⟨rfl, _⟩ | ⟨rfl, _⟩ <;> rcases hz3 y ds hds with ⟨rfl, _⟩ | ⟨rfl, _⟩ | ⟨rfl, _⟩ | ⟨rfl, _⟩ <;> first | rfl | (exfalso; revert he; simp; done) | (exfalso; revert he; simp; omega)
    · intro t x off hx
      rcases hz2 t _ hx with ⟨rfl, hh⟩ | ⟨rfl, hh⟩ | ⟨rfl, hh⟩ | ⟨rfl, hh⟩ <;> (injection hh with h1 h2; subst h1; rfl)
    · simp; omega
    · exact (eW.trans (e3.trans e35)).trans (Below.mono e6 (by omega))
    · intro x cs hx
      rcases hz3 x cs hx with ⟨rfl, rfl⟩ | ⟨rfl, rfl⟩ | ⟨rfl, rfl⟩ | ⟨rfl, rfl⟩ <;> decide
  · intro p hp
    simp only [sqI, List.mem_cons, List.not_mem_nil, or_false] at hp
    subst hp
    rw [hup]
    exact HL3.out
  · intro K' G' S' e T' E1 m' hm' hK' h1 hR' hG' hE' a' w' h4'
    cases e with
    | norm => cases h1
    | exit id => cases h1
    | ret =>
      obtain ⟨l', hl, rfl⟩ := Option.map_eq_some_iff.1 h1
      cases hR' with
      | leaf =>
        obtain ⟨β, v, r1, r2⟩ := resE_sound (cfg_ok tabRsq_ok) h4' (fn := Try.f56) (rs := Try.f56.results.toList) (by simp) (by decide +kernel) hl
        obtain ⟨β', hS⟩ := h4'
        refine ⟨hS.nd, v, r1, ?_⟩
        obtain ⟨vs, rfl, u1, r1, rfl, k1, u2, r2, rfl, k2, hn⟩ := r2
        simp only [tupAll] at hn
        subst hn
        have k2' := one_num.1 k2
        subst k2'
        have k1' := (one_int.1 k1).1
        refine ⟨u1, ?_, ?_, hS.bl⟩
        · show _ = Ending.returned (.tuple #[u1, .int .i64 (isqE (n : Int))])
          rw [show isqE (n : Int) = 0 from if_neg (by omega)]
          rfl
        · rw [show isq (n : Int) = (isqN n : Int) by unfold isq; rw [if_neg (by omega), Int.natAbs_natCast], ← hE]
          exact k1'

theorem open_iq {E : Env} {β : Nat → Nat} {w : World} {v : Value} {x u : IT} {l : Nat} (hx : (AV.tup [(true, [.int x l]), (false, [.n .i64 u])]).holds E β w v) : ∃ p, v = .tuple #[p, .int .i64 (u.den E)] ∧ IsInt w p (x.den E) := by
  obtain ⟨vs, rfl, u1, r1, rfl, k1, u2, r2, rfl, k2, hn⟩ := hx
  simp only [tupAll] at hn
  subst hn
  have k2' := one_num.1 k2
  subst k2'
  exact ⟨u1, rfl, (one_int.1 k1).1⟩
theorem rsqrt_any (w : World) (v : Value) (z : Int) (h : IsInt w v z) (l : Lim 100000 z) : Calls Try.prog 56 #[v] w (RetSqA z w) := by
  by_cases hz : 0 < z
  · exact rsqrt_pos w v z h l hz
  · by_cases h0 : z = 0
    · subst h0
      refine (fun_sound (C := cfgOf []) (E := zE []) (args := [.val true [.int (.lit 0) 0]]) (T := .leaf [(true, [.int (.lit 0) 0]), (false, [.n .i64 (.lit 0)])])
        mixed (cfg_ok .nil) no_asm Try.func56 (by decide +kernel) (by kernel_rfl) (by decide +kernel) rfl w [v] rfl ?_).mono ?_
      · intro i x hx
        match i, hx with
        | 0, hx => injection hx with hx; subst hx; exact ⟨fun _ => 0, v, rfl, one_int.2 ⟨h, lim_zero⟩⟩
      · rintro e w' ⟨β, u, rfl, hh, ex⟩
        obtain ⟨p, rfl, hp⟩ := open_iq hh
        exact ⟨p, rfl, hp, ex⟩
    · have hneg : z < 0 := by omega
      refine (fun_sound (C := cfgOf []) (E := zE [z]) (G := [(.lt (.var 0) (.lit 0), true)]) (args := [.val true [.int (.var 0) 100000]]) (T := .leaf [(true, [.int (.lit 0) 0]), (false, [.n .i64 (.lit 7)])])
        mixed (cfg_ok .nil) (asm_cons no_asm (by show decide (z < 0) = true; exact decide_eq_true hneg)) Try.func56 (by decide +kernel) (by kernel_rfl) (by decide +kernel) rfl w [v] rfl ?_).mono ?_
      · intro i x hx
        match i, hx with
        | 0, hx => injection hx with hx; subst hx; exact ⟨fun _ => 0, v, rfl, one_int.2 ⟨h, l⟩⟩
      · rintro e w' ⟨β, u, rfl, hh, ex⟩
        obtain ⟨p, rfl, hp⟩ := open_iq hh
        refine ⟨p, ?_, ?_, ex⟩
        · rw [show isqE z = 7 from if_pos hneg]; rfl
        · rw [show isq z = 0 from if_pos hneg]; exact hp

end Go.Proofs.Ytdleiiboffkidaa
end

/- ---- Rff ---- -/
section
/-
  RationalSqrt.
-/
set_option maxRecDepth 100000
namespace Go.Proofs.Ytdleiiboffkidaa
open Go.RowKit

def kSqRef : Con
  | [.val true [.int x l]], _ => if decide (l ≤ 100000) then some (.tup [(true, [.int (.a1 2 x) l]), (false, [.n .i64 (.a1 3 x)])]) else none
  | _, _ => none
theorem kSqRef_ok {E : Env} : ConOK Try.prog E 56 kSqRef := by
  refine ⟨?_, ?_, ⟨_, Try.func56, by decide +kernel, by kernel_rfl⟩⟩
  · intro args As r h hG β w vs hv hlen
    unfold kSqRef at h
    split at h
    · split at h
      · rename_i hlo
        injection h with h
        subst h
        simp only [decide_eq_true_iff] at hlo
        obtain ⟨v, rfl, h1⟩ := args1 hv hlen
        obtain ⟨i1, l1⟩ := one_int.1 h1
        refine (rsqrt_any w v _ i1 (l1.mono hlo)).mono ?_
        rintro e w' ⟨u, rfl, k1, ex⟩
        exact ⟨_, rfl, ⟨[u, .int .i64 _], rfl, u, _, rfl, one_int.2 ⟨k1, isq_lim l1⟩, _, _, rfl, one_num.2 rfl, rfl⟩, ex⟩
      · cases h
    · cases h
  · intro args As r h x off
    unfold kSqRef at h
    split at h
    · split at h
      · injection h with h; subst h; intro e; cases e
      · cases h
    · cases h
theorem open_ib' {E : Env} {β : Nat → Nat} {w : World} {v : Value} {x : IT} {k : Nat} {t : BT} (hx : (AV.tup [(true, [.int x k]), (false, [.b t])]).holds E β w v) : ∃ p, v = .tuple #[p, .bool (t.den E)] ∧ IsInt w p (x.den E) := by
  obtain ⟨vs, rfl, u1, r1, rfl, k1, u2, r2, rfl, k2, hn⟩ := hx
  simp only [tupAll] at hn
  subst hn
  have k2' := one_bool.1 k2
  subst k2'
  exact ⟨u1, rfl, (one_int.1 k1).1⟩
/-- Squares of rational numbers. -/
theorem mul_self_parts (a : Rat) : (a * a).num = a.num * a.num ∧ (a * a).den = a.den * a.den := by
  have hc : (a.num * a.num).natAbs.Coprime (a.den * a.den) := by
    rw [Int.natAbs_mul]
    exact (Nat.Coprime.mul_left a.reduced a.reduced).symm.mul_left (Nat.Coprime.mul_left a.reduced a.reduced).symm |>.symm
  have hn : a.den * a.den ≠ 0 := Nat.mul_ne_zero a.den_nz a.den_nz
  have e : a * a = ⟨a.num * a.num, a.den * a.den, hn, hc⟩ := by
    rw [Rat.mk_eq_divInt]
    have h : Rat.divInt a.num a.den * Rat.divInt a.num a.den = a * a := by rw [Rat.num_divInt_den]
    rw [← h, Rat.divInt_mul_divInt, Int.natCast_mul]
  rw [e]
  exact ⟨rfl, rfl⟩
def ratAbs (a : Rat) : Rat := ⟨(a.num.natAbs : Int), a.den, a.den_nz, by rw [Int.natAbs_natCast]; exact a.reduced⟩
theorem isq_self (n : Int) : isq (n * n) = (n.natAbs : Int) ∧ sqB (n * n) = true := by
  have h0 : ¬ n * n < 0 := by
    have e : ((n.natAbs : Int)) * (n.natAbs : Int) = n * n := Int.natAbs_mul_self
    have h := Int.natCast_nonneg (n.natAbs * n.natAbs)
    rw [Int.natCast_mul, e] at h
    omega
  have e1 : isq (n * n) = (n.natAbs : Int) := by
    unfold isq
    rw [if_neg h0, Int.natAbs_mul]
    congr 1
    refine isqN_spec_eq ⟨Nat.le_refl _, ?_⟩
    exact Nat.mul_lt_mul'' (by omega) (by omega)
  refine ⟨e1, ?_⟩
  unfold sqB
  rw [e1]
  have e2 : ((n.natAbs : Int)) * (n.natAbs : Int) = n * n := Int.natAbs_mul_self
  rw [e2, cmpZ_eq rfl]
  unfold isqE
  rw [if_neg h0]
  rfl
theorem sqB_spec {z : Int} (h : sqB z = true) : isq z * isq z = z := by
  unfold sqB at h
  rw [Bool.and_eq_true, beq_iff_eq, beq_iff_eq] at h
  rcases cmpZ_cases (isq z * isq z) z with ⟨_, e⟩ | ⟨k, _⟩ | ⟨_, e⟩
  · have := h.2; omega
  · exact k
  · have := h.2; omega
theorem root_rat {a : Rat} (h : sqB a.num = true) (k : sqB (a.den : Int) = true) : ∃ s : Rat, s.num = isq a.num ∧ (s.den : Int) = isq (a.den : Int) := by
  have e1 := sqB_spec h
  have e2 := sqB_spec k
  have hd : (a.den : Int) ≠ 0 := den_ne a
  have hp : 0 ≤ isq (a.den : Int) := by unfold isq; split <;> omega
  have hne : (isq (a.den : Int)).natAbs ≠ 0 := by
    intro e
    have : isq (a.den : Int) = 0 := by omega
    rw [this] at e2
    omega
  have hc : (isq a.num).natAbs.Coprime (isq (a.den : Int)).natAbs := by
    have h1 : (isq a.num).natAbs * (isq a.num).natAbs = a.num.natAbs := by rw [← Int.natAbs_mul, e1]
    have h2 : (isq (a.den : Int)).natAbs * (isq (a.den : Int)).natAbs = a.den := by rw [← Int.natAbs_mul, e2, Int.natAbs_natCast]
    have hr := a.reduced
    rw [← h1, ← h2] at hr
    exact (Nat.Coprime.coprime_mul_left (Nat.Coprime.coprime_mul_left hr).symm).symm
  refine ⟨⟨isq a.num, (isq (a.den : Int)).natAbs, hne, hc⟩, rfl, ?_⟩
  show (((isq (a.den : Int)).natAbs : Nat) : Int) = _
  omega
def isV (i : Nat) : IT → Bool
  | .var j => i == j
  | _ => false
theorem isV_spec {i : Nat} {t : IT} (h : isV i t = true) : t = .var i := by
  cases t <;> simp only [isV, Bool.false_eq_true, beq_iff_eq] at h
  rw [h]
def kSqC (b : Bool) : Con
  | [.val true [.int x l, .int y m]], _ =>
    if (isV 0 x && isV 1 y) && (decide (l ≤ 6) && decide (m ≤ 6)) then some (if b then .tup [(true, [.int (.var 2) 6, .int (.var 3) 6]), (false, [.b (.lit true)])] else .tup [(true, [.int (.lit 0) 0, .int (.lit 0) 0]), (false, [.b (.lit false)])])
    else if (x.beq (qop 2 (qv 0) (qv 0)).1 && y.beq (qop 2 (qv 0) (qv 0)).2) && (decide (l ≤ 100000) && decide (m ≤ 100000)) then some (.tup [(true, [.int (.var 4) 6, .int (.var 5) 6]), (false, [.b (.lit true)])]) else none
  | _, _ => none
theorem kSqC_ok {a s : Rat} {b : Bool} (la : LimQ 6 a) (hb : (sqB a.num && sqB (a.den : Int)) = b) (hs : b = true → s.num = isq a.num ∧ (s.den : Int) = isq (a.den : Int)) {f : Nat}
    (hc : ∀ (w : World) (v : Value) (n d : Int), IsPair w v n d → Lim 100000 n → Lim 100000 d → Calls Try.prog f #[v] w (RetSqQ n d w))
    (hf : ∃ fn, Try.prog.funcs[f]? = some fn ∧ fn.name ≠ "runtime.NumGoroutine" ∧ fn.body.isNone = false) : ConOK Try.prog (qE [a, s, ratAbs a]) f (kSqC b) := by
  have ra : RepQ (qE [a, s, ratAbs a]) (qv 0) a := rep_v (i := 0)
  have rs : RepQ (qE [a, s, ratAbs a]) (qv 1) s := rep_v (i := 1)
  have rt : RepQ (qE [a, s, ratAbs a]) (qv 2) (ratAbs a) := rep_v (i := 2)
  have rm : RepQ (qE [a, s, ratAbs a]) (qop 2 (qv 0) (qv 0)) (a * a) := rep_op (f := 2) (by omega) ra ra
  refine ⟨?_, ?_, hf⟩
  · intro args As r h hG β w vs hv hlen
    unfold kSqC at h
    split at h
    · split at h
      · rename_i x l y m hm
        simp only [Bool.and_eq_true, decide_eq_true_iff] at hm
        obtain ⟨⟨hx, hy⟩, hl, hm⟩ := hm
        obtain rfl := isV_spec hx
        obtain rfl := isV_spec hy
        injection h with h
        subst h
        obtain ⟨v, rfl, h1⟩ := args1 hv hlen
        obtain ⟨p1, a1, a2⟩ := one_pair.1 h1
        have e1 : (IT.var 0).den (qE [a, s, ratAbs a]) = a.num := ra.1
        have e2 : (IT.var 1).den (qE [a, s, ratAbs a]) = (a.den : Int) := ra.2
        rw [e1, e2] at p1
        rw [e1] at a1
        rw [e2] at a2
        refine (hc w v _ _ p1 (a1.mono (by omega)) (a2.mono (by omega))).mono ?_
        rintro e w' ⟨u, rfl, hp, ex⟩
        unfold sqN at hp
        rw [hb] at hp ⊢
        cases b with
        | true =>
          obtain ⟨s1, s2⟩ := hs rfl
          rw [if_pos rfl, if_pos rfl, ← s1, ← s2] at hp
          refine ⟨_, rfl, ⟨[u, .bool true], rfl, u, _, rfl, one_pair.2 ⟨?_, ?_, ?_⟩, _, _, rfl, one_bool.2 rfl, rfl⟩, ex⟩
          · show IsPair w' u ((qv 1).1.den _) ((qv 1).2.den _)
            rw [rs.1, rs.2]; exact hp
          · show Lim 6 ((qv 1).1.den _)
            rw [rs.1, s1]; exact isq_lim la.1
          · show Lim 6 ((qv 1).2.den _)
            rw [rs.2, s2]; exact isq_lim la.2
        | false =>
          rw [if_neg (by decide), if_neg (by decide)] at hp
          exact ⟨_, rfl, ⟨[u, .bool false], rfl, u, _, rfl, one_pair.2 ⟨hp, lim_zero, lim_zero⟩, _, _, rfl, one_bool.2 rfl, rfl⟩, ex⟩
      · split at h
        · rename_i x l y m _ hm
          simp only [Bool.and_eq_true, decide_eq_true_iff] at hm
          obtain ⟨⟨hx, hy⟩, hl, hm⟩ := hm
          obtain rfl := IT.eq_of_beq hx
          obtain rfl := IT.eq_of_beq hy
          injection h with h
          subst h
          obtain ⟨v, rfl, h1⟩ := args1 hv hlen
          obtain ⟨p1, a1, a2⟩ := one_pair.1 h1
          obtain ⟨m1, m2⟩ := mul_self_parts a
          rw [rm.1, rm.2, m1, m2, Int.natCast_mul] at p1
          rw [rm.1, m1] at a1
          rw [rm.2, m2, Int.natCast_mul] at a2
          obtain ⟨i1, j1⟩ := isq_self a.num
          obtain ⟨i2, j2⟩ := isq_self (a.den : Int)
          refine (hc w v _ _ p1 (a1.mono hl) (a2.mono hm)).mono ?_
          rintro e w' ⟨u, rfl, hp, ex⟩
          unfold sqN at hp
          rw [j1, j2] at hp ⊢
          rw [Bool.and_self, if_pos rfl, if_pos rfl, i1, i2, Int.natAbs_natCast] at hp
          refine ⟨_, rfl, ⟨[u, .bool true], rfl, u, _, rfl, one_pair.2 ⟨?_, ?_, ?_⟩, _, _, rfl, one_bool.2 rfl, rfl⟩, ex⟩
          · show IsPair w' u ((qv 2).1.den _) ((qv 2).2.den _)
            rw [rt.1, rt.2]; exact hp
          · show Lim 6 ((qv 2).1.den _)
            rw [rt.1]
            exact la.1.natAbs_le (by show ((a.num.natAbs : Int)).natAbs ≤ _; rw [Int.natAbs_natCast]; exact Nat.le_refl _)
          · show Lim 6 ((qv 2).2.den _)
            rw [rt.2]
            exact la.2
        · cases h
    · cases h
  · intro args As r h x off
    unfold kSqC at h
    split at h
    · split at h
      · injection h with h; subst h; cases b <;> (intro e; cases e)
      · split at h
        · injection h with h; subst h; intro e; cases e
        · cases h
    · cases h
def sqLT : Tree :=
  .ite (.le (.lit 0) (.a2 3 (.var 4) (.lit 0))) (.ite (.and (.eq (.var 4) (.var 0)) (.eq (.var 5) (.var 1))) (leafB (.lit true)) (leafB (.and (.eq (.var 4) (.a1 0 (.var 0))) (.eq (.var 5) (.var 1))))) (leafB (.lit false))
end Go.Proofs.Ytdleiiboffkidaa
end

/- ---- Sma ---- -/
section
/-
  The simplest number between two numbers: what the common recursion yields.
-/
set_option maxRecDepth 100000
namespace Go.Proofs.Ytdleiiboffkidaa

/-- The simplest fraction between ln / ld and hn / hd, where hd can be 0. -/
def simS : Nat → Int → Int → Int → Int → Int × Int
  | 0, _, _, _, _ => (1, 1)
  | k + 1, ln, ld, hn, hd => if (ln / ld + 1) * hd < hn then (ln / ld + 1, 1) else ((ln / ld) * (simS k hd (hn - ln / ld * hd) ld (ln - ln / ld * ld)).1 + (simS k hd (hn - ln / ld * hd) ld (ln - ln / ld * ld)).2, (simS k hd (hn - ln / ld * hd) ld (ln - ln / ld * ld)).1)
structure SimOK (ln ld hn hd : Int) (r : Int × Int) : Prop where
  p1 : 0 < r.1
  p2 : 0 < r.2
  lo : ln * r.2 < r.1 * ld
  hi : r.1 * hd < hn * r.2
  least : ∀ n d : Int, 0 < d → ln * d < n * ld → n * hd < hn * d → r.1 ≤ n ∧ r.2 ≤ d
theorem pos_of_mul {a b : Int} (h : 0 < a * b) (hb : 0 < b) : 0 < a := by
  rcases Int.lt_trichotomy a 0 with h1 | h1 | h1
  · have := Int.mul_neg_of_neg_of_pos h1 hb; omega
  · rw [h1, Int.zero_mul] at h; omega
  · exact h1
theorem lt_of_mul {a b c : Int} (h : a * c < b * c) (hc : 0 < c) : a < b := by
  have : 0 < (b - a) * c := by rw [Int.sub_mul]; omega
  have := pos_of_mul this hc
  omega
theorem simS_ok : ∀ (k : Nat) (ln ld hn hd : Int), 0 ≤ ln → 0 < ld → 0 < hn → 0 ≤ hd → ln * hd < hn * ld → ld + hd < k → SimOK ln ld hn hd (simS k ln ld hn hd) := by
  intro k
  induction k with
  | zero => intro ln ld hn hd _ h2 _ h4 _ h6; exfalso; have : ((0 : Nat) : Int) = 0 := rfl; omega
  | succ k ih =>
    intro ln ld hn hd h1 h2 h3 h4 h5 h6
    obtain ⟨f, hf⟩ : ∃ f, f = ln / ld := ⟨_, rfl⟩
    have hf0 : 0 ≤ f := by rw [hf]; exact Int.ediv_nonneg h1 (by omega)
    have hr0 : 0 ≤ ln - f * ld := by
      have := Int.ediv_mul_le ln (show ld ≠ 0 by omega)
      rw [← hf] at this
      omega
    have hr1 : ln - f * ld < ld := by
      have := Int.lt_ediv_add_one_mul_self ln h2
      rw [← hf, Int.add_mul, Int.one_mul] at this
      omega
    unfold simS
    rw [← hf]
    by_cases hc : (f + 1) * hd < hn
    · rw [if_pos hc]
      refine ⟨by show 0 < f + 1; omega, by show (0 : Int) < 1; decide, ?_, ?_, ?_⟩
      · show ln * 1 < (f + 1) * ld
        rw [Int.mul_one, Int.add_mul, Int.one_mul]; omega
      · show (f + 1) * hd < hn * 1
        rw [Int.mul_one]; exact hc
      · intro n d hd0 ha hb
        refine ⟨?_, by show (1 : Int) ≤ d; omega⟩
        show f + 1 ≤ n
        have e1 : f * ld * d ≤ ln * d := Int.mul_le_mul_of_nonneg_right (by omega) (by omega)
        have e2 : f * d * ld < n * ld := by
          have : f * d * ld = f * ld * d := by grind
          omega
        have e3 := lt_of_mul e2 h2
        have e4 : f * 1 ≤ f * d := Int.mul_le_mul_of_nonneg_left (by omega) hf0
        omega
    · rw [if_neg hc]
      have hg1 : hn - f * hd ≤ hd := by
        have : (f + 1) * hd = f * hd + hd := by grind
        omega
      have hg0 : 0 < hn - f * hd := by
        have e1 : f * ld * hd ≤ ln * hd := Int.mul_le_mul_of_nonneg_right (by omega) h4
        have e2 : f * hd * ld < hn * ld := by
          have : f * hd * ld = f * ld * hd := by grind
          omega
        have := lt_of_mul e2 h2
        omega
      have i := ih hd (hn - f * hd) ld (ln - f * ld) h4 hg0 h2 hr0 (by grind) (by omega)
      obtain ⟨i1, i2, i3, i4, i5⟩ := i
      generalize simS k hd (hn - f * hd) ld (ln - f * ld) = r at *
      obtain ⟨p, q⟩ := r
      simp only at i1 i2 i3 i4 i5 ⊢
      have hfp : 0 ≤ f * p := Int.mul_nonneg hf0 (by omega)
      refine ⟨by show 0 < f * p + q; omega, i1, ?_, ?_, ?_⟩
      · show ln * p < (f * p + q) * ld
        grind
      · show (f * p + q) * hd < hn * p
        grind
      · intro n d hd0 ha hb
        have hm : 0 < n - f * d := by
          have e1 : 0 ≤ (ln - f * ld) * d := Int.mul_nonneg hr0 (by omega)
          have e2 : 0 < (n - f * d) * ld := by grind
          exact pos_of_mul e2 h2
        obtain ⟨j1, j2⟩ := i5 d (n - f * d) hm (by grind) (by grind)
        refine ⟨?_, j1⟩
        show f * p + q ≤ n
        have := Int.mul_le_mul_of_nonneg_left j1 hf0
        omega
/-- It is in lowest terms. -/
theorem SimOK.coprime {ln ld hn hd : Int} {r : Int × Int} (h : SimOK ln ld hn hd r) : Nat.gcd r.1.natAbs r.2.natAbs = 1 := by
  obtain ⟨p, q⟩ := r
  obtain ⟨h1, h2, h3, h4, h5⟩ := h
  simp only at h1 h2 h3 h4 h5 ⊢
  obtain ⟨g, hg⟩ : ∃ g, g = Nat.gcd p.natAbs q.natAbs := ⟨_, rfl⟩
  have hgp : 0 < g := by rw [hg]; exact Nat.gcd_pos_of_pos_left _ (by omega)
  obtain ⟨u, hu⟩ := Nat.gcd_dvd_left p.natAbs q.natAbs
  obtain ⟨v, hv⟩ := Nat.gcd_dvd_right p.natAbs q.natAbs
  rw [← hg] at hu hv ⊢
  have hp : p = (g : Int) * (u : Int) := by rw [← Int.natCast_mul, ← hu]; omega
  have hq : q = (g : Int) * (v : Int) := by rw [← Int.natCast_mul, ← hv]; omega
  have hv0 : 0 < v := by
    rcases Nat.eq_zero_or_pos v with h0 | h0
    · rw [h0, Nat.mul_zero] at hv; omega
    · exact h0
  have hgI : (0 : Int) < (g : Int) := by omega
  have a1 : ln * (v : Int) < (u : Int) * ld := by
    refine lt_of_mul (c := (g : Int)) ?_ hgI
    have e1 : ln * (v : Int) * (g : Int) = ln * q := by rw [hq]; grind
    have e2 : (u : Int) * ld * (g : Int) = p * ld := by rw [hp]; grind
    omega
  have a2 : (u : Int) * hd < hn * (v : Int) := by
    refine lt_of_mul (c := (g : Int)) ?_ hgI
    have e1 : (u : Int) * hd * (g : Int) = p * hd := by rw [hp]; grind
    have e2 : hn * (v : Int) * (g : Int) = hn * q := by rw [hq]; grind
    omega
  have := (h5 u v (by omega) a1 a2).2
  have h7 : q.natAbs ≤ v := by omega
  rw [hv] at h7
  have h8 : 2 ≤ g → False := fun h => by
    have := Nat.mul_le_mul_right v h
    omega
  rcases Nat.lt_or_ge g 2 with h | h
  · omega
  · exact (h8 h).elim
end Go.Proofs.Ytdleiiboffkidaa
end

/- ---- Smb ---- -/
section
/-
  Floor and Over of the reference; parts of b - f and of 1 / c.
-/
set_option maxRecDepth 100000
namespace Go.Proofs.Ytdleiiboffkidaa
open Go.RowKit

theorem rfloor_rat_calls (w : World) (v : Value) (a : Rat) (h : IsRat w v a) (l : LimQ 100000 a) : Calls Try.prog 48 #[v] w (Ret (fun v w' => IsInt w' v a.floor) w) := by
  refine (walkQ1 (T := .leaf [(true, [.int (.a2 4 (.var 0) (.var 1)) 100000])]) (tab := [(79, kDM)])
    (.cons (kDMg_ok (fun w v u a b h k l1 l2 => rdivMod_fn w v u a b h k l1 l2) ⟨_, Try.func79, by decide +kernel, by kernel_rfl⟩) .nil)
    Try.func48 (by kernel_rfl) (by decide +kernel) (by decide +kernel) h l).mono ?_
  rintro e w' ⟨β, u, rfl, hh, ex⟩
  refine ⟨u, rfl, ?_, ex⟩
  have k := (one_int.1 hh).1
  have e1 : (IT.a2 4 (.var 0) (.var 1)).den (qE [a]) = a.floor := by
    show dq a.num (a.den : Int) = _
    rw [dq_pos (by have := a.den_pos; omega), ← Rat.floor_def]
  rw [e1] at k
  exact k
theorem intCast_divInt (f : Int) : ((f : Int) : Rat) = Rat.divInt f 1 := by
  have h : Rat.divInt ((f : Rat).num) ((f : Rat).den : Int) = (f : Rat) := Rat.num_divInt_den _
  rw [Rat.num_intCast, Rat.den_intCast] at h
  exact h.symm
/-- The parts of b - f. -/
theorem sub_int_parts (b : Rat) (f : Int) : (b - (f : Rat)).num = b.num - f * (b.den : Int) ∧ (b - (f : Rat)).den = b.den := by
  have hc : (b.num - f * (b.den : Int)).natAbs.Coprime b.den := by
    have h1 : Int.gcd (b.num - f * (b.den : Int)) (b.den : Int) = Int.gcd b.num (b.den : Int) := by
      rw [show b.num - f * (b.den : Int) = b.num + (b.den : Int) * (-f) by grind]
      exact Int.gcd_add_mul_left_left ..
    have h2 : Int.gcd b.num (b.den : Int) = 1 := by
      show Nat.gcd b.num.natAbs (b.den : Int).natAbs = 1
      rw [Int.natAbs_natCast]
      exact b.reduced
    rw [h2] at h1
    have h3 : Nat.gcd (b.num - f * (b.den : Int)).natAbs (b.den : Int).natAbs = 1 := h1
    rw [Int.natAbs_natCast] at h3
    exact h3
  have e : b - (f : Rat) = ⟨b.num - f * (b.den : Int), b.den, b.den_nz, hc⟩ := by
    have k : (⟨b.num - f * (b.den : Int), b.den, b.den_nz, hc⟩ : Rat) + (f : Rat) = b := by
      rw [Rat.mk_eq_divInt, intCast_divInt, Rat.divInt_add_divInt _ _ (den_ne b) (by omega), Int.mul_one, Int.mul_one, show b.num - f * (b.den : Int) + f * (b.den : Int) = b.num by omega]
      exact Rat.num_divInt_den b
    grind
  rw [e]
  exact ⟨rfl, rfl⟩
/-- The parts of 1 / c. -/
theorem inv_parts {c : Rat} (h : 0 < c.num) : (1 / c).num = (c.den : Int) ∧ ((1 / c).den : Int) = c.num := by
  have e : (1 : Rat) / c = c⁻¹ := by rw [Rat.div_def, Rat.one_mul]
  rw [e, Rat.num_inv, Rat.den_inv, if_neg (by omega), Int.sign_eq_one_of_pos h]
  refine ⟨by omega, by omega⟩
end Go.Proofs.Ytdleiiboffkidaa
end

/- ---- Flr ---- -/
section
/-
  Floor of the reference, for the walker.
-/
set_option maxRecDepth 100000
namespace Go.Proofs.Ytdleiiboffkidaa
open Go.RowKit

def kFlR : Con
  | [.val true [.int x l, .int y m]], _ => if canon x y && (ql l && ql m) then some (.val true [.int (.a2 4 x y) l]) else none
  | _, _ => none
theorem kFlR_ok {E : Env} (hE : QEnv E) : ConOK Try.prog E 48 kFlR := by
  refine ⟨?_, ?_, ⟨_, Try.func48, by decide +kernel, by kernel_rfl⟩⟩
  · intro args As r h hG β w vs hv hlen
    unfold kFlR at h
    split at h
    · split at h
      · rename_i hm
        simp only [ql, Bool.and_eq_true, decide_eq_true_iff] at hm
        obtain ⟨c1, b1, b2⟩ := hm
        injection h with h
        subst h
        obtain ⟨v, rfl, h1⟩ := args1 hv hlen
        obtain ⟨q, _, e1, e2, hq, m1, m2⟩ := one_ratQ hE c1 h1
        have hd : dq q.num (q.den : Int) = q.floor := by rw [dq_pos (by have := q.den_pos; omega), ← Rat.floor_def]
        refine (rfloor_rat_calls w v q hq ⟨m1.mono b1, m2.mono b2⟩).mono ?_
        rintro e w' ⟨u, rfl, hI, ex⟩
        refine ⟨_, rfl, one_int.2 ⟨?_, ?_⟩, ex⟩
        · show IsInt w' u (dq _ _)
          rw [e1, e2, hd]; exact hI
        · show Lim _ (dq _ _)
          rw [e1, e2]; exact m1.natAbs_le (dq_abs _ _)
      · cases h
    · cases h
  · intro args As r h x off
    unfold kFlR at h
    split at h
    · split at h
      · injection h with h; subst h; intro e; cases e
      · cases h
    · cases h
end Go.Proofs.Ytdleiiboffkidaa
end

/- ---- Fsd ---- -/
section
/-
  Package filter: Sqrt, of the program and of the reference.
-/
set_option maxRecDepth 100000
namespace Go.Proofs.Ytdleiiboffkidaa
open Go.RowKit

def RetIv (o : Option (Int × Int)) (w : World) (e : Ending) (w' : World) : Prop := e = .returned (ivV o) ∧ Ext w w'
def ivL (x y : IT) : List (Bool × List Chunk) := [(true, [.n .i64 x, .n .i64 y]), (false, [.b (.lit true)])]
def noL : List (Bool × List Chunk) := [(true, [.n .i64 (.lit 0), .n .i64 (.lit 0)]), (false, [.b (.lit false)])]
theorem agg_out {E : Env} {w : World} {x y : IT} {v : Value} (h : one E w (true, [.n .i64 x, .n .i64 y]) v) : v = .agg #[.int .i64 (x.den E), .int .i64 (y.den E)] := by
  obtain ⟨vs, rfl, l, r, rfl, h1, l', r', rfl, h2, h3⟩ := h
  simp only [Chunk.holds] at h1 h2
  simp only [chunks] at h3
  subst h1 h2 h3
  rfl
theorem ivL_out {E : Env} {β : Nat → Nat} {w : World} {x y : IT} {v : Value} (h : (toAV (ivL x y)).holds E β w v) : v = ivV (some (x.den E, y.den E)) := by
  obtain ⟨vs, rfl, v1, r, rfl, h1, v2, r', rfl, h2, h3⟩ := h
  simp only [tupAll] at h3
  subst h3
  rw [agg_out h1, one_bool.1 h2]
  rfl
theorem noL_out {E : Env} {β : Nat → Nat} {w : World} {v : Value} (h : (toAV noL).holds E β w v) : v = ivV none := by
  obtain ⟨vs, rfl, v1, r, rfl, h1, v2, r', rfl, h2, h3⟩ := h
  simp only [tupAll] at h3
  subst h3
  rw [agg_out h1, one_bool.1 h2]
  rfl
/-- A walk that ends in one interval, or in none. -/
theorem iv_calls {C : Cfg} {E : Env} (hC : CfgOK Try.prog E C) {G : Asm} (hG : G.holds E) {f : FuncId} {fn : Func} (hf : Try.prog.funcs[f]? = some fn) (h4 : fn.results.toList.length ≤ 4) {args : List AV} {x y : IT} {a b : Int} (hT : funE C fn G args = some (.leaf (ivL x y))) (hx : x.den E = a) (hy : y.den E = b) (hn : args.length ≤ fn.ntmps) (hp : args.all noPtr = true) (hw : ∀ w, C.wok w) (w : World) (vs : List Value) (hl : vs.length = args.length)
    (hv : ∀ (i : Nat) (x : AV), args[i]? = some x → ∃ v, vs[i]? = some v ∧ ∀ β, x.holds E β w v) : Calls Try.prog f vs.toArray w (RetIv (some (a, b)) w) := by
  refine (fun_leaf hC hG hf h4 hT hn hp hw w vs hl hv).mono ?_
  rintro e w' ⟨β, v, rfl, hh, ex⟩
  rw [ivL_out hh, hx, hy]
  exact ⟨rfl, ex⟩
theorem no_calls {C : Cfg} {E : Env} (hC : CfgOK Try.prog E C) {G : Asm} (hG : G.holds E) {f : FuncId} {fn : Func} (hf : Try.prog.funcs[f]? = some fn) (h4 : fn.results.toList.length ≤ 4) {args : List AV} (hT : funE C fn G args = some (.leaf noL)) (hn : args.length ≤ fn.ntmps) (hp : args.all noPtr = true) (hw : ∀ w, C.wok w) (w : World) (vs : List Value) (hl : vs.length = args.length)
    (hv : ∀ (i : Nat) (x : AV), args[i]? = some x → ∃ v, vs[i]? = some v ∧ ∀ β, x.holds E β w v) : Calls Try.prog f vs.toArray w (RetIv none w) := by
  refine (fun_leaf hC hG hf h4 hT hn hp hw w vs hl hv).mono ?_
  rintro e w' ⟨β, v, rfl, hh, ex⟩
  rw [noL_out hh]
  exact ⟨rfl, ex⟩
/-- Facts, one after another. -/
theorem lt_t {E : Env} {x y : IT} {G : Asm} (h : x.den E < y.den E) (k : G.holds E) : Asm.holds E ((.lt x y, true) :: G) := asm_c (decide_eq_true h) k
theorem lt_f {E : Env} {x y : IT} {G : Asm} (h : ¬ x.den E < y.den E) (k : G.holds E) : Asm.holds E ((.lt x y, false) :: G) := asm_c (decide_eq_false h) k
theorem le_t {E : Env} {x y : IT} {G : Asm} (h : x.den E ≤ y.den E) (k : G.holds E) : Asm.holds E ((.le x y, true) :: G) := asm_c (decide_eq_true h) k
theorem le_f {E : Env} {x y : IT} {G : Asm} (h : ¬ x.den E ≤ y.den E) (k : G.holds E) : Asm.holds E ((.le x y, false) :: G) := asm_c (decide_eq_false h) k
theorem eq_t {E : Env} {x y : IT} {G : Asm} (h : x.den E = y.den E) (k : G.holds E) : Asm.holds E ((.eq x y, true) :: G) := asm_c (by show (_ == _) = true; rw [h, beq_self_eq_true]) k
theorem eq_f {E : Env} {x y : IT} {G : Asm} (h : ¬ x.den E = y.den E) (k : G.holds E) : Asm.holds E ((.eq x y, false) :: G) := asm_c (by show (_ == _) = false; exact beq_eq_false_iff_ne.2 h) k
/-- The ends of the square root. -/
def sqLo (x : Int) : Int := isq ((if x > 0 then x else 0) * 65536)
def sqHi (y : Int) : Int := isq (y * 65536) + cmpZ (y * 65536) (isq (y * 65536) * isq (y * 65536))
def sqrI (x y : Int) : Option (Int × Int) := if y < 0 then none else some (sqLo x, sqHi y)
theorem isq_bd {z : Int} (h : 0 ≤ z) : 0 ≤ isq z ∧ isq z * isq z ≤ z ∧ z < (isq z + 1) * (isq z + 1) := by
  obtain ⟨n, rfl⟩ := Int.eq_ofNat_of_zero_le h
  obtain ⟨h1, h2⟩ := isqN_spec n
  have e : isq (n : Int) = (isqN n : Int) := by
    unfold isq
    rw [if_neg (by omega), Int.natAbs_natCast]
  rw [e]
  refine ⟨by omega, by exact_mod_cast h1, by exact_mod_cast h2⟩
theorem isq_mono {a b : Int} (ha : 0 ≤ a) (h : a ≤ b) : isq a ≤ isq b := by
  obtain ⟨a1, a2, a3⟩ := isq_bd ha
  obtain ⟨b1, b2, b3⟩ := isq_bd (show 0 ≤ b by omega)
  refine Decidable.byContradiction fun q => ?_
  have h1 : 0 ≤ (isq a - (isq b + 1)) * (isq b + 1) := Int.mul_nonneg (by omega) (by omega)
  have h2 : 0 ≤ isq a * (isq a - (isq b + 1)) := Int.mul_nonneg a1 (by omega)
  grind
theorem isq_bound {a : Int} (h0 : 0 ≤ a) (h : a ≤ 151115727451828646838272) : isq a ≤ 388736063996 := by
  obtain ⟨a1, a2, a3⟩ := isq_bd h0
  refine Decidable.byContradiction fun q => ?_
  have h1 : 0 ≤ (isq a - 388736063997) * (isq a - 388736063997) := Int.mul_nonneg (by omega) (by omega)
  grind
theorem cmp_root {n : Int} (h : 0 ≤ n) : (cmpZ n (isq n * isq n) = 0 ∧ isq n * isq n = n) ∨ (cmpZ n (isq n * isq n) = 1 ∧ isq n * isq n < n) := by
  obtain ⟨a1, a2, a3⟩ := isq_bd h
  rcases Int.lt_or_le (isq n * isq n) n with q | q
  · exact .inr ⟨cmpZ_gt q, q⟩
  · exact .inl ⟨cmpZ_eq (by omega), by omega⟩
theorem sqLo_spec (x : Int) : 0 ≤ sqLo x ∧ sqLo x * sqLo x ≤ max 0 x * 65536 := by
  unfold sqLo
  have e : (if x > 0 then x else 0) = max 0 x := by split <;> omega
  rw [e]
  obtain ⟨a1, a2, a3⟩ := isq_bd (show 0 ≤ max 0 x * 65536 by omega)
  exact ⟨a1, a2⟩
theorem sqHi_spec {y : Int} (h : 0 ≤ y) : 0 ≤ sqHi y ∧ y * 65536 ≤ sqHi y * sqHi y := by
  unfold sqHi
  obtain ⟨a1, a2, a3⟩ := isq_bd (show 0 ≤ y * 65536 by omega)
  rcases cmp_root (show 0 ≤ y * 65536 by omega) with ⟨c, q⟩ | ⟨c, q⟩ <;> rw [c]
  · exact ⟨by omega, by rw [Int.add_zero]; omega⟩
  · exact ⟨by omega, by omega⟩
theorem sq_order {x y : Int} (hp : Prp x y) (hy : 0 ≤ y) : 0 ≤ sqLo x ∧ sqLo x ≤ sqHi y ∧ sqLo x ≤ isq (y * 65536) ∧ isq (y * 65536) ≤ sqHi y ∧ sqHi y ≤ 388736063997 ∧ isq (y * 65536) ≤ 388736063996 ∧ 0 ≤ isq (y * 65536) := by
  obtain ⟨h1, h2, h3⟩ := hp
  have m : sqLo x ≤ isq (y * 65536) := by
    unfold sqLo
    refine isq_mono (by split <;> omega) (by split <;> omega)
  have b := isq_bound (show 0 ≤ y * 65536 by omega) (by omega)
  have a := (isq_bd (show 0 ≤ y * 65536 by omega)).1
  unfold sqHi
  rcases cmp_root (show 0 ≤ y * 65536 by omega) with ⟨c, q⟩ | ⟨c, q⟩ <;> rw [c]
  · exact ⟨(sqLo_spec x).1, by omega, by omega, by omega, by omega, by omega, by omega⟩
  · exact ⟨(sqLo_spec x).1, by omega, by omega, by omega, by omega, by omega, by omega⟩
noncomputable def cSq : Cfg := cfgI (cfgOf [(54, kFs)]) (cfgOf []) [(44, Try.f44)]
theorem cSq_ok {E : Env} : CfgOK Try.prog E cSq := cfgI_ok mixed (cfg_ok (.cons kFs_ok .nil)) (cfg_ok .nil) (fun _ => trivial) (.cons Try.func44 (by decide +kernel) (by kernel_rfl) .nil)
def mxT : IT := .a2 13 (.lit 0) (.var 0)
def loS : IT := .a1 20 (sqfT mxT)
def hiS : Bool → IT
  | true => .a1 20 (sqfT (.var 2))
  | false => .a1 20 (.a1 21 (.a2 0 (sqfT (.var 2)) (.lit 1)))
def gSq (b : Bool) : Asm := [(.le (.lit 0) mxT, true), (.le mxT lP, true), (.le (.lit 0) (.var 2), true), (.le (.var 2) lP, true), (.lt (.var 2) (.lit 0), false), (.eq (.a2 2 (sqfT (.var 2)) (sqfT (.var 2))) (.a2 2 (.var 2) (.lit 65536)), b), (.lt (hiS b) loS, false), (.lt loS lM, false), (.lt lP (hiS b), false)]
theorem sq_walk : ∀ b : Bool, funE cSq Try.f21 (gSq b) [aIv 0] = some (.leaf (ivL loS (hiS b))) := by
  intro b
  cases b <;> kernel_rfl
theorem sq_walk_no : funE cSq Try.f21 [(.lt (.var 2) (.lit 0), true)] [aIv 0] = some (.leaf noL) := by kernel_rfl
theorem one_arg {E : Env} {w : World} {args : List AV} {vs : List Value} {x : AV} {v : Value} (ha : args = [x]) (hv : vs = [v]) (h : ∀ β, x.holds E β w v) : ∀ (i : Nat) (y : AV), args[i]? = some y → ∃ u, vs[i]? = some u ∧ ∀ β, y.holds E β w u := by
  subst ha hv
  intro i y hy
  match i, hy with
  | 0, hy => injection hy with hy; subst hy; exact ⟨v, rfl, h⟩
theorem two_args {E : Env} {w : World} {args : List AV} {vs : List Value} {x x' : AV} {v v' : Value} (ha : args = [x, x']) (hv : vs = [v, v']) (h : ∀ β, x.holds E β w v) (h' : ∀ β, x'.holds E β w v') : ∀ (i : Nat) (y : AV), args[i]? = some y → ∃ u, vs[i]? = some u ∧ ∀ β, y.holds E β w u := by
  subst ha hv
  intro i y hy
  match i, hy with
  | 0, hy => injection hy with hy; subst hy; exact ⟨v, rfl, h⟩
  | 1, hy => injection hy with hy; subst hy; exact ⟨v', rfl, h'⟩
theorem pSqrt_calls (w : World) (x y : Int) (hp : Prp x y) : Calls Try.prog 21 #[.agg #[.int .i64 x, .int .i64 y]] w (RetIv (sqrI x y) w) := by
  obtain ⟨E, hE⟩ : ∃ E, E = qE [(x : Rat), (y : Rat)] := ⟨_, rfl⟩
  have e0 : E.i 0 = x := by rw [hE]; exact qE_int (i := 0) rfl
  have e2 : E.i 2 = y := by rw [hE]; exact qE_int (i := 1) rfl
  have ha := one_arg (E := E) (w := w) (args := [aIv 0]) (vs := [.agg #[.int .i64 x, .int .i64 y]]) rfl rfl (fun β => by rw [hE]; exact aIv_holds (i := 0) rfl rfl)
  unfold sqrI
  split
  · rename_i hn
    exact no_calls (E := E) cSq_ok (lt_t (by show E.i 2 < 0; rw [e2]; exact hn) no_asm) Try.func21 (by decide +kernel) sq_walk_no (by decide +kernel) rfl (fun _ => trivial) w _ rfl ha
  · rename_i hn
    obtain ⟨o1, o2, o3, o4, o5, o6, o7⟩ := sq_order hp (by omega)
    obtain ⟨p1, p2, p3⟩ := hp
    have dm : mxT.den E = if x > 0 then x else 0 := by show (if E.i 0 > 0 then E.i 0 else 0) = _; rw [e0]
    have dl : loS.den E = sqLo x := by
      show IntKind.i64.wrap (isq (mxT.den E * 65536)) = _
      rw [dm]
      exact IntWalk.i64_in _ (by unfold sqLo at *; omega)
    have ds : (sqfT (.var 2)).den E = isq (y * 65536) := by show isq (E.i 2 * 65536) = _; rw [e2]
    obtain ⟨b, hb, hd⟩ : ∃ b : Bool, (BT.eq (.a2 2 (sqfT (.var 2)) (sqfT (.var 2))) (.a2 2 (.var 2) (.lit 65536))).den E = b ∧ (hiS b).den E = sqHi y := by
      refine ⟨_, rfl, ?_⟩
      have hb : (BT.eq (.a2 2 (sqfT (.var 2)) (sqfT (.var 2))) (.a2 2 (.var 2) (.lit 65536))).den E = decide (isq (y * 65536) * isq (y * 65536) = y * 65536) := by
        show ((sqfT (.var 2)).den E * (sqfT (.var 2)).den E == E.i 2 * 65536) = _
        rw [ds, e2, Bool.eq_iff_iff, beq_iff_eq, decide_eq_true_iff]
      rw [hb]
      rcases cmp_root (show 0 ≤ y * 65536 by omega) with ⟨c, q⟩ | ⟨c, q⟩
      · rw [decide_eq_true q]
        show IntKind.i64.wrap ((sqfT (.var 2)).den E) = _
        rw [ds, IntWalk.i64_in _ (by omega)]
        unfold sqHi
        rw [c, Int.add_zero]
      · rw [decide_eq_false (by omega)]
        show IntKind.i64.wrap (IntKind.u64.wrap ((sqfT (.var 2)).den E + 1)) = _
        have hu : IntKind.u64.wrap ((sqfT (.var 2)).den E + 1) = (sqfT (.var 2)).den E + 1 := by rw [IntKind.wrap_u64, ds]; omega
        rw [hu, ds, IntWalk.i64_in _ (by omega)]
        unfold sqHi
        rw [c]
    refine iv_calls (E := E) cSq_ok ?_ Try.func21 (by decide +kernel) (sq_walk b) dl hd (by decide +kernel) rfl (fun _ => trivial) w _ rfl ha
    refine le_t ?_ <| le_t ?_ <| le_t ?_ <| le_t ?_ <| lt_f ?_ <| asm_c hb <| lt_f ?_ <| lt_f ?_ <| lt_f ?_ no_asm
    · show 0 ≤ mxT.den E
      rw [dm]; split <;> omega
    · show mxT.den E ≤ 2305843009213693952
      rw [dm]; split <;> omega
    · show 0 ≤ E.i 2
      omega
    · show E.i 2 ≤ 2305843009213693952
      omega
    · show ¬ E.i 2 < 0
      omega
    · rw [hd, dl]; omega
    · show ¬ loS.den E < -2305843009213693952
      rw [dl]; omega
    · show ¬ 2305843009213693952 < (hiS b).den E
      rw [hd]; omega
end Go.Proofs.Ytdleiiboffkidaa
end

/- ---- Fse ---- -/
section
/-
  Package filter: intervals that may not exist, for the walker.
-/
set_option maxRecDepth 100000
namespace Go.Proofs.Ytdleiiboffkidaa
open Go.RowKit

/-- A configuration in which calls ask for tests. -/
def cfgN (C : Cfg) (l : List (Nat × (List AV → Asm → Option BT))) : Cfg := { C with need := fun f args M G => match findR l f with | some k => k args G | none => C.need f args M G }
theorem cfgN_ok {E : Env} {C : Cfg} {l : List (Nat × (List AV → Asm → Option BT))} (h : CfgOK Try.prog E C) : CfgOK Try.prog E (cfgN C l) :=
  ⟨h.zero, h.ag, h.fld, h.flds, h.bool, h.row, h.arr, h.calls, h.nptr, h.body, h.slc, h.strT, h.cnv, h.apd, h.eq2⟩
def nI64 : List AV → Asm → Option BT
  | [.val true [.int x _]], _ => some (i64R x.fold)
  | _, _ => none
def Tree.noT : Tree := .leaf noL
/-- What proper comes to, and of. -/
def prT (x y : IT) : Tree := .ite (.lt y x) .noT (.ite (.lt x lM) .noT (.ite (.lt lP y) .noT (.leaf (ivL x y))))
def ofT (x y : IT) : Tree := .ite (i64R x) (.ite (i64R y) (.ite (.le x y) (.ite (.le lM x) (.ite (.le y lP) (.leaf (ivL x y)) .noT) .noT) .noT) .noT) (.ite (i64R y) .noT .noT)
theorem prpB_iff {x y : Int} : prpB x y = true ↔ Prp x y := by
  unfold prpB Prp
  simp only [Bool.and_eq_true, decide_eq_true_iff]
theorem prI_pos {x y : Int} (h : Prp x y) : prI x y = some (x, y) := if_pos (prpB_iff.2 h)
theorem prI_neg {x y : Int} (h : ¬ Prp x y) : prI x y = none := if_neg (fun k => h (prpB_iff.1 k))
theorem prT_pick {E : Env} (x y : IT) : (Prp (x.den E) (y.den E) ∧ (prT x y).pick E = ivL x y) ∨ (¬ Prp (x.den E) (y.den E) ∧ (prT x y).pick E = noL) := by
  unfold Prp
  simp only [prT, Tree.noT, Tree.pick, BT.den, decide_eq_true_eq]
  have d1 : lM.den E = -2305843009213693952 := rfl
  have d2 : lP.den E = 2305843009213693952 := rfl
  rw [d1, d2]
  split
  · exact .inr ⟨by omega, rfl⟩
  · split
    · exact .inr ⟨by omega, rfl⟩
    · split
      · exact .inr ⟨by omega, rfl⟩
      · exact .inl ⟨by omega, rfl⟩
theorem ofT_pick {E : Env} (x y : IT) : (Prp (x.den E) (y.den E) ∧ (ofT x y).pick E = ivL x y) ∨ (¬ Prp (x.den E) (y.den E) ∧ (ofT x y).pick E = noL) := by
  unfold Prp
  have r : ∀ t : IT, (i64R t).den E = decide (-9223372036854775808 ≤ t.den E ∧ t.den E ≤ 9223372036854775807) := fun t => by
    show (decide _ && decide _) = _
    rw [Bool.decide_and]
    rfl
  have c1 : (BT.le lM x).den E = decide (-2305843009213693952 ≤ x.den E) := rfl
  have c2 : (BT.le y lP).den E = decide (y.den E ≤ 2305843009213693952) := rfl
  have c3 : (BT.le x y).den E = decide (x.den E ≤ y.den E) := rfl
  simp only [ofT, Tree.noT, Tree.pick, r, c1, c2, c3, decide_eq_true_eq]
  split
  · split
    · split
      · split
        · split
          · exact .inl ⟨by omega, rfl⟩
          · exact .inr ⟨by omega, rfl⟩
        · exact .inr ⟨by omega, rfl⟩
      · exact .inr ⟨by omega, rfl⟩
    · exact .inr ⟨by omega, rfl⟩
  · split
    · exact .inr ⟨by omega, rfl⟩
    · exact .inr ⟨by omega, rfl⟩
/-- A walk that ends in an interval, if it is proper. -/
theorem pick_calls {C : Cfg} {E : Env} (hC : CfgOK Try.prog E C) {G : Asm} (hG : G.holds E) {f : FuncId} {fn : Func} (hf : Try.prog.funcs[f]? = some fn) (h4 : fn.results.toList.length ≤ 4) {args : List AV} {T : Tree} (hT : funE C fn G args = some T) {x y : IT} {a b : Int} (hx : x.den E = a) (hy : y.den E = b) (hP : (Prp (x.den E) (y.den E) ∧ T.pick E = ivL x y) ∨ (¬ Prp (x.den E) (y.den E) ∧ T.pick E = noL)) (hn : args.length ≤ fn.ntmps) (hp : args.all noPtr = true) (hw : ∀ w, C.wok w) (w : World) (vs : List Value) (hl : vs.length = args.length)
    (hv : ∀ (i : Nat) (x : AV), args[i]? = some x → ∃ v, vs[i]? = some v ∧ ∀ β, x.holds E β w v) : Calls Try.prog f vs.toArray w (RetIv (prI a b) w) := by
  refine (fun_sound mixed hC hG hf h4 hT hn hp w vs hl (fun i x hx => ?_) (fun w' _ => hw w')).mono ?_
  · obtain ⟨v, h1, h2⟩ := hv i x hx
    exact ⟨fun _ => 0, v, h1, h2 _⟩
  · rintro e w' ⟨β, v, rfl, hh, ex⟩
    subst hx hy
    rcases hP with ⟨h1, h2⟩ | ⟨h1, h2⟩
    · rw [h2] at hh
      rw [ivL_out hh, prI_pos h1]
      exact ⟨rfl, ex⟩
    · rw [h2] at hh
      rw [noL_out hh, prI_neg h1]
      exact ⟨rfl, ex⟩
def lfX (x y : IT) (b : Bool) : Tree := .leaf (if b then ivL x y else noL)
theorem ex_calls {C : Cfg} {E : Env} (hC : CfgOK Try.prog E C) {G : Asm} (hG : G.holds E) {f : FuncId} {fn : Func} (hf : Try.prog.funcs[f]? = some fn) (h4 : fn.results.toList.length ≤ 4) {args : List AV} {x y : IT} (hT : ∀ b, funE C fn ((exT x y, b) :: G) args = some (lfX x y b)) {a b : Int} (hx : x.den E = a) (hy : y.den E = b) (hn : args.length ≤ fn.ntmps) (hp : args.all noPtr = true) (hw : ∀ w, C.wok w) (w : World) (vs : List Value) (hl : vs.length = args.length)
    (hv : ∀ (i : Nat) (x : AV), args[i]? = some x → ∃ v, vs[i]? = some v ∧ ∀ β, x.holds E β w v) : Calls Try.prog f vs.toArray w (RetIv (prI a b) w) := by
  refine pick_calls hC (asm_c (t := exT x y) (b := prpB (x.den E) (y.den E)) rfl hG) hf h4 (hT _) hx hy ?_ hn hp hw w vs hl hv
  by_cases h : Prp (x.den E) (y.den E)
  · refine .inl ⟨h, ?_⟩
    rw [prpB_iff.2 h]; rfl
  · refine .inr ⟨h, ?_⟩
    rw [show prpB (x.den E) (y.den E) = false from Bool.eq_false_iff.2 fun k => h (prpB_iff.1 k)]; rfl
theorem proper_calls (w : World) (x y : Int) : Calls Try.prog 44 #[.agg #[.int .i64 x, .int .i64 y]] w (RetIv (prI x y) w) := by
  obtain ⟨E, hE⟩ : ∃ E, E = qE [(x : Rat), (y : Rat)] := ⟨_, rfl⟩
  have e0 : E.i 0 = x := by rw [hE]; exact qE_int (i := 0) rfl
  have e2 : E.i 2 = y := by rw [hE]; exact qE_int (i := 1) rfl
  exact pick_calls (E := E) (C := cfgOf []) (cfg_ok .nil) no_asm Try.func44 (by decide +kernel) (T := prT (.var 0) (.var 2)) (by kernel_rfl) (x := .var 0) (y := .var 2) e0 e2 (prT_pick _ _) (by decide +kernel) (args := [aIv 0]) rfl (fun _ => trivial) w _ rfl (one_arg rfl rfl fun β => by rw [hE]; exact aIv_holds (i := 0) rfl rfl)
def kPr : Con
  | [.val true [.n .i64 x, .n .i64 y]], G => kEx x y G
  | _, _ => none
def nPr : List AV → Asm → Option BT
  | [.val true [.n .i64 x, .n .i64 y]], _ => some (exT x y)
  | _, _ => none
theorem kPr_ok {E : Env} : ConOK Try.prog E 44 kPr := by
  refine ⟨?_, ?_, ⟨_, Try.func44, by decide +kernel, by kernel_rfl⟩⟩
  · intro args G r h hG β w vs hv hlen
    unfold kPr at h
    split at h
    · rename_i x y
      obtain ⟨v, rfl, h1⟩ := args1 hv hlen
      rw [show v = _ from agg_out h1]
      refine (proper_calls w _ _).mono ?_
      rintro e w' ⟨rfl, ex⟩
      exact ⟨_, rfl, kEx_holds hG h, ex⟩
    · cases h
  · intro args G r h
    unfold kPr at h
    split at h
    · exact kEx_nptr h
    · cases h
noncomputable def cOf0 : Cfg := cfgN (cfgOf [(78, kI64)]) [(78, nI64)]
theorem cOf0_ok {E : Env} : CfgOK Try.prog E cOf0 := cfgN_ok (cfg_ok (.cons (kI64_ok (fun w v z h => rint64_calls w v z h) ⟨_, Try.func78, by decide +kernel, by kernel_rfl⟩) .nil))
noncomputable def cOf : Cfg := cfgI cOf0 cOf0 [(15, Try.f15)]
theorem cOf_ok {E : Env} : CfgOK Try.prog E cOf := cfgI_ok mixed cOf0_ok cOf0_ok (fun _ => trivial) (.cons Try.func15 (by decide +kernel) (by kernel_rfl) .nil)
def aZ (i l : Nat) : AV := .val true [.int (.var i) l]
theorem aZ_holds {E : Env} {β : Nat → Nat} {w : World} {i l : Nat} {v : Value} {z : Int} (he : E.i i = z) (h : IsInt w v z) (hl : Lim l z) : (aZ i l).holds E β w v := one_int.2 (by show IsInt w v (E.i i) ∧ Lim l (E.i i); rw [he]; exact ⟨h, hl⟩)
theorem ofI_calls (w : World) (v v' : Value) (x y : Int) (h : IsInt w v x) (h' : IsInt w v' y) (l l' : Nat) (hl : Lim l x) (hl' : Lim l' y) : Calls Try.prog 47 #[v, v'] w (RetIv (prI x y) w) := by
  obtain ⟨E, hE⟩ : ∃ E, E = eN [x, y] := ⟨_, rfl⟩
  have e0 : E.i 0 = x := by rw [hE]; rfl
  have e1 : E.i 1 = y := by rw [hE]; rfl
  exact pick_calls (E := E) (C := cOf) cOf_ok no_asm Try.func47 (by decide +kernel) (T := ofT (.var 0) (.var 1)) (args := [aZ 0 l, aZ 1 l']) (by kernel_rfl) (x := .var 0) (y := .var 1) e0 e1 (ofT_pick _ _) (show 2 ≤ Try.f47.ntmps by decide +kernel) rfl (fun _ => trivial) w [v, v'] rfl (two_args rfl rfl (fun β => aZ_holds e0 h hl) (fun β => aZ_holds e1 h' hl'))
def kOfI : Con
  | [.val true [.int x _], .val true [.int y _]], G => kEx x y G
  | _, _ => none
def nOfI : List AV → Asm → Option BT
  | [.val true [.int x _], .val true [.int y _]], _ => some (exT x y)
  | _, _ => none
theorem kOfI_ok {E : Env} : ConOK Try.prog E 47 kOfI := by
  refine ⟨?_, ?_, ⟨_, Try.func47, by decide +kernel, by kernel_rfl⟩⟩
  · intro args G r h hG β w vs hv hlen
    unfold kOfI at h
    split at h
    · rename_i x l y m
      obtain ⟨v, u, rfl, h1, h2⟩ := args2 hv hlen
      obtain ⟨i1, l1⟩ := one_int.1 h1
      obtain ⟨i2, l2⟩ := one_int.1 h2
      refine (ofI_calls w v u _ _ i1 i2 _ _ l1 l2).mono ?_
      rintro e w' ⟨rfl, ex⟩
      exact ⟨_, rfl, kEx_holds hG h, ex⟩
    · cases h
  · intro args G r h
    unfold kOfI at h
    split at h
    · exact kEx_nptr h
    · cases h
end Go.Proofs.Ytdleiiboffkidaa
end

/- ---- Fsf ---- -/
section
/-
  Package filter: FromRat and Add, of the program and of the reference.
-/
set_option maxRecDepth 100000
namespace Go.Proofs.Ytdleiiboffkidaa
open Go.RowKit

noncomputable def tabPf : List (Nat × Con) := [(44, kPr), (43, kDiv64), (41, kMul64), (39, kI64), (59, kIn fun x => .a2 3 x (.lit 0)), (75, kII (.a2 2) (· + ·)), (76, kFrom), (74, kDM)]
theorem tabPf_ok {E : Env} : TabOK Try.prog E tabPf :=
  .cons kPr_ok <| .cons kDiv64_ok <| .cons kMul64_ok <| .cons (kI64_ok (fun w v z h => int64_calls w v z h) ⟨_, Try.func39, by decide +kernel, by kernel_rfl⟩) <|
  .cons (kIn_ok (cmpZ · 0) (fun _ => rfl) (fun w v1 z1 h1 => sign_calls w v1 z1 h1) ⟨_, Try.func59, by decide +kernel, by kernel_rfl⟩) <|
  .cons (kII_ok (· * ·) (fun _ _ => rfl) (fun w v1 v2 z1 z2 l m h1 h2 l1 l2 b1 b2 => mul_calls w v1 v2 z1 z2 h1 h2 (l1.sm (by omega)) (l2.sm (by omega))) (fun _ _ _ _ h k => h.mul k) ⟨_, Try.func75, by decide +kernel, by kernel_rfl⟩) <|
  .cons (kFrom_ok (fun w n h1 h2 => fromInt64_calls w n h1 h2) ⟨_, Try.func76, by decide +kernel, by kernel_rfl⟩) <| .cons kDM_ok .nil
noncomputable def cP0 : Cfg := cfgN (cfgOf tabPf) [(44, nPr), (39, nI64)]
theorem cP0_ok {E : Env} : CfgOK Try.prog E cP0 := cfgN_ok (cfg_ok tabPf_ok)
noncomputable def cP1 : Cfg := cfgI cP0 cP0 [(42, Try.f42), (45, Try.f45)]
theorem cP1_ok {E : Env} : CfgOK Try.prog E cP1 := cfgI_ok mixed cP0_ok cP0_ok (fun _ => trivial) (.cons Try.func42 (by decide +kernel) (by kernel_rfl) <| .cons Try.func45 (by decide +kernel) (by kernel_rfl) .nil)
noncomputable def cP : Cfg := cfgI cP1 cP1 [(40, Try.f40)]
theorem cP_ok {E : Env} : CfgOK Try.prog E cP := cfgI_ok mixed cP1_ok cP1_ok (fun _ => trivial) (.cons Try.func40 (by decide +kernel) (by kernel_rfl) .nil)
noncomputable def tabRf : List (Nat × Con) := (47, kOfI) :: (56, kSqRef) :: (48, kFlR) :: (51, kIIn (.a2 3)) :: (tabR1 ++ tabT)
theorem tabRf_ok {E : Env} (hE : QEnv E) : TabOK Try.prog E tabRf := .cons kOfI_ok <| .cons kSqRef_ok <| .cons (kFlR_ok hE) <| .cons (kIIn_ok cmpZ (fun _ _ => rfl) (fun w v1 v2 z1 z2 h1 h2 => rcmp_calls w v1 v2 z1 z2 h1 h2) ⟨_, Try.func51, by decide +kernel, by kernel_rfl⟩) <| TabOK.app tabR1_ok (tabT_ok hE)
noncomputable def cR0 : Cfg := cfgN (cfgOf tabRf) [(47, nOfI)]
theorem cR0_ok {E : Env} (hE : QEnv E) : CfgOK Try.prog E cR0 := cfgN_ok (cfg_ok (tabRf_ok hE))
noncomputable def cRf : Cfg := cfgI cR0 cR0 [(49, Try.f49)]
theorem cRf_ok {E : Env} (hE : QEnv E) : CfgOK Try.prog E cRf := cfgI_ok mixed (cR0_ok hE) (cR0_ok hE) (fun _ => trivial) (.cons Try.func49 (by decide +kernel) (by kernel_rfl) .nil)
end Go.Proofs.Ytdleiiboffkidaa
end
