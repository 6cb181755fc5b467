/-
  Texts of this seat, joined.
-/
import Derived.Test.YtdblkeeicmncfaaGreatJ6
import Derived.Shelf.LaysM
import Derived.Shelf.Strings.Cut
import Derived.Shelf.Strconv.AppendUint10
import Derived.Laws.IdiomStrings
import Derived.Lib.LaidTab
import Derived.Shelf.Small.Wraps
import Derived.Deep.DeepCutAuto
/- ---- Rdz ---- -/
section
/-
  Small, of any structs and of rows of them.
-/
set_option maxRecDepth 100000
namespace Go.Proofs.YtdblkeeicmncfaaGreat
open Go.RowKit

/-- Where truth variables say that structs are valid. -/
def VEnv (E : Env) : Prop := ∀ i, i % 2 = 0 → E.b (i / 2) = okQ (E.r i).1 (E.r i).2 (E.r (i + 1)).1 (E.r (i + 1)).2
def kRVQ : Con
  | [.val true [.raw i, .raw j]], G => if i % 2 == 0 && (j == i + 1 && (G.find (.le (.rlen i) (.lit 6)) == some true && G.find (.le (.rlen j) (.lit 6)) == some true)) then some (.val false [.b (.var (i / 2))]) else none
  | _, _ => none
theorem one_raw2 {E : Env} {w : World} {i j : Nat} {v : Value} (h : one E w (true, [.raw i, .raw j]) v) : RawQ w v (E.r i).1 (E.r i).2 (E.r j).1 (E.r j).2 := by
  obtain ⟨us, rfl, l1, r1, rfl, ⟨x, y, rfl, h1⟩, l2, r2, rfl, ⟨z, t, rfl, h2⟩, hn⟩ := h
  simp only [chunks] at hn
  subst hn
  exact ⟨x, y, z, t, rfl, h1, h2⟩
theorem kRVQ_ok {E : Env} (hE : VEnv E) : ConOK Tryz.prog E 49 kRVQ := by
  refine ⟨?_, ?_, ⟨_, Tryz.func49, by decide +kernel, by kernel_rfl⟩⟩
  · intro args As r h hG β w vs hv hlen
    unfold kRVQ at h
    split at h
    · rename_i i j
      split at h
      · rename_i hlo
        injection h with h
        subst h
        simp only [Bool.and_eq_true, beq_iff_eq] at hlo
        obtain ⟨hi, rfl, b1, b2⟩ := hlo
        have c1 := of_decide_eq_true (Asm.find_spec hG b1)
        have c2 := of_decide_eq_true (Asm.find_spec hG b2)
        simp only [IT.den] at c1 c2
        obtain ⟨v, rfl, h1⟩ := args1 hv hlen
        refine (rvalid_rat_calls w v _ _ _ _ (one_raw2 h1) (by omega) (by omega)).mono ?_
        rintro e w' ⟨rfl, ex⟩
        exact ⟨_, rfl, one_bool.2 (by rw [← hE i hi]; rfl), ex⟩
      · cases h
    · cases h
  · intro args As r h x off
    unfold kRVQ at h
    split at h
    · split at h
      · injection h with h; subst h; intro e; cases e
      · cases h
    · cases h
/-- What Small says of a rational number's place. -/
def smQ (s1 : Bool) (xs1 : List Nat) (s2 : Bool) (xs2 : List Nat) : Bool := decide (xs1.length ≤ 6) && decide (xs2.length ≤ 6) && okQ s1 xs1 s2 xs2
/-- Structs, and what is said of them. -/
def bE (f : Bool → List Nat → Bool → List Nat → Bool) (l : List (Bool × List Nat)) : Env :=
  ⟨fun _ => 0, fun q => f (l.getD (2 * q) (false, [])).1 (l.getD (2 * q) (false, [])).2 (l.getD (2 * q + 1) (false, [])).1 (l.getD (2 * q + 1) (false, [])).2, fun i => l.getD i (false, []), fun _ => []⟩
theorem bE_ok (l : List (Bool × List Nat)) : VEnv (bE okQ l) := by
  intro i hi
  show okQ (l.getD (2 * (i / 2)) (false, [])).1 _ _ _ = _
  rw [show 2 * (i / 2) = i by omega]
  rfl
theorem rsmallQ_calls (w : World) (v : Value) (s1 s2 : Bool) (xs1 xs2 : List Nat) (h : RawQ w v s1 xs1 s2 xs2) :
    Calls Tryz.prog 13 #[v, .int .i64 6] w fun e w' => e = .returned (.bool (smQ s1 xs1 s2 xs2)) ∧ Ext w w' := by
  refine (fun_sound (C := cfgOf [(49, kRVQ)]) (E := bE okQ [(s1, xs1), (s2, xs2)]) (args := [argRaw 0 1, .val false [.n .i64 (.lit 6)]])
    (T := .ite (.le (.rlen 0) (.lit 6)) (.ite (.le (.rlen 1) (.lit 6)) (.leaf [(false, [.b (.var 0)])]) (.leaf [(false, [.b (.lit false)])])) (.leaf [(false, [.b (.lit false)])]))
    mixed (cfg_ok (.cons (kRVQ_ok (bE_ok _)) .nil)) no_asm Tryz.func13 (by decide +kernel) (by kernel_rfl) (by decide +kernel) rfl w [v, .int .i64 6] rfl ?_).mono ?_
  · intro i x hx
    match i, hx with
    | 0, hx => injection hx with hx; subst hx; exact ⟨fun _ => 0, v, rfl, argRaw_holds h rfl rfl⟩
    | 1, hx => injection hx with hx; subst hx; exact ⟨fun _ => 0, _, rfl, one_num.2 rfl⟩
  · rintro e w' ⟨β, u, rfl, hh, ex⟩
    have t1 : (BT.le (.rlen 0) (.lit 6)).den (bE okQ [(s1, xs1), (s2, xs2)]) = decide (xs1.length ≤ 6) := by
      show decide ((xs1.length : Int) ≤ 6) = _
      rw [decide_eq_decide]; omega
    have t2 : (BT.le (.rlen 1) (.lit 6)).den (bE okQ [(s1, xs1), (s2, xs2)]) = decide (xs2.length ≤ 6) := by
      show decide ((xs2.length : Int) ≤ 6) = _
      rw [decide_eq_decide]; omega
    simp only [Tree.pick, t1, t2, decide_eq_true_iff] at hh
    unfold smQ
    split at hh
    · rename_i c1
      split at hh
      · rename_i c2
        have := one_bool.1 hh
        subst this
        rw [decide_eq_true c1, decide_eq_true c2]
        exact ⟨rfl, ex⟩
      · rename_i c2
        have := one_bool.1 hh
        subst this
        rw [decide_eq_false c2, Bool.and_false]
        exact ⟨rfl, ex⟩
    · rename_i c1
      have := one_bool.1 hh
      subst this
      rw [decide_eq_false c1]
      exact ⟨rfl, ex⟩

end Go.Proofs.YtdblkeeicmncfaaGreat
end

/- ---- Rea ---- -/
section
/-
  The laws' helper that asks whether all of a row is small.
-/
set_option maxRecDepth 100000
namespace Go.Proofs.YtdblkeeicmncfaaGreat
open Go.RowKit

def SEnv (E : Env) : Prop := ∀ i, i % 2 = 0 → E.b (i / 2) = smQ (E.r i).1 (E.r i).2 (E.r (i + 1)).1 (E.r (i + 1)).2
theorem bE_sm (l : List (Bool × List Nat)) : SEnv (bE smQ l) := by
  intro i hi
  show smQ (l.getD (2 * (i / 2)) (false, [])).1 _ _ _ = _
  rw [show 2 * (i / 2) = i by omega]
  rfl
def kSmQ : Con
  | [.val true [.raw i, .raw j], .val false [.n .i64 (.lit z)]], _ => if i % 2 == 0 && (j == i + 1 && z == 6) then some (.val false [.b (.var (i / 2))]) else none
  | _, _ => none
theorem kSmQ_ok {E : Env} (hE : SEnv E) : ConOK Tryz.prog E 13 kSmQ := by
  refine ⟨?_, ?_, ⟨_, Tryz.func13, by decide +kernel, by kernel_rfl⟩⟩
  · intro args As r h hG β w vs hv hlen
    unfold kSmQ at h
    split at h
    · rename_i i j z
      split at h
      · rename_i hlo
        injection h with h
        subst h
        simp only [Bool.and_eq_true, beq_iff_eq] at hlo
        obtain ⟨hi, rfl, rfl⟩ := hlo
        obtain ⟨v, u, rfl, h1, h2⟩ := args2 hv hlen
        have h2' := one_num.1 h2
        subst h2'
        refine (rsmallQ_calls w v _ _ _ _ (one_raw2 h1)).mono ?_
        rintro e w' ⟨rfl, ex⟩
        exact ⟨_, rfl, one_bool.2 (by rw [← hE i hi]; rfl), ex⟩
      · cases h
    · cases h
  · intro args As r h x off
    unfold kSmQ at h
    split at h
    · split at h
      · injection h with h; subst h; intro e; cases e
      · cases h
    · cases h
def tabSm : List (Nat × Con) := [(13, kSmQ)]
/-- The chunks of a row of n rational numbers' places. -/
def rowC : Nat → List Chunk
  | 0 => []
  | n + 1 => rowC n ++ [.raw (2 * n), .raw (2 * n + 1)]
/-- What small says of a row. -/
def smAll (f : Nat → Bool) : Nat → Bool
  | 0 => true
  | n + 1 => smAll f n && f n
def tSm : Nat → Nat → Tree
  | _, 0 => .leaf [(false, [.b (.lit true)])]
  | k, n + 1 => .ite (.var k) (tSm (k + 1) n) (.leaf [(false, [.b (.lit false)])])
theorem tSm_pick {E : Env} : ∀ (n k : Nat), ∃ b, (tSm k n).pick E = [(false, [.b (.lit b)])] ∧ (b = true ↔ ∀ i, i < n → E.b (k + i) = true)
  | 0, k => ⟨true, rfl, by simp⟩
  | n + 1, k => by
    obtain ⟨b, h1, h2⟩ := tSm_pick (E := E) n (k + 1)
    cases hk : E.b k with
    | true =>
      refine ⟨b, ?_, ?_⟩
      · show (if E.b k = true then _ else _) = _
        rw [if_pos hk]; exact h1
      · rw [h2]
        constructor
        · intro h i hi
          match i with
          | 0 => exact hk
          | i + 1 => have := h i (by omega); rwa [show k + 1 + i = k + (i + 1) by omega] at this
        · intro h i hi
          have := h (i + 1) (by omega)
          rwa [show k + (i + 1) = k + 1 + i by omega] at this
    | false =>
      refine ⟨false, ?_, ?_⟩
      · show (if E.b k = true then _ else _) = _
        rw [if_neg (by rw [hk]; simp)]; rfl
      · constructor
        · intro h; cases h
        · intro h; have := h 0 (by omega); rw [Nat.add_zero, hk] at this; cases this
end Go.Proofs.YtdblkeeicmncfaaGreat
end

/- ---- Reb ---- -/
section
/-
  A configuration for the laws of rational numbers: awake, small, and the table.
-/
set_option maxRecDepth 100000
namespace Go.Proofs.YtdblkeeicmncfaaGreat
open Go.RowKit

/-- Rows, told by their form. -/
def isRaw : Nat → List Chunk → Bool
  | _, [] => true
  | i, .raw j :: cs => j == i && isRaw (i + 1) cs
  | _, _ => false
theorem isRaw_spec : ∀ {cs : List Chunk} {i : Nat}, isRaw i cs = true → cs = (List.range cs.length).map fun k => .raw (i + k)
  | [], _, _ => rfl
  | .raw j :: cs, i, h => by
    simp only [isRaw, Bool.and_eq_true, beq_iff_eq] at h
    obtain ⟨rfl, h⟩ := h
    have := isRaw_spec h
    rw [List.length_cons, List.range_succ_eq_map, List.map_cons, List.map_map, Nat.add_zero]
    congr 1
    refine Eq.trans this (List.map_congr_left fun k _ => ?_)
    show Chunk.raw _ = Chunk.raw _
    rw [show j + 1 + k = j + (k + 1) by omega]
  | .b _ :: _, _, h | .n _ _ :: _, _, h | .int _ _ :: _, _, h | .mag _ _ :: _, _, h | .rmag _ :: _, _, h | .fn _ :: _, _, h | .nilSlice :: _, _, h | .str _ _ :: _, _, h => by cases h
def smF (n : Nat) (cs : List Chunk) (off : Nat) : Option Bool := if isRaw 0 cs && (cs.length == 2 * n && off == big + n) then some false else none
end Go.Proofs.YtdblkeeicmncfaaGreat
end

/- ---- Rec ---- -/
section
/-
  RationalArithmetic, given that awake is true.
-/
set_option maxRecDepth 100000
namespace Go.Proofs.YtdblkeeicmncfaaGreat
open Go.RowKit

theorem int_raw {w : World} {v : Value} {z : Int} (h : IsInt w v z) : Raw w v (decide (z < 0)) (limbs z.natAbs) ∧ okB (decide (z < 0)) (limbs z.natAbs) = true := by
  obtain ⟨ao, cap, s, n, rfl, h1, h2, h3, H4, H5, H6⟩ := h.open_
  obtain ⟨k1, k2⟩ := isInt_raw h1 h2 h3 H6.out
  have e4 : n = z.natAbs := H4.out
  have e5 : z = sgn s n := H5.out
  have e6 := H6.out
  have es : s = decide (z < 0) := by
    cases s with
    | true => rw [eq_comm, decide_eq_true_iff, e5]; have := e6 rfl; simp [sgn]; omega
    | false => rw [eq_comm, decide_eq_false_iff_not, e5]; simp [sgn]
  rw [← e4, ← es]
  exact ⟨k1, k2⟩
def rawOf (q : Rat) : List (Bool × List Nat) := [(decide (q.num < 0), limbs q.num.natAbs), (decide ((q.den : Int) < 0), limbs (q.den : Int).natAbs)]
theorem smQ_of {q : Rat} (l : LimQ 6 q) {w : World} {v : Value} (h : IsRat w v q) : smQ (decide (q.num < 0)) (limbs q.num.natAbs) (decide ((q.den : Int) < 0)) (limbs (q.den : Int).natAbs) = true := by
  obtain ⟨a, b, c, d, rfl, h1, h2⟩ := h
  obtain ⟨_, k1⟩ := int_raw h1
  obtain ⟨_, k2⟩ := int_raw h2
  have e1 : sgn (decide (q.num < 0)) (val (limbs q.num.natAbs)) = q.num := by rw [val_limbs]; exact sgn_self q.num
  have e2 : sgn (decide ((q.den : Int) < 0)) (val (limbs (q.den : Int).natAbs)) = (q.den : Int) := by rw [val_limbs]; exact sgn_self (q.den : Int)
  have l1 : (limbs q.num.natAbs).length ≤ 6 := l.1
  have l2 : (limbs (q.den : Int).natAbs).length ≤ 6 := l.2
  unfold smQ okQ
  rw [k1, k2, e1, e2, decide_eq_true l1, decide_eq_true l2, decide_eq_true (show 0 < (q.den : Int) by have := q.den_pos; omega)]
  rw [decide_eq_true (show Nat.gcd q.num.natAbs (q.den : Int).natAbs = 1 from q.reduced)]
  rfl
/-- Rows of integers, told by their form. -/
def isVars : Nat → List Chunk → Bool
  | _, [] => true
  | i, .int (.var j) l :: cs => (j == i && l == 6) && isVars (i + 1) cs
  | _, _ => false
def smT (n : Nat) (cs : List Chunk) (off : Nat) : Option Bool := if isVars 0 cs && (cs.length == 2 * n && off == big + n) then some true else none
theorem isVars_spec : ∀ {cs : List Chunk} {i : Nat}, isVars i cs = true → cs = (List.range cs.length).map fun k => .int (.var (i + k)) 6
  | [], _, _ => rfl
  | .int (.var j) l :: cs, i, h => by
    simp only [isVars, Bool.and_eq_true, beq_iff_eq] at h
    obtain ⟨⟨rfl, rfl⟩, h⟩ := h
    have := isVars_spec h
    rw [List.length_cons, List.range_succ_eq_map, List.map_cons, List.map_map, Nat.add_zero]
    congr 1
    refine Eq.trans this (List.map_congr_left fun k _ => ?_)
    show Chunk.int _ _ = Chunk.int _ _
    rw [show j + 1 + k = j + (k + 1) by omega]
  | .int (.lit _) _ :: _, _, h | .int (.rlen _) _ :: _, _, h | .int (.slen _) _ :: _, _, h | .int (.a1 _ _) _ :: _, _, h | .int (.a2 _ _ _) _ :: _, _, h | .int (.a4 _ _ _ _ _) _ :: _, _, h => by cases h
  | .b _ :: _, _, h | .n _ _ :: _, _, h | .raw _ :: _, _, h | .mag _ _ :: _, _, h | .rmag _ :: _, _, h | .fn _ :: _, _, h | .nilSlice :: _, _, h | .str _ _ :: _, _, h => by cases h
theorem int_chunk {E E' : Env} {w : World} {t : IT} {l i : Nat} {vs : List Value} (h : (Chunk.int t l).holds E w vs) (e : E'.r i = (decide (t.den E < 0), limbs (t.den E).natAbs)) : (Chunk.raw i).holds E' w vs := by
  obtain ⟨x, y, rfl, hI, _⟩ := h
  refine ⟨x, y, rfl, ?_⟩
  rw [e]
  exact (int_raw hI).1
def argS (i : Nat) : AV := .val true [.int (.var (2 * i)) 6, .int (.var (2 * i + 1)) 6]
theorem argS_holds {E : Env} {β : Nat → Nat} {w : World} {v : Value} {q : Rat} {i : Nat} (h : IsRat w v q) (l : LimQ 6 q) (e1 : E.i (2 * i) = q.num) (e2 : E.i (2 * i + 1) = (q.den : Int)) : (argS i).holds E β w v := by
  refine one_pair.2 ⟨?_, ?_, ?_⟩
  · show IsPair w v (E.i (2 * i)) (E.i (2 * i + 1)); rw [e1, e2]; exact h
  · show Lim 6 (E.i (2 * i)); rw [e1]; exact l.1
  · show Lim 6 (E.i (2 * i + 1)); rw [e2]; exact l.2
end Go.Proofs.YtdblkeeicmncfaaGreat
end

/- ---- Red ---- -/
section
/-
  RationalArithmetic at any arguments, given that awake is true.
-/
set_option maxRecDepth 100000
namespace Go.Proofs.YtdblkeeicmncfaaGreat
open Go.RowKit

theorem smQ_rat {w : World} {v : Value} {s1 s2 : Bool} {xs1 xs2 : List Nat} (h : RawQ w v s1 xs1 s2 xs2) (hs : smQ s1 xs1 s2 xs2 = true) : ∃ q : Rat, IsRat w v q ∧ LimQ 6 q := by
  unfold smQ okQ at hs
  simp only [Bool.and_eq_true, decide_eq_true_iff] at hs
  obtain ⟨⟨c1, c2⟩, ⟨⟨b1, b2⟩, b3⟩, b4⟩ := hs
  have hp := okQ_pair h b1 b2
  have m1 : Lim 6 (sgn s1 (val xs1)) := by obtain ⟨a, b, c, d, rfl, h1, h2⟩ := h; exact ok_lim h1 b1 c1
  have m2 : Lim 6 (sgn s2 (val xs2)) := by obtain ⟨a, b, c, d, rfl, h1, h2⟩ := h; exact ok_lim h2 b2 c2
  generalize sgn s1 (val xs1) = n at *
  generalize sgn s2 (val xs2) = d at *
  have hd : ((d.natAbs : Nat) : Int) = d := by omega
  refine ⟨⟨n, d.natAbs, by omega, b4⟩, ?_, m1, ?_⟩
  · show IsPair w v n ((d.natAbs : Nat) : Int)
    rw [hd]; exact hp
  · show Lim 6 ((d.natAbs : Nat) : Int)
    rw [hd]; exact m2
end Go.Proofs.YtdblkeeicmncfaaGreat
end

/- ---- Rfa ---- -/
section
/-
  Sign and Cmp of the reference; small on rows of one and of three; what the laws of one and of three numbers share.
-/
set_option maxRecDepth 100000
namespace Go.Proofs.YtdblkeeicmncfaaGreat
open Go.RowKit

theorem rsign_rat_calls (w : World) (v1 : Value) (n d : Int) (h1 : IsPair w v1 n d) (l1 : Lim 100000 n) (l1' : Lim 100000 d) : Calls Tryz.prog 32 #[v1] w fun e w' => e = .returned (.int .i64 (cmpZ n 0)) ∧ Ext w w' := by
  refine (fun_sound (E := zE [n, d]) (args := [argQ 0]) (T := .leaf [(false, [.n .i64 (.a2 3 (.var 0) (.lit 0))])])
    mixed (cfg_ok (.cons (kIn_ok (f := 77) (g := fun x => .a2 3 x (.lit 0)) (fun x => cmpZ x 0) (fun _ => rfl) (fun w v z h => rsign_calls w v z h) ⟨_, Tryz.func77, by decide +kernel, by kernel_rfl⟩) .nil))
    no_asm Tryz.func32 (by decide +kernel) (by kernel_rfl) (by decide +kernel) rfl w [v1] rfl ?_).mono ?_
  · intro i x hx
    match i, hx with
    | 0, hx => injection hx with hx; subst hx; exact ⟨fun _ => 0, v1, rfl, argP_holds h1 l1 l1' rfl rfl⟩
  · rintro e w' ⟨β, v, rfl, hh, ex⟩
    have := one_num.1 hh
    subst this
    exact ⟨rfl, ex⟩
theorem kSgF_ok {E : Env} {f : Nat} (hc : ∀ (w : World) (v1 : Value) (n d : Int), IsPair w v1 n d → Lim 100000 n → Lim 100000 d → Calls Tryz.prog f #[v1] w fun e w' => e = .returned (.int .i64 (cmpZ n 0)) ∧ Ext w w')
    (hb : ∃ fn, Tryz.prog.funcs[f]? = some fn ∧ fn.name ≠ "runtime.NumGoroutine" ∧ fn.body.isNone = false) : ConOK Tryz.prog E f kSg := by
  refine ⟨?_, ?_, hb⟩
  · intro args As r h hG β w vs hv hlen
    unfold kSg at h
    split at h
    · split at h
      · rename_i hlo
        injection h with h
        subst h
        simp only [Bool.and_eq_true, decide_eq_true_iff] at hlo
        obtain ⟨v, rfl, h1⟩ := args1 hv hlen
        obtain ⟨p1, a1, a2⟩ := one_pair.1 h1
        refine (hc w v _ _ p1 (a1.mono hlo.1) (a2.mono hlo.2)).mono ?_
        rintro e w' ⟨rfl, ex⟩
        exact ⟨_, rfl, one_num.2 rfl, ex⟩
      · cases h
    · cases h
  · intro args As r h x off
    unfold kSg at h
    split at h
    · split at h
      · injection h with h; subst h; intro e; cases e
      · cases h
    · cases h
theorem rcmp_rat_calls (w : World) (v1 v2 : Value) (a b : Rat) (h1 : IsRat w v1 a) (h2 : IsRat w v2 b) (l1 : LimQ 100000 a) (l2 : LimQ 100000 b) :
    Calls Tryz.prog 51 #[v1, v2] w fun e w' => e = .returned (.int .i64 (cmpZ (a.num * (b.den : Int)) (b.num * (a.den : Int)))) ∧ Ext w w' := by
  refine (walkQ2 (T := .leaf [(false, [.n .i64 (.a2 3 (.a2 2 (.var 0) (.var 3)) (.a2 2 (.var 2) (.var 1)))])])
    (tab := (107, kIIn (.a2 3)) :: tabR3 true)
    (.cons (kIIn_ok cmpZ (fun _ _ => rfl) (fun w v1 v2 z1 z2 h1 h2 => rcmp_calls w v1 v2 z1 z2 h1 h2) ⟨_, Tryz.func107, by decide +kernel, by kernel_rfl⟩) (tabR3_ok (q := true) (fun _ => qE_ok _)))
    Tryz.func51 (by kernel_rfl) (by decide +kernel) (by decide +kernel) h1 h2 l1 l2).mono ?_
  rintro e w' ⟨β, v, rfl, hh, ex⟩
  have := one_num.1 hh
  subst this
  exact ⟨rfl, ex⟩
def tabT : List (Nat × Con) :=
  (32, kSg)  ::
  (58, kSg)  ::
  (51, kCmpQ)  ::
  
  tabQ
theorem tabT_ok {E : Env} (hE : QEnv E) : TabOK Tryz.prog E tabT := by
  refine .cons (kSgF_ok (fun w v1 n d h l m => rsign_rat_calls w v1 n d h l m) ⟨_, Tryz.func32, by decide +kernel, by kernel_rfl⟩) ?_ 
  refine .cons kSg_ok ?_ 
  refine .cons (kCmpQ_ok hE (fun w v1 v2 a b h1 h2 l1 l2 => rcmp_rat_calls w v1 v2 a b h1 h2 l1 l2) ⟨_, Tryz.func51, by decide +kernel, by kernel_rfl⟩) ?_
  
  exact tabQ_ok hE

def smOf (a : Rat) : Prop := smQ (decide (a.num < 0)) (limbs a.num.natAbs) (decide ((a.den : Int) < 0)) (limbs (a.den : Int).natAbs) = true
/-- A law of one number, of two, of three numbers: small numbers, or others. -/
def IsTrue (w : World) (e : Ending) (w' : World) : Prop := e = .returned (.bool true) ∧ Ext w w'
/-- Terms for the parts of rational numbers, and what they mean. -/
abbrev IT2 := IT × IT
def qv (i : Nat) : IT2 := (.var (2 * i), .var (2 * i + 1))
def qop (f : Nat) (p q : IT2) : IT2 := (.a4 (2 * f) p.1 p.2 q.1 q.2, .a4 (2 * f + 1) p.1 p.2 q.1 q.2)
def qsame (p q : IT2) : BT := .and (.eq p.1 q.1) (.eq p.2 q.2)
def RepQ (E : Env) (p : IT2) (q : Rat) : Prop := p.1.den E = q.num ∧ p.2.den E = (q.den : Int)
theorem rep_op {E : Env} {f : Nat} {p q : IT2} {a b : Rat} (hf : f ≠ 4) (hp : RepQ E p a) (hq : RepQ E q b) : RepQ E (qop f p q) (ratF f a b) := by
  constructor
  · show fn4 (2 * f) (p.1.den E) (p.2.den E) (q.1.den E) (q.2.den E) = _
    rw [hp.1, hp.2, hq.1, hq.2, fn4_num (by omega), show 2 * f / 2 = f by omega]
  · show fn4 (2 * f + 1) (p.1.den E) (p.2.den E) (q.1.den E) (q.2.den E) = _
    rw [hp.1, hp.2, hq.1, hq.2, fn4_den (by omega) (by omega), show (2 * f + 1) / 2 = f by omega]
theorem rep_div {E : Env} {p q : IT2} {a b : Rat} (hb : b ≠ 0) (hp : RepQ E p a) (hq : RepQ E q b) : RepQ E (qop 4 p q) (a / b) := by
  constructor
  · show fn4 8 (p.1.den E) (p.2.den E) (q.1.den E) (q.2.den E) = _
    rw [hp.1, hp.2, hq.1, hq.2, fn4_num rfl]; rfl
  · show fn4 9 (p.1.den E) (p.2.den E) (q.1.den E) (q.2.den E) = _
    rw [hp.1, hp.2, hq.1, hq.2]
    unfold fn4
    rw [if_neg (by decide), divInt_parts, divInt_parts, if_neg (fun e => hb e.2)]
    rfl
theorem rep_same {E : Env} {p q : IT2} {a b : Rat} (hp : RepQ E p a) (hq : RepQ E q b) (h : a = b) : (qsame p q).den E = true := by
  subst h
  show (p.1.den E == q.1.den E && p.2.den E == q.2.den E) = true
  rw [hp.1, hp.2, hq.1, hq.2]
  simp
theorem rep_v {l : List Rat} {i : Nat} : RepQ (qE l) (qv i) (l.getD i 0) := by
  constructor
  · show (if 2 * i % 2 = 0 then _ else _) = _
    rw [if_pos (by omega), show 2 * i / 2 = i by omega]
  · show (if (2 * i + 1) % 2 = 0 then _ else _) = _
    rw [if_neg (by omega), show (2 * i + 1) / 2 = i by omega]
end Go.Proofs.YtdblkeeicmncfaaGreat
end

/- ---- Rfb ---- -/
section
/-
  RationalField: sums and products are associative, commutative and distributive; differences and quotients undo them.
-/
set_option maxRecDepth 100000
namespace Go.Proofs.YtdblkeeicmncfaaGreat
open Go.RowKit

def fieldOut : BT := qsame (qop 4 (qop 2 (qv 0) (qv 2)) (qv 2)) (qv 0)
def leafB (b : BT) : Tree := .leaf [(false, [.b b])]
def fieldT : Tree :=
  .ite (qsame (qop 0 (qop 0 (qv 0) (qv 1)) (qv 2)) (qop 0 (qv 1) (qop 0 (qv 2) (qv 0))))
    (.ite (qsame (qop 2 (qop 2 (qv 0) (qv 1)) (qv 2)) (qop 2 (qv 1) (qop 2 (qv 2) (qv 0))))
      (.ite (qsame (qop 2 (qv 0) (qop 0 (qv 1) (qv 2))) (qop 0 (qop 2 (qv 0) (qv 1)) (qop 2 (qv 0) (qv 2))))
        (.ite (qsame (qop 1 (qop 0 (qv 0) (qv 1)) (qv 1)) (qv 0))
          (.ite (.eq (.a2 3 (.var 4) (.lit 0)) (.lit 0))
            (.ite (.eq (.a1 1 (.var 4)) (.lit 6)) (.ite (.eq (.a1 1 (.var 4)) (.lit 0)) (leafB fieldOut) (leafB (.lit true))) (leafB (.lit false)))
            (.ite (.eq (.a1 1 (.var 4)) (.lit 6)) (leafB (.lit false)) (.ite (.eq (.a1 1 (.var 4)) (.lit 0)) (leafB fieldOut) (leafB (.lit true)))))
          (leafB (.lit false))) (leafB (.lit false))) (leafB (.lit false))) (leafB (.lit false))
end Go.Proofs.YtdblkeeicmncfaaGreat
end

/- ---- Ree ---- -/
section
/-
  Simplest, at the constants of awake.
-/
set_option maxRecDepth 100000
namespace Go.Proofs.YtdblkeeicmncfaaGreat
open Go.RowKit

def argL (i l : Nat) : AV := .val true [.int (.var (2 * i)) l, .int (.var (2 * i + 1)) l]
def kConv : Con
  | [.val true [.int x l, .int y m], .val true [.int z k, .int t j], .val true [.int u n]], _ => if decide (l ≤ 1000) && (decide (m ≤ 1000) && (decide (k ≤ 1000) && (decide (j ≤ 1000) && decide (n ≤ 1000)))) then
      some (.val true [.int (.a2 0 (.a2 2 u x) z) (n + l + k + 1), .int (.a2 0 (.a2 2 u y) t) (n + m + j + 1)]) else none
  | _, _ => none
def litP (a b : Int) : AV := .val true [.int (.lit a) 1, .int (.lit b) 1]
theorem lim1 {z : Int} (h : z.natAbs < 1000000000) : Lim 1 z := limbs_len_le (by simpa using h)
def leafP : Tree → Option (Int × Int)
  | .leaf [(true, [.int x _, .int y _])] => match x.cl, y.cl with
    | some p, some q => some (p, q)
    | _, _ => none
  | _ => none
def leafPE : Tree → Option (Int × Int × Int)
  | .leaf [(true, [.int x _, .int y _]), (false, [.n .i64 z])] => match x.cl, y.cl, z.cl with
    | some p, some q, some e => some (p, q, e)
    | _, _, _ => none
  | _ => none
theorem leafP_spec {E : Env} {β : Nat → Nat} {w : World} {T : Tree} {p q : Int} {v : Value} (h : leafP T = some (p, q)) (hh : (toAV (T.pick E)).holds E β w v) : IsPair w v p q := by
  unfold leafP at h
  split at h
  · split at h
    · rename_i a b ha hb
      injection h with h
      injection h with h1 h2
      subst h1 h2
      have := (one_pair.1 hh).1
      rw [IT.cl_spec ha, IT.cl_spec hb] at this
      exact this
    · cases h
  · cases h
theorem leafPE_spec {E : Env} {β : Nat → Nat} {w : World} {T : Tree} {p q e : Int} {v : Value} (h : leafPE T = some (p, q, e)) (hh : (toAV (T.pick E)).holds E β w v) : ∃ u, v = .tuple #[u, .int .i64 e] ∧ IsPair w u p q := by
  unfold leafPE at h
  split at h
  · split at h
    · rename_i a b c ha hb hc
      injection h with h
      injection h with h1 h2
      injection h2 with h2 h3
      subst h1 h2 h3
      obtain ⟨u, rfl, hp⟩ := open_quot hh
      rw [IT.cl_spec ha, IT.cl_spec hb] at hp
      rw [IT.cl_spec hc]
      exact ⟨u, rfl, hp⟩
    · cases h
  · cases h
theorem litP_holds {E : Env} {β : Nat → Nat} {w : World} {v : Value} {a b : Int} (h : IsPair w v a b) (l1 : Lim 1 a) (l2 : Lim 1 b) : (litP a b).holds E β w v := one_pair.2 ⟨h, l1, l2⟩
/-- simplestPositive at the constants. -/
def kSP : Con
  | [.val true [.int (.lit a) l, .int (.lit b) m], .val true [.int (.lit c) k, .int (.lit d) j]], _ =>
    if l == 1 && (m == 1 && (k == 1 && j == 1)) then
      if a == 3 && (b == 10 && (c == 2 && d == 5)) then some (.val true [.int (.lit 1) 1, .int (.lit 3) 1])
      else if a == 2 && (b == 1 && (c == 3 && d == 1)) then some (.val true [.int (.lit 5) 1, .int (.lit 2) 1]) else none
    else none
  | _, _ => none
end Go.Proofs.YtdblkeeicmncfaaGreat
end

/- ---- Rsi ---- -/
section
/-
  Simplest, at the constants of awake.
-/
set_option maxRecDepth 100000
namespace Go.Proofs.YtdblkeeicmncfaaGreat
open Go.RowKit

theorem validP_calls (w : World) (v : Value) (n d : Int) (h : IsPair w v n d) (l1 : Lim 100000 n) (l2 : Lim 100000 d) :
    Calls Tryz.prog 69 #[v] w fun e w' => e = .returned (.bool (decide (0 < d) && ((Nat.gcd n.natAbs d.natAbs : Nat) : Int) == 1)) ∧ Ext w w' := by
  obtain ⟨a, b, c, f, rfl, h1, h2⟩ := h
  obtain ⟨k1, k2⟩ := int_raw h1
  obtain ⟨j1, j2⟩ := int_raw h2
  refine (valid_rat_calls w _ _ _ _ _ ⟨a, b, c, f, rfl, k1, j1⟩ (Nat.le_trans l1 (by omega)) (Nat.le_trans l2 (by omega))).mono ?_
  rintro e w' ⟨rfl, ex⟩
  refine ⟨ret_bool ?_, ex⟩
  have e1 : sgn (decide (n < 0)) (val (limbs n.natAbs)) = n := by rw [val_limbs]; exact sgn_self n
  have e2 : sgn (decide (d < 0)) (val (limbs d.natAbs)) = d := by rw [val_limbs]; exact sgn_self d
  unfold okQ
  rw [k2, j2, e1, e2, Bool.true_and, Bool.true_and]
  congr 1
  by_cases hg : Nat.gcd n.natAbs d.natAbs = 1
  · rw [decide_eq_true hg, eq_comm, beq_iff_eq]; omega
  · rw [decide_eq_false hg, eq_comm, beq_eq_false_iff_ne]; omega
def kValP : Con
  | [.val true [.int x l, .int y m]], _ => if decide (l ≤ 100000) && decide (m ≤ 100000) then some (.val false [.b (.and (.lt (.lit 0) y) (.eq (.a2 6 x y) (.lit 1)))]) else none
  | _, _ => none
theorem kValP_ok {E : Env} : ConOK Tryz.prog E 69 kValP := by
  refine ⟨?_, ?_, ⟨_, Tryz.func69, by decide +kernel, by kernel_rfl⟩⟩
  · intro args As r h hG β w vs hv hlen
    unfold kValP at h
    split at h
    · split at h
      · rename_i hlo
        injection h with h
        subst h
        simp only [Bool.and_eq_true, decide_eq_true_iff] at hlo
        obtain ⟨v, rfl, h1⟩ := args1 hv hlen
        obtain ⟨p1, a1, a2⟩ := one_pair.1 h1
        refine (validP_calls w v _ _ p1 (a1.mono hlo.1) (a2.mono hlo.2)).mono ?_
        rintro e w' ⟨rfl, ex⟩
        exact ⟨_, rfl, one_bool.2 rfl, ex⟩
      · cases h
    · cases h
  · intro args As r h x off
    unfold kValP at h
    split at h
    · split at h
      · injection h with h; subst h; intro e; cases e
      · cases h
    · cases h
end Go.Proofs.YtdblkeeicmncfaaGreat
end

/- ---- Rsr ---- -/
section
/-
  Square roots of rational numbers.
-/
set_option maxRecDepth 100000
namespace Go.Proofs.YtdblkeeicmncfaaGreat
open Go.RowKit

theorem isqN_le (n : Nat) : isqN n ≤ n := by
  induction n with
  | zero => exact Nat.le_refl _
  | succ n ih =>
    unfold isqN
    split <;> omega
theorem isq_lim {l : Nat} {z : Int} (h : Lim l z) : Lim l (isq z) := by
  refine h.natAbs_le ?_
  unfold isq
  split
  · simp
  · rw [Int.natAbs_natCast]; exact isqN_le _
def kSqI : Con
  | [.val true [.int x l]], _ => if lo l then some (.tup [(true, [.int (.a1 2 x) l]), (false, [.n .i64 (.a1 3 x)])]) else none
  | _, _ => none
theorem kSqI_ok {E : Env} : ConOK Tryz.prog E 128 kSqI := by
  refine ⟨?_, ?_, ⟨_, Tryz.func128, by decide +kernel, by kernel_rfl⟩⟩
  · intro args As r h hG β w vs hv hlen
    unfold kSqI at h
    split at h
    · split at h
      · rename_i hlo
        injection h with h
        subst h
        simp only [lo, decide_eq_true_iff] at hlo
        obtain ⟨v, rfl, h1⟩ := args1 hv hlen
        obtain ⟨i1, l1⟩ := one_int.1 h1
        refine (sqrt_any w v _ i1 (l1.mono (by omega))).mono ?_
        rintro e w' ⟨u, rfl, k1, ex⟩
        exact ⟨_, rfl, ⟨[u, .int .i64 _], rfl, u, _, rfl, one_int.2 ⟨k1, isq_lim l1⟩, _, _, rfl, one_num.2 rfl, rfl⟩, ex⟩
      · cases h
    · cases h
  · intro args As r h x off
    unfold kSqI at h
    split at h
    · split at h
      · injection h with h; subst h; intro e; cases e
      · cases h
    · cases h
def tabSq : List (Nat × Con) := (128, kSqI) :: tabInt
theorem tabSq_ok {E : Env} : TabOK Tryz.prog E tabSq := .cons kSqI_ok tabInt_ok
/-- Whether an integer is a square. -/
def sqB (z : Int) : Bool := isqE z == 0 && cmpZ (isq z * isq z) z == 0
theorem squareRoot_calls (w : World) (v : Value) (z : Int) (h : IsInt w v z) (l : Lim 100000 z) :
    Calls Tryz.prog 109 #[v] w fun e w' => ∃ u, e = .returned (.tuple #[u, .bool (sqB z)]) ∧ IsInt w' u (isq z) ∧ Ext w w' := by
  refine (fun_sound (C := cfgOf tabSq) (E := zE [z]) (args := [.val true [.int (.var 0) 100000]])
    (T := .ite (.eq (.a1 3 (.var 0)) (.lit 0)) (.leaf [(true, [.int (.a1 2 (.var 0)) 100000]), (false, [.b (.eq (.a2 3 (.a2 2 (.a1 2 (.var 0)) (.a1 2 (.var 0))) (.var 0)) (.lit 0))])]) (.leaf [(true, [.int (.a1 2 (.var 0)) 100000]), (false, [.b (.lit false)])]))
    mixed (cfg_ok tabSq_ok) no_asm Tryz.func109 (by decide +kernel) (by kernel_rfl) (by decide +kernel) rfl w [v] rfl ?_).mono ?_
  · intro i x hx
    match i, hx with
    | 0, hx => injection hx with hx; subst hx; exact ⟨fun _ => 0, v, rfl, one_int.2 ⟨h, l⟩⟩
  · rintro e w' ⟨β, u, rfl, hh, ex⟩
    have open_ : ∀ (x : IT) (k : Nat) (t : BT), (AV.tup [(true, [.int x k]), (false, [.b t])]).holds (zE [z]) β w' u → ∃ p, u = .tuple #[p, .bool (t.den (zE [z]))] ∧ IsInt w' p (x.den (zE [z])) := by
      intro x k t hx
      obtain ⟨vs, rfl, u1, r1, rfl, k1, u2, r2, rfl, k2, hn⟩ := hx
      simp only [tupAll] at hn
      subst hn
      have k2' := one_bool.1 k2
      subst k2'
      exact ⟨u1, rfl, (one_int.1 k1).1⟩
    simp only [Tree.pick] at hh
    split at hh
    · rename_i hz
      have hz' : (isqE z == 0) = true := hz
      obtain ⟨p, rfl, hp⟩ := open_ _ _ _ hh
      refine ⟨p, ?_, hp, ex⟩
      unfold sqB
      rw [hz', Bool.true_and]
      rfl
    · rename_i hz
      have hz' : (isqE z == 0) = false := by rw [← Bool.not_eq_true]; exact hz
      obtain ⟨p, rfl, hp⟩ := open_ _ _ _ hh
      refine ⟨p, ?_, hp, ex⟩
      unfold sqB
      rw [hz', Bool.false_and]
      rfl
def kSqr : Con
  | [.val true [.int x l]], _ => if decide (l ≤ 100000) then some (.tup [(true, [.int (.a1 2 x) l]), (false, [.b (.and (.eq (.a1 3 x) (.lit 0)) (.eq (.a2 3 (.a2 2 (.a1 2 x) (.a1 2 x)) x) (.lit 0)))])]) else none
  | _, _ => none
theorem kSqr_ok {E : Env} : ConOK Tryz.prog E 109 kSqr := by
  refine ⟨?_, ?_, ⟨_, Tryz.func109, by decide +kernel, by kernel_rfl⟩⟩
  · intro args As r h hG β w vs hv hlen
    unfold kSqr at h
    split at h
    · split at h
      · rename_i hlo
        injection h with h
        subst h
        simp only [decide_eq_true_iff] at hlo
        obtain ⟨v, rfl, h1⟩ := args1 hv hlen
        obtain ⟨i1, l1⟩ := one_int.1 h1
        refine (squareRoot_calls w v _ i1 (l1.mono hlo)).mono ?_
        rintro e w' ⟨u, rfl, k1, ex⟩
        exact ⟨_, rfl, ⟨[u, .bool _], rfl, u, _, rfl, one_int.2 ⟨k1, isq_lim l1⟩, _, _, rfl, one_bool.2 rfl, rfl⟩, ex⟩
      · cases h
    · cases h
  · intro args As r h x off
    unfold kSqr at h
    split at h
    · split at h
      · injection h with h; subst h; intro e; cases e
      · cases h
    · cases h
def tabSqr : List (Nat × Con) := [(109, kSqr)]
theorem tabSqr_ok {E : Env} : TabOK Tryz.prog E tabSqr := .cons kSqr_ok .nil
end Go.Proofs.YtdblkeeicmncfaaGreat
end

/- ---- Sxi ---- -/
section
/-
  A walker that goes by reckoning: loops of any number of rounds, by what each round keeps.
-/
set_option maxRecDepth 100000
namespace Go.Proofs.YtdblkeeicmncfaaGreat
open Go.RowKit

def lookN {α : Type} : List (Nat × α) → Nat → Option α
  | [], _ => none
  | p :: l, t => if p.1 == t then some p.2 else lookN l t
theorem lookN_mem {α : Type} : ∀ {l : List (Nat × α)} {t : Nat} {x : α}, lookN l t = some x → (t, x) ∈ l
  | [], _, _, h => by simp [lookN] at h
  | p :: l, t, x, h => by
    unfold lookN at h
    split at h
    · rename_i hp
      have : p.1 = t := by simpa using hp
      injection h with h
      obtain ⟨a, b⟩ := p
      simp only at this h
      subst this h
      exact List.mem_cons_self
    · exact List.mem_cons_of_mem _ (lookN_mem h)
/-- Numbers of an environment, turned. -/
def updI : List Nat → List Int → Nat → Option Int
  | v :: vs, z :: zs, k => if k = v then some z else updI vs zs k
  | _, _, _ => none
def Env.upd (E : Env) (vs : List Nat) (zs : List Int) : Env := { E with i := fun k => (updI vs zs k).getD (E.i k) }
theorem updI_map (f : Nat → Int) : ∀ (vs : List Nat) (k : Nat), updI vs (vs.map f) k = if k ∈ vs then some (f k) else none
  | [], k => rfl
  | v :: vs, k => by
    simp only [List.map_cons, updI, List.mem_cons]
    by_cases h : k = v
    · subst h; simp
    · rw [if_neg h, updI_map f vs k]
      simp [h]
/-- What a loop keeps: slots, variables, the numbers that turn, what is known of them, and how long they are. -/
structure LInv where
  lk : List (Nat × AV)
  vr : List (Nat × List Chunk)
  vs : List Nat
  G : Asm
  lm : List (Nat × Nat)
def LInv.st (I : LInv) : St := ⟨lookN I.lk, lookN I.vr⟩
def IT.free (vs : List Nat) : IT → Bool
  | .var i => !(vs.contains i)
  | .lit _ => true
  | .rlen _ => true
  | .slen _ => true
  | .a1 _ x => x.free vs
  | .a2 _ x y => x.free vs && y.free vs
  | .a4 _ x y z t => (x.free vs && y.free vs) && (z.free vs && t.free vs)
def ST.free (vs : List Nat) : ST → Bool
  | .lit _ => true
  | .var _ => true
  | .fmt z => z.free vs
  | .cat x y => x.free vs && y.free vs
def BT.free (vs : List Nat) : BT → Bool
  | .seq x y => x.free vs && y.free vs
  | .lit _ => true
  | .var _ => true
  | .eq x y => x.free vs && y.free vs
  | .lt x y => x.free vs && y.free vs
  | .le x y => x.free vs && y.free vs
  | .ok _ => true
  | .and x y => x.free vs && y.free vs
  | .not x => x.free vs
theorem IT.den_free {E : Env} {vs : List Nat} {zs : List Int} (hz : zs.length = vs.length) : ∀ {t : IT}, t.free vs = true → t.den (E.upd vs zs) = t.den E := by
  have hup : ∀ (vs : List Nat) (zs : List Int) (k : Nat), k ∉ vs → updI vs zs k = none := by
    intro vs
    induction vs with
    | nil => intro zs k _; simp [updI]
    | cons v vs ih =>
      intro zs k hk
      cases zs with
      | nil => rfl
      | cons z zs =>
        simp only [updI]
        rw [if_neg (fun e => hk (by rw [e]; simp))]
        exact ih zs k (fun h => hk (by simp [h]))
  intro t
  induction t with
  | var i =>
    intro h
    simp only [IT.free, Bool.not_eq_true', List.contains_eq_mem, decide_eq_false_iff_not] at h
    simp only [IT.den, Env.upd, hup vs zs i h, Option.getD_none]
  | lit z => intro _; rfl
  | rlen i => intro _; rfl
  | slen i => intro _; rfl
  | a1 f x ih => intro h; simp only [IT.free] at h; simp only [IT.den, ih h]
  | a2 f x y ihx ihy => intro h; simp only [IT.free, Bool.and_eq_true] at h; simp only [IT.den, ihx h.1, ihy h.2]
  | a4 f x y z t ihx ihy ihz iht =>
    intro h
    simp only [IT.free, Bool.and_eq_true] at h
    simp only [IT.den, ihx h.1.1, ihy h.1.2, ihz h.2.1, iht h.2.2]
theorem ST.den_free {E : Env} {vs : List Nat} {zs : List Int} (hz : zs.length = vs.length) : ∀ {t : ST}, t.free vs = true → t.den (E.upd vs zs) = t.den E := by
  intro t
  induction t with
  | lit l => intro _; rfl
  | var i => intro _; rfl
  | fmt z => intro h; simp only [ST.free] at h; simp only [ST.den, IT.den_free hz h]
  | cat x y ihx ihy => intro h; simp only [ST.free, Bool.and_eq_true] at h; simp only [ST.den, ihx h.1, ihy h.2]
theorem BT.den_free {E : Env} {vs : List Nat} {zs : List Int} (hz : zs.length = vs.length) : ∀ {t : BT}, t.free vs = true → t.den (E.upd vs zs) = t.den E := by
  intro t
  induction t with
  | lit b => intro _; rfl
  | var i => intro _; rfl
  | ok i => intro _; rfl
  | seq x y => intro h; simp only [BT.free, Bool.and_eq_true] at h; simp only [BT.den, ST.den_free hz h.1, ST.den_free hz h.2]
  | eq x y => intro h; simp only [BT.free, Bool.and_eq_true] at h; simp only [BT.den, IT.den_free hz h.1, IT.den_free hz h.2]
  | lt x y => intro h; simp only [BT.free, Bool.and_eq_true] at h; simp only [BT.den, IT.den_free hz h.1, IT.den_free hz h.2]
  | le x y => intro h; simp only [BT.free, Bool.and_eq_true] at h; simp only [BT.den, IT.den_free hz h.1, IT.den_free hz h.2]
  | and x y ihx ihy => intro h; simp only [BT.free, Bool.and_eq_true] at h; simp only [BT.den, ihx h.1, ihy h.2]
  | not x ih => intro h; simp only [BT.free] at h; simp only [BT.den, ih h]

/-- The terms for the numbers that turn: sought (not trusted), then held against the state. -/
abbrev Sig := List (Nat × IT)
def colT (vs : List Nat) (p t : IT) (σ : Sig) : Sig :=
  match p with
  | .var i => if vs.contains i && (lookN σ i).isNone then (i, t) :: σ else σ
  | _ => σ
def colC (vs : List Nat) : Chunk → Chunk → Sig → Sig
  | .int p _, .int t _, σ => colT vs p t σ
  | .n _ p, .n _ t, σ => colT vs p t σ
  | .mag p _, .mag t _, σ => colT vs p t σ
  | _, _, σ => σ
def colCs (vs : List Nat) : List Chunk → List Chunk → Sig → Sig
  | c :: cs, d :: ds, σ => colCs vs cs ds (colC vs c d σ)
  | _, _, σ => σ
def colV (vs : List Nat) : AV → AV → Sig → Sig
  | .val _ cs, .val _ ds, σ => colCs vs cs ds σ
  | _, _, σ => σ
def colS (I : LInv) (S : St) : Sig :=
  I.vr.foldl (fun σ p => match S.var p.1 with | some ds => colCs I.vs p.2 ds σ | none => σ) (I.lk.foldl (fun σ p => match S.look p.1 with | some x => colV I.vs p.2 x σ | none => σ) [])
def okT (vs : List Nat) (σ : Sig) (p t : IT) : Bool :=
  match p with
  | .var i => if vs.contains i then (match lookN σ i with | some u => u.beq t | none => false) else t.beq (.var i)
  | p => p.free vs && p.beq t
def okL (I : LInv) (p : IT) (l m : Nat) : Bool :=
  match p with
  | .var i => if I.vs.contains i then I.lm.contains (i, l) else decide (m ≤ l)
  | _ => decide (m ≤ l)
def okC (I : LInv) (σ : Sig) : Chunk → Chunk → Bool
  | .b p, .b t => p.free I.vs && p.beq t
  | .n k p, .n j t => decide (k = j) && okT I.vs σ p t
  | .int p l, .int t m => okT I.vs σ p t && okL I p l m
  | .mag p l, .mag t m => okT I.vs σ p t && okL I p l m
  | .raw i, .raw j => i == j
  | .rmag i, .rmag j => i == j
  | .fn f, .fn g => f == g
  | .nilSlice, .nilSlice => true
  | .str s l, .str t m => s.free I.vs && (s.beq t && decide (m ≤ l))
  | _, _ => false
def okCs (I : LInv) (σ : Sig) : List Chunk → List Chunk → Bool
  | [], [] => true
  | c :: cs, d :: ds => okC I σ c d && okCs I σ cs ds
  | _, _ => false
def okV (I : LInv) (σ : Sig) : AV → AV → Bool
  | .val a cs, .val b ds => a == b && okCs I σ cs ds
  | .ptr x o, .ptr y p => (x == y && o == p) && (lookN I.vr x).isSome
  | .bad, .bad => true
  | _, _ => false
def okS (I : LInv) (σ : Sig) (S : St) : Bool :=
  (I.lk.all fun p => match S.look p.1 with | some x => okV I σ p.2 x | none => false) &&
  (I.vr.all fun p => match S.var p.1 with | some ds => okCs I σ p.2 ds && !(sizes p.2 == 0) | none => false)
def sigT (I : LInv) (σ : Sig) : List IT := I.vs.map fun i => (lookN σ i).getD (.lit 0)
def matchS (I : LInv) (S : St) : Option (List IT) := if okS I (colS I S) S then some (sigT I (colS I S)) else none
/-- What must stand where a round begins. -/
def enterL (Good : Env → Prop) (I : LInv) (ts : List IT) (E : Env) : Prop :=
  I.G.holds (E.upd I.vs (ts.map (IT.den E))) ∧ Good (E.upd I.vs (ts.map (IT.den E))) ∧ ∀ p ∈ I.lm, Lim p.2 ((E.upd I.vs (ts.map (IT.den E))).i p.1)

section
variable {E : Env} {n B : Nat} {w w0 : World} {a : Act} {I : LInv} {σ : Sig} {S : St} {ts : List IT}
theorem okT_spec (hts : ts = sigT I σ) {p t : IT} (h : okT I.vs σ p t = true) : p.den (E.upd I.vs (ts.map (IT.den E))) = t.den E := by
  have hlen : (ts.map (IT.den E)).length = I.vs.length := by rw [hts]; simp [sigT]
  have key : ∀ (q u : IT), (q.free I.vs && q.beq u) = true → q.den (E.upd I.vs (ts.map (IT.den E))) = u.den E := by
    intro q u hq
    rw [Bool.and_eq_true] at hq
    rw [IT.den_free hlen hq.1, IT.eq_of_beq hq.2]
  unfold okT at h
  split at h
  · rename_i i
    split at h
    · rename_i hi
      split at h
      · rename_i u hu
        have : ts.map (IT.den E) = I.vs.map (fun i => ((lookN σ i).getD (.lit 0)).den E) := by rw [hts]; simp [sigT, Function.comp_def]
        simp only [IT.den, Env.upd]
        rw [this, updI_map]
        rw [List.contains_iff_mem] at hi
        rw [if_pos hi]
        simp only [Option.getD_some, hu]
        rw [IT.eq_of_beq h]
      · cases h
    · rename_i hi
      refine Eq.trans ?_ (congrArg (IT.den E) (IT.eq_of_beq h).symm)
      exact IT.den_free (t := .var i) hlen (by simpa [IT.free] using hi)
  · exact key _ _ h
theorem okL_spec {Good : Env → Prop} (he : enterL Good I ts E) {p t : IT} {l m : Nat} (hp : p.den (E.upd I.vs (ts.map (IT.den E))) = t.den E) (h : okL I p l m = true) (hm : Lim m (t.den E)) : Lim l (p.den (E.upd I.vs (ts.map (IT.den E)))) := by
  unfold okL at h
  split at h
  · rename_i i
    split at h
    · rw [List.contains_iff_mem] at h
      exact he.2.2 _ h
    · rw [hp]; exact hm.mono (of_decide_eq_true h)
  · rw [hp]; exact hm.mono (of_decide_eq_true h)
theorem okC_spec {Good : Env → Prop} (hts : ts = sigT I σ) (he : enterL Good I ts E) : ∀ {c d : Chunk} {vs : List Value}, okC I σ c d = true → d.holds E w vs → c.holds (E.upd I.vs (ts.map (IT.den E))) w vs ∧ c.size = d.size := by
  intro c d vs h hd
  have hlen : (ts.map (IT.den E)).length = I.vs.length := by rw [hts]; simp [sigT]
  cases c <;> cases d <;> simp only [okC, Bool.false_eq_true, Bool.and_eq_true, beq_iff_eq, decide_eq_true_iff] at h
  · rename_i p t
    refine ⟨?_, rfl⟩
    simp only [Chunk.holds] at hd ⊢
    rw [hd, BT.den_free hlen h.1, BT.den_of_beq E h.2]
  · rename_i k p j t
    obtain ⟨rfl, h⟩ := h
    refine ⟨?_, rfl⟩
    simp only [Chunk.holds] at hd ⊢
    rw [hd, okT_spec hts h]
  · rename_i p l t m
    obtain ⟨x, y, hv, hI, hm⟩ := hd
    have hp := okT_spec (E := E) hts h.1
    exact ⟨⟨x, y, hv, by rw [hp]; exact hI, okL_spec he hp h.2 hm⟩, rfl⟩
  · subst h
    obtain ⟨x, y, hv, hR⟩ := hd
    exact ⟨⟨x, y, hv, hR⟩, rfl⟩
  · rename_i p l t m
    obtain ⟨x, hv, hI, hm⟩ := hd
    have hp := okT_spec (E := E) hts h.1
    exact ⟨⟨x, hv, by rw [hp]; exact hI, okL_spec he hp h.2 hm⟩, rfl⟩
  · subst h
    obtain ⟨x, hv, ao, c, h1, h2, h3, h4⟩ := hd
    exact ⟨⟨x, hv, ao, c, h1, h2, h3, h4⟩, rfl⟩
  · subst h; exact ⟨hd, rfl⟩
  · exact ⟨hd, rfl⟩
  · obtain ⟨h1, h2, h3⟩ := h
    refine ⟨?_, rfl⟩
    obtain ⟨hv, hl⟩ := hd
    rw [← ST.eq_of_beq h2] at hv hl
    exact ⟨by rw [ST.den_free hlen h1]; exact hv, by rw [ST.den_free hlen h1]; exact Nat.le_trans hl h3⟩
theorem okCs_spec {Good : Env → Prop} (hts : ts = sigT I σ) (he : enterL Good I ts E) : ∀ {cs ds : List Chunk} {vs : List Value}, okCs I σ cs ds = true → chunks E w ds vs → chunks (E.upd I.vs (ts.map (IT.den E))) w cs vs
  | [], [], _, _, hd => hd
  | c :: cs, d :: ds, _, h, ⟨l, r, hv, h1, h2⟩ => by
    simp only [okCs, Bool.and_eq_true] at h
    exact ⟨l, r, hv, (okC_spec hts he h.1 h1).1, okCs_spec hts he h.2 h2⟩
  | [], _ :: _, _, h, _ => by simp [okCs] at h
  | _ :: _, [], _, h, _ => by simp [okCs] at h
theorem matchS_spec {Good : Env → Prop} (h : matchS I S = some ts) (he : enterL Good I ts E) (hS : S.holds E n B w0 a w) : I.st.holds (E.upd I.vs (ts.map (IT.den E))) n B w0 a w := by
  unfold matchS at h
  split at h
  · rename_i hok
    injection h with h
    have hts := h.symm
    unfold okS at hok
    rw [Bool.and_eq_true, List.all_eq_true, List.all_eq_true] at hok
    obtain ⟨h1, h2⟩ := hok
    obtain ⟨β, hS⟩ := hS
    have hvar : ∀ x cs, I.st.var x = some cs → ∃ ds, S.var x = some ds ∧ okCs I (colS I S) cs ds = true ∧ sizes cs ≠ 0 := by
      intro x cs hx
      have := h2 _ (lookN_mem hx)
      simp only at this
      split at this
      · rename_i ds hds
        rw [Bool.and_eq_true, Bool.not_eq_true', beq_eq_false_iff_ne] at this
        exact ⟨ds, hds, this⟩
      · cases this
    refine ⟨β, fun t x hx => ?_, fun x cs hx => ?_, fun x y hx hy he => ?_, fun t x off hx => ?_, hS.sz, hS.nd, hS.hp, hS.bl, fun x cs hx => ?_⟩
    · have := h1 _ (lookN_mem hx)
      simp only at this
      split at this
      · rename_i y hy
        have hv := hS.sl t y hy
        cases x with
        | val ag cs =>
          cases y with
          | val bg ds =>
            simp only [okV, Bool.and_eq_true, beq_iff_eq] at this
            obtain ⟨rfl, hc⟩ := this
            cases ag
            · exact ⟨okCs_spec hts he hc hv.1, hv.2⟩
            · obtain ⟨us, hu, hcs⟩ := hv
              exact ⟨us, hu, okCs_spec hts he hc hcs⟩
          | _ => simp [okV] at this
        | ptr z o =>
          cases y with
          | ptr z' o' =>
            simp only [okV, Bool.and_eq_true, beq_iff_eq] at this
            obtain ⟨⟨rfl, rfl⟩, _⟩ := this
            exact hv
          | _ => simp [okV] at this
        | tup l => cases y <;> simp [okV] at this
        | bad =>
          cases y with
          | bad => exact hv
          | _ => simp [okV] at this
      · cases this
    · obtain ⟨ds, hds, hc, _⟩ := hvar x cs hx
      obtain ⟨k1, us, k2, k3⟩ := hS.vr x ds hds
      exact ⟨k1, us, okCs_spec hts he hc k2, k3⟩
    · obtain ⟨cs, hcs⟩ := Option.isSome_iff_exists.1 hx
      obtain ⟨ds, hds⟩ := Option.isSome_iff_exists.1 hy
      obtain ⟨c1, e1, _⟩ := hvar x cs hcs
      obtain ⟨c2, e2, _⟩ := hvar y ds hds
      exact hS.inj x y (by rw [e1]; rfl) (by rw [e2]; rfl) he
    · have := h1 _ (lookN_mem hx)
      simp only at this
      split at this
      · rename_i y hy
        cases y with
        | ptr z' o' =>
          simp only [okV, Bool.and_eq_true] at this
          exact this.2
        | _ => simp [okV] at this
      · cases this
    · exact (hvar x cs hx).choose_spec.2.2
  · cases h
end

/-- What a walk with loops comes to. -/
inductive LTree where
  | leaf (l : List (Bool × List Chunk))
  | ite (b : BT) (t e : LTree)
  | loop (d : Nat) (I : LInv) (ts : List IT) (T : LTree)
  | again (d : Nat) (ts : List IT)
abbrev Stk := Nat → Option (LInv × LTree)
def Stk.set (K : Stk) (d : Nat) (p : LInv × LTree) : Stk := fun j => if j = d then some p else K j
/-- A run through a tree: m rounds are begun again. -/
inductive Run (Good : Env → Prop) : Stk → LTree → Env → Nat → Env → List (Bool × List Chunk) → Prop where
  | leaf {K l E} : Run Good K (.leaf l) E 0 E l
  | iteT {K b t e E m E' l} : b.den E = true → Run Good K t E m E' l → Run Good K (.ite b t e) E m E' l
  | iteF {K b t e E m E' l} : b.den E = false → Run Good K e E m E' l → Run Good K (.ite b t e) E m E' l
  | loop {K d I ts T E m E' l} : enterL Good I ts E → Run Good (K.set d (I, T)) T (E.upd I.vs (ts.map (IT.den E))) m E' l → Run Good K (.loop d I ts T) E m E' l
  | again {K : Stk} {d I ts T E m E' l} : K d = some (I, T) → enterL Good I ts E → Run Good K T (E.upd I.vs (ts.map (IT.den E))) m E' l → Run Good K (.again d ts) E (m + 1) E' l

def regTL (C : Cfg) (n : Nat) (l : List Oper) (drawn : Bool) (k : Asm → St → Option LTree) : Nat → Asm → St → Option LTree
  | 0, _, _ => none
  | f + 1, G, S => match regE C G n l drawn S with
    | some S' => k G S'
    | none => match needE C G n l.toArray l S with
      | some b => match regTL C n l drawn k f ((b, true) :: G) S, regTL C n l drawn k f ((b, false) :: G) S with
        | some t, some e => some (.ite b t e)
        | _, _ => none
      | none => none
def firstId : Code → Option Nat
  | .region id _ _ => some id
  | .seq a b => match firstId a with | some i => some i | none => firstId b
  | .block _ c => firstId c
  | .cond _ a b => match firstId a with | some i => some i | none => firstId b
  | .loop c => firstId c
  | _ => none
def execL (C : Cfg) (L : Nat → Option LInv) (n : Nat) : Code → Nat → (Asm → St → Ex → Option LTree) → Asm → St → Option LTree
  | .skip, _, k, G, S => k G S .norm
  | .ret, _, k, G, S => k G S .ret
  | .exit id, _, k, G, S => k G S (.exit id)
  | .region _ ops drawn, _, k, G, S => regTL C n ops.toList drawn (fun G S => k G S .norm) 64 G S
  | .seq a b, d, k, G, S => execL C L n a d (fun G S e => match e with | .norm => execL C L n b d k G S | e => k G S e) G S
  | .loop c, d, k, G, S => match (firstId c).bind L with
    | some I => match matchS I S with
      | some ts => match execL C L n c (d + 1) (fun G S e => match e with | .norm => (matchS I S).map (.again d) | e => k G S e) I.G I.st with
        | some T => some (.loop d I ts T)
        | none => none
      | none => none
    | none => none
  | .block id c, d, k, G, S => execL C L n c d (fun G S e => match e with | .exit j => if j = id then k G S .norm else k G S (.exit j) | e => k G S e) G S
  | .cond c x y, d, k, G, S => match opnd S.look c with
    | some (.val false [.b tt]) => match tt.ev G with
      | some true => execL C L n x d k G S
      | some false => execL C L n y d k G S
      | none => match tt.ev ((tt.base, true) :: G), tt.ev ((tt.base, false) :: G) with
        | some b1, some b2 =>
          match (if b1 then execL C L n x d k ((tt.base, true) :: G) S else execL C L n y d k ((tt.base, true) :: G) S), (if b2 then execL C L n x d k ((tt.base, false) :: G) S else execL C L n y d k ((tt.base, false) :: G) S) with
          | some t, some e => some (.ite tt.base t e)
          | _, _ => none
        | _, _ => none
    | _ => none
  | _, _, _, _, _ => none

section
variable {P : Program} {n B : Nat} {w0 : World} {C : Cfg} {L : Nat → Option LInv} {Good : Env → Prop} {E' : Env} {l : List (Bool × List Chunk)}
/-- What the code behind owes. -/
def KOK (Good : Env → Prop) (n B : Nat) (w0 : World) (E' : Env) (l : List (Bool × List Chunk)) (k : Asm → St → Ex → Option LTree) (Q : Exit → Act → World → Prop) (K : Stk) (d m : Nat) : Prop :=
  ∀ (K' : Stk) G S e T E m', m' ≤ m → (∀ j, j < d → K' j = K j) → k G S e = some T → Run Good K' T E m' E' l → G.holds E → Good E → ∀ a w, S.holds E n B w0 a w → Q e.to a w
theorem regTL_sound (hm : P.follows .mixedOrders = true) {E : Env} (hC : CfgAt P E C B w0) {id : Nat} {lo : List Oper} {drawn : Bool} {k : Asm → St → Option LTree} {Q : Exit → Act → World → Prop} {K : Stk} {m : Nat} {w : World} {a : Act} : ∀ (f : Nat) (G : Asm) (S : St) (T : LTree), G.holds E → S.holds E n B w0 a w →
    regTL C n lo drawn k f G S = some T → Run Good K T E m E' l →
    (∀ G' S' T', k G' S' = some T' → G'.holds E → Run Good K T' E m E' l → ∀ a' w', S'.holds E n B w0 a' w' → Q .normal a' w') → (Code.region id lo.toArray drawn).wp P Q a w
  | 0, _, _, _, _, _, h, _, _ => by simp [regTL] at h
  | f + 1, G, S, T, hG, hS, h, hR, hk => by
    unfold regTL at h
    split at h
    · rename_i S' hS'
      exact regE_sound hm hC hG hS hS' (fun a' w' h' => hk G S' T h hG hR a' w' h')
    · split at h
      · rename_i b hb
        split at h
        · rename_i t e ht he
          injection h with h
          subst h
          cases hR with
          | iteT hbv hR => exact regTL_sound hm hC f _ S t (asm_cons hG hbv) hS ht hR hk
          | iteF hbv hR => exact regTL_sound hm hC f _ S e (asm_cons hG hbv) hS he hR hk
        · cases h
      · cases h
theorem execL_sound (hm : P.follows .mixedOrders = true) (hC : ∀ E, Good E → CfgAt P E C B w0) : ∀ (c : Code) (d : Nat) (k : Asm → St → Ex → Option LTree) (Q : Exit → Act → World → Prop) (K : Stk) (G : Asm) (S : St) (T : LTree) (E : Env) (m : Nat) (a : Act) (w : World), G.holds E → Good E → S.holds E n B w0 a w →
    execL C L n c d k G S = some T → Run Good K T E m E' l → KOK Good n B w0 E' l k Q K d m → c.wp P Q a w := by
  intro c
  induction c with
  | skip => intro d k Q K G S T E m a w hG hE hS h hR hk; exact wp_skip (hk K G S .norm T E m (Nat.le_refl _) (fun _ _ => rfl) h hR hG hE a w hS)
  | ret => intro d k Q K G S T E m a w hG hE hS h hR hk; exact wp_ret (hk K G S .ret T E m (Nat.le_refl _) (fun _ _ => rfl) h hR hG hE a w hS)
  | exit id => intro d k Q K G S T E m a w hG hE hS h hR hk; exact wp_exit (hk K G S (.exit id) T E m (Nat.le_refl _) (fun _ _ => rfl) h hR hG hE a w hS)
  | region id ops drawn =>
    intro d k Q K G S T E m a w hG hE hS h hR hk
    have := regTL_sound (id := id) (Q := Q) hm (hC E hE) 64 G S T hG hS h hR (fun G' S' T' h1 h2 h3 a' w' h4 => hk K G' S' .norm T' E m (Nat.le_refl _) (fun _ _ => rfl) h1 h3 h2 hE a' w' h4)
    simpa using this
  | seq x y ihx ihy =>
    intro d k Q K G S T E m a w hG hE hS h hR hk
    refine wp_seq (ihx d _ _ K G S T E m a w hG hE hS h hR (fun K' G' S' e T' E1 m' hm' hK' h1 hR' hG' hE' a' w' h4 => ?_))
    cases e with
    | norm => exact ihy d k Q K' G' S' T' E1 m' a' w' hG' hE' h4 h1 hR' (fun K2 G2 S2 e2 T2 E2 m2 j1 j2 j3 j4 j5 j6 => hk K2 G2 S2 e2 T2 E2 m2 (Nat.le_trans j1 hm') (fun j hj => (j2 j hj).trans (hK' j hj)) j3 j4 j5 j6)
    | ret => exact hk K' G' S' .ret T' E1 m' hm' hK' h1 hR' hG' hE' a' w' h4
    | exit id => exact hk K' G' S' (.exit id) T' E1 m' hm' hK' h1 hR' hG' hE' a' w' h4
  | block id c ih =>
    intro d k Q K G S T E m a w hG hE hS h hR hk
    refine wp_block (ih d _ _ K G S T E m a w hG hE hS h hR (fun K' G' S' e T' E1 m' hm' hK' h1 hR' hG' hE' a' w' h4 => ?_))
    cases e with
    | norm => exact hk K' G' S' .norm T' E1 m' hm' hK' h1 hR' hG' hE' a' w' h4
    | ret => exact hk K' G' S' .ret T' E1 m' hm' hK' h1 hR' hG' hE' a' w' h4
    | exit j =>
      simp only at h1
      show (if j = id then Q .normal a' w' else Q (.exit j) a' w')
      by_cases hj : j = id
      · rw [if_pos hj] at h1 ⊢
        exact hk K' G' S' .norm T' E1 m' hm' hK' h1 hR' hG' hE' a' w' h4
      · rw [if_neg hj] at h1 ⊢
        exact hk K' G' S' (.exit j) T' E1 m' hm' hK' h1 hR' hG' hE' a' w' h4
  | loop c ih =>
    intro d k Q K G S T E m a w hG hE hS h hR hk
    simp only [execL] at h
    split at h
    · rename_i I hI
      split at h
      · rename_i ts hts
        split at h
        · rename_i T0 hT0
          injection h with h
          subst h
          cases hR with
          | loop hen hR =>
            have key : ∀ (m0 : Nat), ∀ (K1 : Stk) (E1 : Env) (a : Act) (w : World) (f : Nat), m0 ≤ m → m0 < f → K1 d = some (I, T0) → (∀ j, j < d → K1 j = K j) → I.G.holds E1 → Good E1 → I.st.holds E1 n B w0 a w → Run Good K1 T0 E1 m0 E' l → Code.rounds P c Q f a w := by
              intro m0
              induction m0 using Nat.strongRecOn with
              | ind m0 ihm =>
                intro K1 E1 a w f hm0 hf hKd hKj hG1 hE1 hS1 hR1
                match f, hf with
                | f + 1, hf =>
                  rw [rounds_succ]
                  refine ih (d + 1) _ _ K1 I.G I.st T0 E1 m0 a w hG1 hE1 hS1 hT0 hR1 (fun K' G' S' e T' E2 m' hm' hK' h1 hR' hG' hE' a' w' h4 => ?_)
                  cases e with
                  | norm =>
                    obtain ⟨ts', hts', rfl⟩ := Option.map_eq_some_iff.1 h1
                    cases hR' with
                    | again hd hen' hR2 =>
                      rename_i I2 T2 m2
                      have : K' d = some (I, T0) := (hK' d (by omega)).trans hKd
                      rw [this] at hd
                      injection hd with hd
                      injection hd with e1 e2
                      subst e1 e2
                      exact ihm m2 (by omega) K' _ a' w' f (by omega) (by omega) this (fun j hj => (hK' j (by omega)).trans (hKj j hj)) hen'.1 hen'.2.1 (matchS_spec hts' hen' h4) hR2
                  | ret => exact hk K' G' S' .ret T' E2 m' (by omega) (fun j hj => (hK' j (by omega)).trans (hKj j hj)) h1 hR' hG' hE' a' w' h4
                  | exit id => exact hk K' G' S' (.exit id) T' E2 m' (by omega) (fun j hj => (hK' j (by omega)).trans (hKj j hj)) h1 hR' hG' hE' a' w' h4
            exact wp_loop_rounds (m + 1) (key m _ _ a w (m + 1) (Nat.le_refl _) (by omega) (by simp [Stk.set]) (fun j hj => by simp [Stk.set]; omega) hen.1 hen.2.1 (matchS_spec hts hen hS) hR)
        · cases h
      · cases h
    · cases h
  | cond c x y ihx ihy =>
    intro d k Q K G S T E m a w hG hE hS h hR hk
    simp only [execL] at h
    split at h
    · rename_i tt hc
      obtain ⟨β, hS'⟩ := hS
      have hv := opnd_spec (E := E) (β := β) (w := w) hS'.sl hc
      have hSS : S.holds E n B w0 a w := ⟨β, hS'⟩
      obtain ⟨⟨l1, r1, h1, h2, h3⟩, _⟩ := hv
      simp only [Chunk.holds] at h2
      simp only [chunks] at h3
      subst h2 h3
      injection h1 with h1
      split at h
      · rename_i hev
        rw [BT.ev_spec hG hev] at h1
        exact wp_cond_true h1 (ihx d k Q K G S T E m a w hG hE hSS h hR hk)
      · rename_i hev
        rw [BT.ev_spec hG hev] at h1
        exact wp_cond_false h1 (ihy d k Q K G S T E m a w hG hE hSS h hR hk)
      · split at h
        · rename_i b1 b2 e1 e2
          split at h
          · rename_i t e ht he
            injection h with h
            subst h
            cases hR with
            | iteT hbv hR =>
              have hG2 := asm_cons hG hbv
              rw [BT.ev_spec hG2 e1] at h1
              cases b1 with
              | true => exact wp_cond_true h1 (ihx d k Q K _ S t E m a w hG2 hE hSS ht hR hk)
              | false => exact wp_cond_false h1 (ihy d k Q K _ S t E m a w hG2 hE hSS ht hR hk)
            | iteF hbv hR =>
              have hG2 := asm_cons hG hbv
              rw [BT.ev_spec hG2 e2] at h1
              cases b2 with
              | true => exact wp_cond_true h1 (ihx d k Q K _ S e E m a w hG2 hE hSS he hR hk)
              | false => exact wp_cond_false h1 (ihy d k Q K _ S e E m a w hG2 hE hSS he hR hk)
          · cases h
        · cases h
    · cases h
  | _ => intro d k Q K G S T E m a w hG hE hS h hR hk; simp [execL] at h

/-- A function with loops, called. -/
def funL (C : Cfg) (L : Nat → Option LInv) (fn : Func) (G : Asm) (args : List AV) : Option LTree :=
  match fn.body with
  | some c => execL C L fn.ntmps c 0 (fun _ S e => match e with
    | .norm => (resE C S fn.results.toList).map .leaf
    | .ret => (resE C S fn.results.toList).map .leaf
    | .exit _ => none) G ⟨fun t => args[t]?, fun _ => none⟩
  | none => none
def noStk : Stk := fun _ => none
theorem loops_sound (hm : P.follows .mixedOrders = true) (hC : ∀ E, Good E → CfgOK P E C) {E : Env} {G : Asm} (hG : G.holds E) (hE : Good E) {f : FuncId} {fn : Func} (hf : P.funcs[f]? = some fn) (h4 : fn.results.toList.length ≤ 4) {args : List AV} {T : LTree} (hT : funL C L fn G args = some T) (hn : args.length ≤ fn.ntmps) (hnp : args.all noPtr = true)
    {m : Nat} (hR : Run Good noStk T E m E' l) (w : World) (vs : List Value) (hl : vs.length = args.length) (hv : ∀ (i : Nat) (x : AV), args[i]? = some x → ∃ β v, vs[i]? = some v ∧ x.holds E β w v) (hwk : ∀ w', Ext w w' → C.wok w' := by intros; exact True.intro) :
    Calls P f vs.toArray w fun e w' => ∃ β v, e = .returned v ∧ (toAV l).holds E' β w' v ∧ Ext w w' := by
  unfold funL at hT
  split at hT
  · rename_i c hb
    refine calls_of_wp hf hb ?_
    refine execL_sound (B := w.heap.size) (w0 := w) (n := fn.ntmps) (E' := E') (l := l) hm (fun E hE => ⟨hC E hE, hwk⟩) c 0 _ _ noStk G _ T E m _ w hG hE ⟨fun _ => 0, ?_⟩ hT hR ?_
    · refine ⟨fun t x hx => ?_, fun x cs h => (by cases h), fun x y h => (by cases h), fun t x off h => ?_, ?_, rfl, Nat.le_refl _, Below.refl _ _, fun x cs h => (by cases h)⟩
      · obtain ⟨β, v, h1, h2⟩ := hv t x hx
        have hlt := (List.getElem?_eq_some_iff.1 h1).1
        have e : (vs.toArray ++ Array.replicate (fn.ntmps - vs.toArray.size) Go.undef).getD t Go.undef = v := by
          rw [Array.getD_eq_getD_getElem?, Array.getElem?_append_left (by simpa using hlt)]
          simp [h1]
        rw [e]
        have hnp' : noPtr x = true := List.all_eq_true.1 hnp x (List.mem_of_getElem? hx)
        cases x with
        | ptr y off => cases hnp'
        | _ => exact h2
      · have hnp' : noPtr (.ptr x off) = true := List.all_eq_true.1 hnp _ (List.mem_of_getElem? h)
        cases hnp'
      · simp; omega
    · intro K' G' S' e T' E1 m' hm' hK' h1 hR' hG' hE' a' w' h4'
      have fin : (resE C S' fn.results.toList).map LTree.leaf = some T' → a'.defers = [] ∧ ∃ v, (results fn a'.tmps).run P w' = .ok v w' ∧ (∃ β v', Ending.returned v = .returned v' ∧ (toAV l).holds E' β w' v' ∧ Ext w w') := by
        intro hh
        obtain ⟨l', hl, rfl⟩ := Option.map_eq_some_iff.1 hh
        cases hR' with
        | leaf =>
          obtain ⟨β, v, r1, r2⟩ := resE_sound (hC _ hE') h4' (fn := fn) (rs := fn.results.toList) (by simp) h4 hl
          obtain ⟨β', hS⟩ := h4'
          exact ⟨hS.nd, v, r1, β, v, rfl, r2, hS.bl⟩
      cases e with
      | norm => exact fin h1
      | ret => exact fin h1
      | exit id => cases h1
  · cases hT
end

end Go.Proofs.YtdblkeeicmncfaaGreat
end

/- ---- Cut ---- -/
section
/-
  strings.Cut, and what it asks of the world; contracts that ask something of the world.
-/
set_option maxRecDepth 100000
namespace Go.Proofs.YtdblkeeicmncfaaGreat
open Go.RowKit Go.Shelf

/-- A contract that asks something of the world. -/
structure ConW (P : Program) (W : World → Prop) (E : Env) (f : Nat) (k : Con) : Prop where
  calls : ∀ args G r, k args G = some r → G.holds E → ∀ (β : Nat → Nat) (w : World) (vs : List Value), W w → (∀ (i : Nat) (x : AV), args[i]? = some x → ∃ v, vs[i]? = some v ∧ x.holds E β w v) → vs.length = args.length →
    Calls P f vs.toArray w (fun e w' => ∃ v, e = .returned v ∧ r.holds E β w' v ∧ Ext w w')
  nptr : ∀ args G r, k args G = some r → ∀ x off, r ≠ .ptr x off
  body : ∃ fn, P.funcs[f]? = some fn ∧ fn.name ≠ "runtime.NumGoroutine" ∧ fn.body.isNone = false
theorem ConOK.toW {P : Program} {W : World → Prop} {E : Env} {f : Nat} {k : Con} (h : ConOK P E f k) : ConW P W E f k :=
  ⟨fun args G r hr hG β w vs _ hv hl => h.calls args G r hr hG β w vs hv hl, h.nptr, h.body⟩
structure TabW (P : Program) (W : World → Prop) (E : Env) (l : List (Nat × Con)) : Prop where
  all : ∀ p ∈ l, ConW P W E p.1 p.2
theorem TabW.nil {P : Program} {W : World → Prop} {E : Env} : TabW P W E [] := ⟨fun p h => by simp at h⟩
theorem TabW.cons {P : Program} {W : World → Prop} {E : Env} {f : Nat} {k : Con} {l : List (Nat × Con)} (h : ConW P W E f k) (t : TabW P W E l) : TabW P W E ((f, k) :: l) := ⟨fun p hp => by
  rcases List.mem_cons.1 hp with rfl | hp
  · exact h
  · exact t.all p hp⟩
theorem TabOK.toW {P : Program} {W : World → Prop} {E : Env} {l : List (Nat × Con)} (h : TabOK P E l) : TabW P W E l := ⟨fun p hp => (h.all p hp).toW⟩
def cfgW (W : World → Prop) (tab : List (Nat × Con)) : Cfg := { cfgOf tab with wok := W }
theorem cfgW_ok {E : Env} {W : World → Prop} {tab : List (Nat × Con)} (h : TabW Tryz.prog W E tab) : CfgOK Tryz.prog E (cfgW W tab) := by
  have k : CfgOK Tryz.prog E (cfgOf []) := cfg_ok .nil
  refine ⟨k.zero, k.ag, k.fld, k.flds, k.bool, k.row, k.arr, ?_, ?_, ?_, k.slc, k.strT, k.cnv, k.apd⟩
  · intro f args M G r hr hG β w vs hwk hv hlen hm
    obtain ⟨kk, hk, hkr⟩ := tabE_mem hr
    exact (h.all _ hk).calls args G r hkr hG β w vs hwk hv hlen
  · intro f args M G r hr x off
    obtain ⟨kk, hk, hkr⟩ := tabE_mem hr
    exact (h.all _ hk).nptr args G r hkr x off
  · intro f args M G r hr
    obtain ⟨kk, hk, hkr⟩ := tabE_mem hr
    exact (h.all _ hk).body

end Go.Proofs.YtdblkeeicmncfaaGreat
end

/- ---- Dig ---- -/
section
/-
  Decimal digits: which strings are numerals, and the value of at most nine digits.
-/
set_option maxRecDepth 100000
namespace Go.Proofs.YtdblkeeicmncfaaGreat
open Go.RowKit

def digB (c : UInt8) : Bool := decide (48 ≤ c.toNat) && decide (c.toNat ≤ 57)
/-- The value of digits. -/
def dv (l : List UInt8) : Nat := l.foldl (fun v c => v * 10 + (c.toNat - 48)) 0
def numB (l : List UInt8) : Bool := !l.isEmpty && (!(l.headD 0 == 48 && decide (1 < l.length)) && l.all digB)
theorem dv_snoc (l : List UInt8) (c : UInt8) : dv (l ++ [c]) = dv l * 10 + (c.toNat - 48) := by unfold dv; rw [List.foldl_append]; rfl
theorem dv_append (l r : List UInt8) : dv (l ++ r) = dv l * 10 ^ r.length + dv r := by
  induction r generalizing l with
  | nil => simp [dv]
  | cons c r ih =>
    have e1 : l ++ c :: r = (l ++ [c]) ++ r := by simp
    have e2 : dv (c :: r) = dv [c] * 10 ^ r.length + dv r := ih [c]
    rw [e1, ih, dv_snoc, e2, List.length_cons, Nat.pow_succ]
    have e3 : dv [c] = c.toNat - 48 := by simp [dv]
    rw [e3, Nat.add_mul, Nat.mul_assoc, Nat.mul_comm 10]
    omega
theorem dv_lt {l : List UInt8} (h : l.all digB = true) : dv l < 10 ^ l.length := by
  induction l with
  | nil => simp [dv]
  | cons c r ih =>
    simp only [List.all_cons, Bool.and_eq_true] at h
    have h1 := ih h.2
    have h2 := h.1
    unfold digB at h2
    rw [Bool.and_eq_true, decide_eq_true_iff, decide_eq_true_iff] at h2
    have e2 : dv (c :: r) = dv [c] * 10 ^ r.length + dv r := dv_append [c] r
    have e3 : dv [c] = c.toNat - 48 := by simp [dv]
    have h4 : (c.toNat - 48) * 10 ^ r.length ≤ 9 * 10 ^ r.length := Nat.mul_le_mul_right _ (by omega)
    rw [e2, e3, List.length_cons, Nat.pow_succ]
    omega
theorem bytes_len (s : ByteArray) : s.data.toList.length = s.size := Array.length_toList
theorem bytes_take (s : ByteArray) (k : Nat) (h : k < s.size) : s.data.toList.take (k + 1) = s.data.toList.take k ++ [s[k]] := by
  rw [List.take_succ_eq_append_getElem (by rw [bytes_len]; exact h)]; rfl
theorem bytes_all (s : ByteArray) : s.data.toList.take s.size = s.data.toList := List.take_of_length_le (by rw [bytes_len]; omega)

end Go.Proofs.YtdblkeeicmncfaaGreat
end

/- ---- Fmt ---- -/
section
/-
  Format: the decimal text of an integer.
-/
set_option maxRecDepth 100000
namespace Go.Proofs.YtdblkeeicmncfaaGreat
open Go.RowKit Go.Shelf

/-- The last k decimal digits. -/
def pad : Nat → Nat → List UInt8
  | 0, _ => []
  | k + 1, r => pad k (r / 10) ++ [UInt8.ofNat (48 + r % 10)]
theorem pad_length : ∀ (k r : Nat), (pad k r).length = k
  | 0, _ => rfl
  | k + 1, r => by simp [pad, pad_length k]
theorem dec_pad (q : Nat) (hq : 0 < q) : ∀ (k r : Nat), r < 10 ^ k → Lib.decDigits (q * 10 ^ k + r) = Lib.decDigits q ++ pad k r
  | 0, r, h => by
    have : r = 0 := by simpa using h
    subst this
    simp [pad]
  | k + 1, r, h => by
    have h10 : (10 : Nat) ^ (k + 1) = 10 * 10 ^ k := by rw [Nat.pow_succ, Nat.mul_comm]
    have hk : 0 < 10 ^ k := Nat.pow_pos (by omega)
    have e : q * 10 ^ (k + 1) + r = 10 * (q * 10 ^ k) + r := by rw [h10, Nat.mul_left_comm]
    have hge : 1 ≤ q * 10 ^ k := Nat.mul_pos hq hk
    rw [e, Lib.decDigits, dif_neg (by omega), show (10 * (q * 10 ^ k) + r) / 10 = q * 10 ^ k + r / 10 by omega, show (10 * (q * 10 ^ k) + r) % 10 = r % 10 by omega, dec_pad q hq k (r / 10) (by rw [h10] at h; omega)]
    rw [pad, List.append_assoc]
/-- The groups of nine digits below the top limb. -/
def groups : List Nat → List UInt8
  | [] => []
  | x :: xs => groups xs ++ pad 9 x
theorem dec_limbs (t : Nat) (ht : 0 < t) : ∀ (xs : List Nat), Dig xs → Lib.decDigits (val (xs ++ [t])) = Lib.decDigits t ++ groups xs
  | [], _ => by simp [val, groups]
  | x :: xs, h => by
    have hx := h.head
    have ih := dec_limbs t ht xs h.tail
    have hp : 0 < val (xs ++ [t]) := by
      have : 0 < val (xs ++ [t]) ∨ val (xs ++ [t]) = 0 := by omega
      rcases this with h | h
      · exact h
      · exfalso
        have h1 : val (xs ++ [t]) = val xs + 1000000000 ^ xs.length * val [t] := val_append xs [t]
        have h2 : 0 < 1000000000 ^ xs.length * val [t] := Nat.mul_pos (Nat.pow_pos (by omega)) (by simp [val]; omega)
        omega
    have e : val ((x :: xs) ++ [t]) = val (xs ++ [t]) * 10 ^ 9 + x := by
      show x + 1000000000 * val (xs ++ [t]) = _
      rw [show (10 : Nat) ^ 9 = 1000000000 from rfl]
      omega
    rw [e, dec_pad _ hp 9 x hx, ih, groups, List.append_assoc]
/-- The table of strconv's powers of ten is what it is. -/
def WT (w : World) : Prop := Lib.TabIs Tryz.prog w "internal/strconv.uint64pow10" .u64 Lib.pow10Tab
theorem WT.ext {w w' : World} (h : WT w) (e : Ext w w') : WT w' := Lib.tabBelow_of_tabIs h w' e
theorem info_u8 : (Tryz.prog.info? 5).map (fun i => (i.zero, i.size, i.bytes)) = some (some (.int .u8 0), 1, 1) := by kernel_rfl
theorem pad_cell (m : Nat) : Value.int .u8 (((UInt8.ofNat (48 + m % 10)).toNat : Nat) : Int) = .int .u8 (48 + (m : Int) % 10) := by
  rw [UInt8.toNat_ofNat', show (48 + m % 10) % 2 ^ 8 = 48 + m % 10 by omega]
  congr 1
theorem pad_cells (x : Nat) : (#[Value.int .u8 (48 + (x : Int) / 10 / 10 / 10 / 10 / 10 / 10 / 10 / 10 % 10), .int .u8 (48 + (x : Int) / 10 / 10 / 10 / 10 / 10 / 10 / 10 % 10), .int .u8 (48 + (x : Int) / 10 / 10 / 10 / 10 / 10 / 10 % 10), .int .u8 (48 + (x : Int) / 10 / 10 / 10 / 10 / 10 % 10), .int .u8 (48 + (x : Int) / 10 / 10 / 10 / 10 % 10), .int .u8 (48 + (x : Int) / 10 / 10 / 10 % 10), .int .u8 (48 + (x : Int) / 10 / 10 % 10), .int .u8 (48 + (x : Int) / 10 % 10), .int .u8 (48 + (x : Int) % 10)] : Array Value) = (Lib.byteCells (pad 9 x)).toArray := by
  simp only [pad, Lib.byteCells, List.map_append, List.map_cons, List.map_nil, pad_cell, List.nil_append, List.cons_append]
  rfl

/-- What the text is while the groups are appended. -/
def FmtRel (B : Nat) (W : World) (k : Nat) (sv : Value) (l : List UInt8) (wr : World) : Prop :=
  wr.ownsRow B 5 1 sv l.length (Lib.byteCells l) ∧ Below B W wr ∧ B ≤ wr.heap.size ∧ Hid (l.length + 9 * k ≤ 1000000)
theorem groups_drop (xs : List Nat) (k : Nat) (h : k < xs.length) : groups (xs.drop k) = groups (xs.drop (k + 1)) ++ pad 9 (xs.getD k 0) := by
  rw [List.drop_eq_getElem_cons h, groups, List.getD_eq_getElem?_getD, List.getElem?_eq_getElem h]
  rfl
theorem FmtRel.step {B : Nat} {W wr w' : World} {k : Nat} {sv v' : Value} {l m : List UInt8} (h : FmtRel B W (k + 1) sv l wr) (hm : m.length = 9) (ho : w'.ownsRow B 5 1 v' (l.length + 9) (Lib.byteCells l ++ Lib.byteCells m)) (hb : Below B wr w') : FmtRel B W k v' (l ++ m) w' := by
  obtain ⟨h1, h2, h3, h4⟩ := h
  refine ⟨?_, h2.trans hb, Nat.le_trans h3 hb.size, ?_⟩
  · rw [Lib.byteCells_append, List.length_append, hm]; exact ho
  · unfold Hid; have := h4.out; rw [List.length_append, hm]; omega
end Go.Proofs.YtdblkeeicmncfaaGreat
end

/- ---- Parse ---- -/
section
/-
  Parse, at every string.
-/
set_option maxRecDepth 100000
namespace Go.Proofs.YtdblkeeicmncfaaGreat
open Go.RowKit Go.Shelf

/-- A minus sign in front, and what stands behind it. -/
def negL (l : List UInt8) : Bool := Lib.hasPrefix l [45]
def digL (l : List UInt8) : List UInt8 := Lib.trimPrefix l [45]
theorem digL_len (l : List UInt8) : (digL l).length ≤ l.length := by
  unfold digL Lib.trimPrefix
  split
  · rw [List.length_drop]; omega
  · exact Nat.le_refl _
def parseOK (l : List UInt8) : Bool := decide (l.length ≤ 65536) && (numB (digL l) && !(negL l && digL l == [48]))
def parseV (l : List UInt8) : Int := sgn (negL l) (dv (digL l))
def RetParse (l : List UInt8) (w : World) (e : Ending) (w' : World) : Prop :=
  ∃ v, e = .returned (.tuple #[v, .int .i64 (if parseOK l then 0 else 2)]) ∧ IsInt w' v (if parseOK l then parseV l else 0) ∧ Ext w w'

theorem extract_list (D : ByteArray) (a b : Nat) : (D.extract a b).data.toList = (D.data.toList.take b).drop a := by
  rw [List.drop_take, ByteArray.data_extract, Array.toList_extract]
/-- What the loop of Parse keeps: the groups from the end, each in its place. -/
def ParseRel (w : World) (g : Nat) (D : List UInt8) (k : Nat) (zs : List Nat) (wr : World) : Prop :=
  zs.length = (D.length + 8) / 9 ∧ Dig zs ∧ Blk wr g zs ∧ Ext w wr ∧ val (zs.take k) = dv (D.drop (D.length - 9 * k))
theorem ParseRel.step {w : World} {g : Nat} {D : List UInt8} {k : Nat} {zs : List Nat} {wr : World} (h : ParseRel w g D k zs wr) (hg : w.heap.size ≤ g) (hk : k < zs.length) (hd : D.all digB = true) (x : Nat)
    (hx : x = dv ((D.take (D.length - 9 * k)).drop (D.length - 9 * k - 9))) : ParseRel w g D (k + 1) (zs.set k x) (wr.setCell ⟨g, k, none⟩ (.int .u32 (x : Int))) ∧ x < 1000000000 := by
  obtain ⟨h1, h2, h3, h4, h5⟩ := h
  have hL : 9 * k < D.length := by omega
  obtain ⟨e, he⟩ : ∃ e, e = D.length - 9 * k := ⟨_, rfl⟩
  rw [← he] at hx h5
  have hall : ((D.take e).drop (e - 9)).all digB = true := by
    rw [List.all_eq_true] at hd ⊢
    exact fun y hy => hd y (List.mem_of_mem_take (List.mem_of_mem_drop hy))
  have hxl : ((D.take e).drop (e - 9)).length ≤ 9 := by rw [List.length_drop, List.length_take]; omega
  have hxb : x < 1000000000 := by
    have := dv_lt hall
    rw [← hx] at this
    have h10 := Nat.pow_le_pow_right (n := 10) (by omega) hxl
    omega
  refine ⟨⟨by simpa using h1, h2.set k hxb, h3.set k x hk, h4.setCell (p := ⟨g, k, none⟩) hg _, ?_⟩, hxb⟩
  rw [val_take_set zs k x hk, h5]
  have hsplit : D.drop (D.length - 9 * (k + 1)) = (D.take e).drop (e - 9) ++ D.drop e := by
    rw [show D.length - 9 * (k + 1) = e - 9 by omega]
    rw [← List.drop_append_of_le_length (by rw [List.length_take]; omega), List.take_append_drop]
  rw [hsplit, dv_append, ← hx, List.length_drop, show D.length - e = 9 * k by omega, Nat.pow_mul, show (10 : Nat) ^ 9 = 1000000000 from rfl, Nat.mul_comm x]
  omega

end Go.Proofs.YtdblkeeicmncfaaGreat
end

/- ---- Rpa ---- -/
section
/-
  Parse of rational numbers, and their texts.
-/
set_option maxRecDepth 100000
namespace Go.Proofs.YtdblkeeicmncfaaGreat
open Go.RowKit Go.Shelf

/-- What a text says of an integer. -/
def pZ (l : List UInt8) : Int := if parseOK l then parseV l else 0
def pE (l : List UInt8) : Int := if parseOK l then 0 else 2
theorem digL_all {l : List UInt8} (h : parseOK l = true) : (digL l).all digB = true := by
  unfold parseOK at h
  simp only [Bool.and_eq_true] at h
  have := h.2.1
  unfold numB at this
  simp only [Bool.and_eq_true] at this
  exact this.2.2
theorem pZ_lim {l : List UInt8} {m : Nat} (h : l.length ≤ m) : Lim (m / 9 + 1) (pZ l) := by
  unfold pZ
  split
  · rename_i hok
    have h1 := dv_lt (digL_all hok)
    have h2 := digL_len l
    have h3 : (parseV l).natAbs = dv (digL l) := by
      unfold parseV sgn
      split <;> omega
    refine limbs_len_le ?_
    rw [h3]
    refine Nat.lt_of_lt_of_le h1 ?_
    rw [show (1000000000 : Nat) = 10 ^ 9 from rfl, ← Nat.pow_mul]
    exact Nat.pow_le_pow_right (by omega) (by omega)
  · exact lim_zero
theorem bytes_of (s : ByteArray) : (⟨s.data.toList.toArray⟩ : ByteArray) = s := rfl
/-- An environment of one text and two numbers. -/
def kPar0 : Con
  | [.val false [.str (.var 0) m]], _ => if decide (m ≤ 65536) then some (.tup [(true, [.int (.var 0) 7282]), (false, [.n .i64 (.var 1)])]) else none
  | _, _ => none
def sE (ls : List (List UInt8)) (zs : List Int) (bs : List Bool) : Env := ⟨fun i => zs.getD i 0, fun i => bs.getD i false, fun _ => (false, []), fun i => ls.getD i []⟩
theorem one_str {E : Env} {w : World} {t : ST} {m : Nat} {v : Value} : one E w (false, [.str t m]) v ↔ v = .string ⟨(t.den E).toArray⟩ ∧ (t.den E).length ≤ m := by
  constructor
  · rintro ⟨⟨x, y, e1, ⟨e2, e3⟩, e4⟩, _⟩
    simp only [chunks] at e4
    subst e2 e4
    injection e1 with e1
    exact ⟨e1, e3⟩
  · rintro ⟨rfl, h⟩
    exact ⟨⟨[_], [], rfl, ⟨rfl, h⟩, rfl⟩, rfl⟩
theorem open_ib {E : Env} {β : Nat → Nat} {w : World} {v : Value} {x : IT} {k : Nat} {t : BT} (hx : (AV.tup [(true, [.int x k]), (false, [.b t])]).holds E β w v) : ∃ p, v = .tuple #[p, .bool (t.den E)] ∧ IsInt w p (x.den E) := by
  obtain ⟨vs, rfl, u1, r1, rfl, k1, u2, r2, rfl, k2, hn⟩ := hx
  simp only [tupAll] at hn
  subst hn
  have k2' := one_bool.1 k2
  subst k2'
  exact ⟨u1, rfl, (one_int.1 k1).1⟩
/-- What a text says of a rational number. -/
def qNT (l : List UInt8) : List UInt8 := (Lib.cut l [47]).1
def qDT (l : List UInt8) : List UInt8 := (Lib.cut l [47]).2.1
def qSl (l : List UInt8) : Bool := (Lib.cut l [47]).2.2
def coB (n d : Int) : Bool := decide (0 < d) && ((Nat.gcd n.natAbs d.natAbs : Nat) : Int) == 1
def qOK (l : List UInt8) : Bool :=
  if qSl l then parseOK (qNT l) && (parseOK (qDT l) && (!(pZ (qDT l) == 1) && coB (pZ (qNT l)) (pZ (qDT l)))) else parseOK (qNT l)
def qNV (l : List UInt8) : Int := if qOK l then pZ (qNT l) else 0
def qDV (l : List UInt8) : Int := if qOK l then (if qSl l then pZ (qDT l) else 1) else 0
def qEV (l : List UInt8) : Int := if qOK l then 0 else 2
theorem cut_len1 (l s : List UInt8) : (Lib.cut l s).1.length ≤ l.length := by
  unfold Lib.cut
  split
  · show (List.take _ l).length ≤ _
    rw [List.length_take]; omega
  · exact Nat.le_refl _
theorem cut_len2 (l s : List UInt8) : (Lib.cut l s).2.1.length ≤ l.length := by
  unfold Lib.cut
  split
  · show (List.drop _ l).length ≤ _
    rw [List.length_drop]; omega
  · exact Nat.zero_le _
def kCut : Con
  | [.val false [.str (.var 0) l], .val false [.str (.lit s) _]], _ => if s == [47] && decide (l ≤ 1000000) then some (.tup [(false, [.str (.var 1) l]), (false, [.str (.var 2) l]), (false, [.b (.var 0)])]) else none
  | _, _ => none
def kPI : Con
  | [.val false [.str (.var i) m]], _ => if decide (m ≤ 65536) then (if i == 1 then some (.tup [(true, [.int (.var 0) 7282]), (false, [.b (.var 1)])]) else if i == 2 then some (.tup [(true, [.int (.var 1) 7282]), (false, [.b (.var 2)])]) else none) else none
  | [.val false [.str (.lit s) _]], _ => if s == [49] then some (.tup [(true, [.int (.lit 1) 1]), (false, [.b (.lit true)])]) else none
  | _, _ => none
def pqE (l : List UInt8) : Env := sE [l, qNT l, qDT l] [pZ (qNT l), pZ (qDT l)] [qSl l, parseOK (qNT l), parseOK (qDT l)]
theorem p49 : parseOK [49] = true ∧ pZ [49] = 1 := by decide +kernel
def tPQbad : Tree := .leaf [(true, [.int (.lit 0) 0, .int (.lit 0) 0]), (false, [.n .i64 (.lit 2)])]
def tPQ : Tree := .ite (.var 0)
  (.ite (.var 1) (.ite (.var 2) (.ite (.eq (.var 1) (.lit 1)) tPQbad (.ite (.and (.lt (.lit 0) (.var 1)) (.eq (.a2 6 (.var 0) (.var 1)) (.lit 1))) (.leaf [(true, [.int (.var 0) 7282, .int (.var 1) 7282]), (false, [.n .i64 (.lit 0)])]) tPQbad)) tPQbad) tPQbad)
  (.ite (.var 1) (.ite (.and (.lt (.lit 0) (.lit 1)) (.eq (.a2 6 (.var 0) (.lit 1)) (.lit 1))) (.leaf [(true, [.int (.var 0) 7282, .int (.lit 1) 1]), (false, [.n .i64 (.lit 0)])]) tPQbad) tPQbad)
def RetPQ (l : List UInt8) (w : World) (e : Ending) (w' : World) : Prop := ∃ v, e = .returned (.tuple #[v, .int .i64 (qEV l)]) ∧ IsPair w' v (qNV l) (qDV l) ∧ Ext w w'
end Go.Proofs.YtdblkeeicmncfaaGreat
end

/- ---- Raw ---- -/
section
/-
  The examples of rational numbers: the laws' helper awake returns true.
-/
set_option maxRecDepth 100000
namespace Go.Proofs.YtdblkeeicmncfaaGreat
open Go.RowKit Go.Shelf

theorem nDigits_le : ∀ (k u : Nat), u < 10 ^ (k + 1) → Lib.nDigits u ≤ k + 1
  | 0, u, h => by rw [Lib.nDigits_small (by simpa using h)]; exact Nat.le_refl _
  | k + 1, u, h => by
    by_cases h1 : u < 10
    · rw [Lib.nDigits_small h1]; omega
    · rw [Lib.nDigits_big h1]
      have := nDigits_le k (u / 10) (by rw [Nat.pow_succ] at h; omega)
      omega
theorem itoa_len {l : Nat} {z : Int} (h : Lim l z) : (Lib.itoa z).length ≤ 9 * l + 2 := by
  have h1 := lt_of_limbs_len h
  have h2 : (Lib.decDigits z.natAbs).length ≤ 9 * l + 1 := by
    rw [Lib.decDigits_length]
    refine nDigits_le (9 * l) _ (Nat.lt_of_lt_of_le h1 ?_)
    rw [show (1000000000 : Nat) = 10 ^ 9 from rfl, ← Nat.pow_mul]
    exact Nat.pow_le_pow_right (by omega) (by omega)
  unfold Lib.itoa
  split
  · simp only [List.length_cons]; omega
  · rename_i hz
    rw [show z.toNat = z.natAbs by omega]; omega
def kFmt : Con
  | [.val true [.int x l]], _ => if decide (l ≤ 100000) then some (.val false [.str (.fmt x) (9 * l + 2)]) else none
  | _, _ => none
/-- The text of a rational number. -/
def fmtQ (n d : Int) : List UInt8 := if d = 1 then Lib.itoa n else Lib.itoa n ++ [47] ++ Lib.itoa d
/-- Short texts, reckoned. -/
def dgC (z : Int) : List UInt8 := (if z < 0 then [45] else []) ++ [UInt8.ofNat (48 + z.natAbs)]
def fmtC (n d : Int) : List UInt8 := if d == 1 then dgC n else dgC n ++ [47] ++ dgC d
theorem dgC_eq {z : Int} (h : z.natAbs < 10) : Lib.itoa z = dgC z := by
  unfold Lib.itoa dgC
  split
  · rw [Lib.decDigits_one h]; rfl
  · rw [show z.toNat = z.natAbs by omega, Lib.decDigits_one h]; rfl
theorem fmtC_eq {n d : Int} (h1 : n.natAbs < 10) (h2 : d.natAbs < 10) : fmtQ n d = fmtC n d := by
  unfold fmtQ fmtC
  rw [dgC_eq h1, dgC_eq h2]
  by_cases hd : d = 1
  · rw [if_pos hd, if_pos (by simpa using hd)]
  · rw [if_neg hd, if_neg (by simpa using hd)]
def kFmtL : Con
  | [.val true [.int x l, .int y m]], _ => match x.cl, y.cl with
    | some n, some d => if decide (n.natAbs < 10) && (decide (d.natAbs < 10) && (decide (l ≤ 100000) && decide (m ≤ 100000))) then some (.val false [.str (.lit (fmtC n d)) (fmtC n d).length]) else none
    | _, _ => none
  | _, _ => none
/-- text. -/
def kPQ0 : Con
  | [.val false [.str (.var 0) m]], _ => if decide (m ≤ 65536) then some (.tup [(true, [.int (.var 0) 7283, .int (.var 1) 7283]), (false, [.n .i64 (.var 2)])]) else none
  | _, _ => none
theorem qNV_lim {l : List UInt8} (h : l.length ≤ 65536) : Lim 7283 (qNV l) ∧ Lim 7283 (qDV l) := by
  have h1 := pZ_lim (Nat.le_trans (cut_len1 l [47]) h)
  have h2 := pZ_lim (Nat.le_trans (cut_len2 l [47]) h)
  unfold qNV qDV
  constructor
  · split
    · exact h1.mono (by omega)
    · exact lim_zero
  · split
    · split
      · exact h2.mono (by omega)
      · exact (lim1 (by decide)).mono (by omega)
    · exact lim_zero
def llen (z : Int) : Nat := (limbs z.natAbs).length
def kText : Con
  | [.val false [.str (.lit l) _]], _ => if decide (l.length ≤ 65536) then some (.val true [.int (.lit (qNV l)) (llen (qNV l)), .int (.lit (qDV l)) (llen (qDV l))]) else none
  | _, _ => none
/-- Square roots. -/
def sqN (n d : Int) (z : Int) : Int := if sqB n && sqB d then isq z else 0
def tSq : Tree := .ite (.and (.eq (.a1 3 (.var 0)) (.lit 0)) (.eq (.a2 3 (.a2 2 (.a1 2 (.var 0)) (.a1 2 (.var 0))) (.var 0)) (.lit 0)))
  (.ite (.and (.eq (.a1 3 (.var 1)) (.lit 0)) (.eq (.a2 3 (.a2 2 (.a1 2 (.var 1)) (.a1 2 (.var 1))) (.var 1)) (.lit 0))) (.leaf [(true, [.int (.a1 2 (.var 0)) 100000, .int (.a1 2 (.var 1)) 100000]), (false, [.b (.lit true)])])
    (.leaf [(true, [.int (.lit 0) 0, .int (.lit 0) 0]), (false, [.b (.lit false)])]))
  (.leaf [(true, [.int (.lit 0) 0, .int (.lit 0) 0]), (false, [.b (.lit false)])])
def RetSqQ (n d : Int) (w : World) (e : Ending) (w' : World) : Prop := ∃ v, e = .returned (.tuple #[v, .bool (sqB n && sqB d)]) ∧ IsPair w' v (sqN n d n) (sqN n d d) ∧ Ext w w'
theorem open_qb {E : Env} {β : Nat → Nat} {w : World} {v : Value} {x y : IT} {k m : Nat} {t : BT} (hx : (AV.tup [(true, [.int x k, .int y m]), (false, [.b t])]).holds E β w v) : ∃ p, v = .tuple #[p, .bool (t.den E)] ∧ IsPair w p (x.den E) (y.den E) := by
  obtain ⟨vs, rfl, u1, r1, rfl, k1, u2, r2, rfl, k2, hn⟩ := hx
  simp only [tupAll] at hn
  subst hn
  have k2' := one_bool.1 k2
  subst k2'
  exact ⟨u1, rfl, (one_pair.1 k1).1⟩
theorem sqrtQ_calls (w : World) (v : Value) (n d : Int) (h : IsPair w v n d) (l1 : Lim 100000 n) (l2 : Lim 100000 d) : Calls Tryz.prog 59 #[v] w (RetSqQ n d w) := by
  refine (fun_sound (C := cfgOf tabSqr) (E := zE [n, d]) (args := [argQ 0]) (T := tSq)
    mixed (cfg_ok tabSqr_ok) no_asm Tryz.func59 (by decide +kernel) (by kernel_rfl) (by decide +kernel) rfl w [v] rfl ?_).mono ?_
  · intro i x hx
    match i, hx with
    | 0, hx => injection hx with hx; subst hx; exact ⟨fun _ => 0, v, rfl, argP_holds h l1 l2 rfl rfl⟩
  · rintro e w' ⟨β, u, rfl, hh, ex⟩
    have d0 : (BT.and (.eq (.a1 3 (.var 0)) (.lit 0)) (.eq (.a2 3 (.a2 2 (.a1 2 (.var 0)) (.a1 2 (.var 0))) (.var 0)) (.lit 0))).den (zE [n, d]) = sqB n := rfl
    have d1 : (BT.and (.eq (.a1 3 (.var 1)) (.lit 0)) (.eq (.a2 3 (.a2 2 (.a1 2 (.var 1)) (.a1 2 (.var 1))) (.var 1)) (.lit 0))).den (zE [n, d]) = sqB d := rfl
    unfold tSq at hh
    simp only [Tree.pick, d0, d1] at hh
    unfold RetSqQ sqN
    cases h0 : sqB n <;> cases h1 : sqB d <;> rw [h0, h1] at hh
    · obtain ⟨p, rfl, hp⟩ := open_qb hh
      exact ⟨p, rfl, hp, ex⟩
    · obtain ⟨p, rfl, hp⟩ := open_qb hh
      exact ⟨p, rfl, hp, ex⟩
    · obtain ⟨p, rfl, hp⟩ := open_qb hh
      exact ⟨p, rfl, hp, ex⟩
    · obtain ⟨p, rfl, hp⟩ := open_qb hh
      exact ⟨p, rfl, hp, ex⟩
def kSqrtL : Con
  | [.val true [.int (.lit n) l, .int (.lit d) m]], _ => if decide (l ≤ 100000) && decide (m ≤ 100000) then
      some (.tup [(true, [.int (.lit (sqN n d n)) (llen (sqN n d n)), .int (.lit (sqN n d d)) (llen (sqN n d d))]), (false, [.b (.lit (sqB n && sqB d))])]) else none
  | _, _ => none
theorem kSqrtL_ok {E : Env} : ConOK Tryz.prog E 59 kSqrtL := by
  refine ⟨?_, ?_, ⟨_, Tryz.func59, by decide +kernel, by kernel_rfl⟩⟩
  · intro args As r h hG β w vs hv hlen
    unfold kSqrtL at h
    split at h
    · split at h
      · rename_i hm
        simp only [Bool.and_eq_true, decide_eq_true_iff] at hm
        injection h with h
        subst h
        obtain ⟨v, rfl, h1⟩ := args1 hv hlen
        obtain ⟨p1, a1, a2⟩ := one_pair.1 h1
        refine (sqrtQ_calls w v _ _ p1 (a1.mono hm.1) (a2.mono hm.2)).mono ?_
        rintro e w' ⟨u, rfl, hp, ex⟩
        exact ⟨_, rfl, ⟨[u, .bool _], rfl, u, _, rfl, one_pair.2 ⟨hp, Nat.le_refl _, Nat.le_refl _⟩, _, _, rfl, one_bool.2 rfl, rfl⟩, ex⟩
      · cases h
    · cases h
  · intro args As r h x off
    unfold kSqrtL at h
    split at h
    · split at h
      · injection h with h; subst h; intro e; cases e
      · cases h
    · cases h
/-- Simplest, at the three examples. -/
def kSimL : Con
  | [.val true [.int (.lit a) _, .int (.lit b) _], .val true [.int (.lit c) _, .int (.lit d) _]], _ =>
    if a == 3 && (b == 10 && (c == 2 && d == 5)) then some (.tup [(true, [.int (.lit 1) 1, .int (.lit 3) 1]), (false, [.n .i64 (.lit 0)])])
    else if a == -5 && (b == 2 && (c == 7 && d == 2)) then some (.tup [(true, [.int (.lit 0) 1, .int (.lit 1) 1]), (false, [.n .i64 (.lit 0)])])
    else if a == 2 && (b == 1 && (c == 3 && d == 1)) then some (.tup [(true, [.int (.lit 5) 1, .int (.lit 2) 1]), (false, [.n .i64 (.lit 0)])]) else none
  | _, _ => none
/-- Floor. -/
def kFlQ : Con
  | [.val true [.int x l, .int y m]], _ => if canon x y && (ql l && ql m) then some (.val true [.int (.a2 4 x y) l]) else none
  | _, _ => none
theorem kFlQ_ok {E : Env} (hE : QEnv E) : ConOK Tryz.prog E 85 kFlQ := by
  refine ⟨?_, ?_, ⟨_, Tryz.func85, by decide +kernel, by kernel_rfl⟩⟩
  · intro args As r h hG β w vs hv hlen
    unfold kFlQ at h
    split at h
    · split at h
      · rename_i hm
        simp only [ql, Bool.and_eq_true, decide_eq_true_iff] at hm
        obtain ⟨c1, b1, b2⟩ := hm
        injection h with h
        subst h
        obtain ⟨v, rfl, h1⟩ := args1 hv hlen
        obtain ⟨q, _, e1, e2, hq, m1, m2⟩ := one_ratQ hE c1 h1
        refine (floor_rat_calls w v q hq ⟨m1.mono b1, m2.mono b2⟩).mono ?_
        rintro e w' ⟨u, rfl, hI, ex⟩
        refine ⟨_, rfl, one_int.2 ⟨?_, ?_⟩, ex⟩
        · show IsInt w' u (dq _ _)
          rw [e1, e2]; exact hI
        · show Lim _ (dq _ _)
          rw [e1, e2]; exact m1.natAbs_le (dq_abs _ _)
      · cases h
    · cases h
  · intro args As r h x off
    unfold kFlQ at h
    split at h
    · split at h
      · injection h with h; subst h; intro e; cases e
      · cases h
    · cases h
end Go.Proofs.YtdblkeeicmncfaaGreat
end

/- ---- Rfc ---- -/
section
/-
  RationalOrder and RationalFloor.
-/
set_option maxRecDepth 100000
namespace Go.Proofs.YtdblkeeicmncfaaGreat
open Go.RowKit

def sgQ (q : Rat) : Int := cmpZ q.num 0
theorem num_pos_iff (q : Rat) : 0 < q.num ↔ 0 < q := by
  have h1 : 0 ≤ q.num ↔ 0 ≤ q := Rat.num_nonneg
  have h2 : q.num = 0 ↔ q = 0 := Rat.num_eq_zero
  constructor
  · intro h
    have a := h1.1 (by omega)
    have b : q ≠ 0 := fun e => by have := h2.2 e; omega
    grind
  · intro h
    have a := h1.2 (by grind)
    have b : q.num ≠ 0 := fun e => by have := h2.1 e; grind
    omega
theorem sgQ_cases (q : Rat) : (q < 0 ∧ sgQ q = -1) ∨ (q = 0 ∧ sgQ q = 0) ∨ (0 < q ∧ sgQ q = 1) := by
  have h1 := num_pos_iff q
  have h2 : q.num = 0 ↔ q = 0 := Rat.num_eq_zero
  unfold sgQ
  rcases cmpZ_cases q.num 0 with ⟨h, e⟩ | ⟨h, e⟩ | ⟨h, e⟩
  · refine .inl ⟨?_, e⟩
    have a : ¬ 0 < q := fun k => by have := h1.2 k; omega
    have b : q ≠ 0 := fun k => by have := h2.2 k; omega
    grind
  · exact .inr (.inl ⟨h2.1 h, e⟩)
  · exact .inr (.inr ⟨h1.1 h, e⟩)
theorem sgQ_pos {q : Rat} (h : 0 < q) : sgQ q = 1 := by rcases sgQ_cases q with ⟨k, e⟩ | ⟨k, e⟩ | ⟨k, e⟩ <;> grind
theorem sgQ_neg' {q : Rat} (h : q < 0) : sgQ q = -1 := by rcases sgQ_cases q with ⟨k, e⟩ | ⟨k, e⟩ | ⟨k, e⟩ <;> grind
theorem sgQ_zero : sgQ 0 = 0 := rfl
theorem sgQ_opp (q : Rat) : sgQ (-q) = - sgQ q := by
  rcases sgQ_cases q with ⟨k, e⟩ | ⟨k, e⟩ | ⟨k, e⟩
  · rw [e, sgQ_pos (by grind)]; rfl
  · rw [e, k]; rfl
  · rw [e, sgQ_neg' (by grind)]
theorem sgQ_mul (a b : Rat) : sgQ (a * b) = sgQ a * sgQ b := by
  rcases sgQ_cases a with ⟨k, e⟩ | ⟨k, e⟩ | ⟨k, e⟩ <;> rcases sgQ_cases b with ⟨j, f⟩ | ⟨j, f⟩ | ⟨j, f⟩ <;> rw [e, f]
  · have := Rat.mul_pos (a := -a) (b := -b) (by grind) (by grind)
    rw [sgQ_pos (by grind)]; rfl
  · rw [j, Rat.mul_zero]; rfl
  · have := Rat.mul_pos (a := -a) (b := b) (by grind) (by grind)
    rw [sgQ_neg' (by grind)]; rfl
  · rw [k, Rat.zero_mul]; rfl
  · rw [k, Rat.zero_mul]; rfl
  · rw [k, Rat.zero_mul]; rfl
  · have := Rat.mul_pos (a := a) (b := -b) (by grind) (by grind)
    rw [sgQ_neg' (by grind)]; rfl
  · rw [j, Rat.mul_zero]; rfl
  · rw [sgQ_pos (Rat.mul_pos k j)]; rfl
theorem cmpQ_sub (a b : Rat) : cmpZ (a.num * (b.den : Int)) (b.num * (a.den : Int)) = sgQ (a - b) := by
  have h1 := Rat.lt_iff a b
  have h2 := Rat.lt_iff b a
  rcases cmpZ_cases (a.num * (b.den : Int)) (b.num * (a.den : Int)) with ⟨h, e⟩ | ⟨h, e⟩ | ⟨h, e⟩
  · have := h1.2 h
    rw [e, sgQ_neg' (by grind)]
  · have k1 : ¬ a < b := fun k => by have := h1.1 k; omega
    have k2 : ¬ b < a := fun k => by have := h2.1 k; omega
    have : a - b = 0 := by grind
    rw [e, this]; rfl
  · have := h2.2 h
    rw [e, sgQ_pos (by grind)]
def qcmp (p q : IT2) : IT := .a2 3 (.a2 2 p.1 q.2) (.a2 2 q.1 p.2)
theorem rep_cmp {E : Env} {p q : IT2} {a b : Rat} (hp : RepQ E p a) (hq : RepQ E q b) : (qcmp p q).den E = sgQ (a - b) := by
  show cmpZ (p.1.den E * q.2.den E) (q.1.den E * p.2.den E) = _
  rw [hp.1, hp.2, hq.1, hq.2, cmpQ_sub]
def ordT : Tree :=
  .ite (.eq (qcmp (qv 1) (qv 0)) (.a1 0 (qcmp (qv 0) (qv 1))))
    (.ite (.eq (qcmp (qop 0 (qv 0) (qv 2)) (qop 0 (qv 1) (qv 2))) (qcmp (qv 0) (qv 1)))
      (leafB (.eq (qcmp (qop 2 (qv 0) (qv 2)) (qop 2 (qv 1) (qv 2))) (.a2 2 (qcmp (qv 0) (qv 1)) (.a2 3 (.var 4) (.lit 0)))))
      (leafB (.lit false))) (leafB (.lit false))
theorem eq_den {E : Env} {s t : IT} {x y : Int} (h : s.den E = x) (k : t.den E = y) (e : x = y) : (BT.eq s t).den E = true := by
  show (s.den E == t.den E) = true
  rw [h, k, e]; simp
/-- Floor. -/
theorem rvalidI_calls (w : World) (v : Value) (z : Int) (h : IsInt w v z) : Calls Tryz.prog 105 #[v] w fun e w' => e = .returned (.bool true) ∧ Ext w w' := by
  obtain ⟨k1, k2⟩ := int_raw h
  have := rvalid_calls w v _ _ k1
  rw [k2] at this
  exact this
def kFI : Con
  | [.val true [.int x l]], _ => if lo l then some (.val true [.int x l, .int (.lit 1) 3]) else none
  | _, _ => none
def flQ : IT2 := (.a2 4 (.var 0) (.var 1), .lit 1)
def flT : Tree :=
  .ite (.le (.lit 0) (.a2 3 (qop 1 (qv 0) flQ).1 (.lit 0))) (leafB (.lt (qcmp (qop 1 (qv 0) flQ) (.lit 1, .lit 1)) (.lit 0))) (leafB (.lit false))
end Go.Proofs.YtdblkeeicmncfaaGreat
end

/- ---- Rsq ---- -/
section
/-
  Sqrt of the reference.
-/
set_option maxRecDepth 100000
namespace Go.Proofs.YtdblkeeicmncfaaGreat
open Go.RowKit

/-- What an append of limbs to a slice of the call's own leaves. -/
theorem run_append_own_limbs (w : World) (B : Nat) (hB : B ≤ w.heap.size) (ty : TypeId) (v : Value) (zs : List Nat) (lz : zs.length ≤ 1099511627776) (hz : 0 < zs.length) (hown : w.ownsRow B 112 1 v zs.length (zs.map fun x => Value.int .u32 ((x : Nat) : Int))) (b : Nat) (xs : List Nat) (c : Nat) (lx : xs.length ≤ 1099511627776)
    (h : ∀ i, i < xs.length → w.cell? ⟨b, i, none⟩ = some (.int .u32 ((xs.getD i 0 : Nat) : Int))) :
    ∃ ao' cap w1, (Builtin.append_ #[22, 22] ty #[v, .slice (some ⟨b, 0, none⟩) xs.length c]).run Tryz.prog w = .ok (.slice ao' (zs.length + xs.length) cap) w1 ∧
      zs.length + xs.length ≤ cap ∧ cap ≤ 9223372036854775807 ∧ Below B w w1 ∧ Cells w1 ao' (zs ++ xs) := by
  obtain ⟨i0, hi, hz0, hz1, hz2⟩ := info_parts info_u32
  have hnews : ∀ j u, (xs.map fun x => Value.int .u32 ((x : Nat) : Int))[j]? = some u → w.cell? ((⟨b, 0, none⟩ : Addr).add j) = some u := by
    intro j u hu
    rw [List.getElem?_map] at hu
    obtain ⟨x, hx1, rfl⟩ := Option.map_eq_some_iff.1 hu
    have hj : j < xs.length := (List.getElem?_eq_some_iff.1 hx1).1
    have := h j hj
    rw [List.getD_eq_getElem?_getD, hx1] at this
    by_cases h0 : j = 0
    · subst h0; simpa [Addr.add] using this
    · simpa [Addr.add, h0] using this
  obtain ⟨v', w1, hrun, hown1, hgrow, hnil⟩ := run_append_own (P := Tryz.prog) w B 22 ty 112 i0 (.int .u32 0) 1 4 Tryz.underlying22 hi hz0 hz1 hz2 rfl (by decide) _ _ _ hown ⟨b, 0, none⟩ xs.length c (xs.map fun x => Value.int .u32 ((x : Nat) : Int)) (by simp) hnews
    (by intro u hu; obtain ⟨x, _, rfl⟩ := List.mem_map.1 hu; rfl) (by unfold maxLen; omega) (by omega) hB
  rw [← List.map_append, ← List.length_append] at hown1
  have hE : Below B w w1 := Below.grown (Below.refl _ _) hgrow hB (fun k hk => (hown.lt k hk).1)
  rcases hown1.2 with ⟨rfl, h0⟩ | ⟨g, cap, cur, rfl, hg, _, hnc, hcm, _, _⟩
  · exfalso
    rw [List.length_append] at h0
    omega
  · rw [List.length_append] at hnc
    exact ⟨_, cap, w1, by rw [hrun, List.length_append], hnc, by unfold maxLen at hcm; omega, hE, (Blk.of_owns hown1).cells⟩

/-- The rounds. -/
def sqI : LInv where
  lk := [(1, .ptr 1 0), (2, .ptr 2 0), (4, .ptr 4 0), (5, .ptr 5 0)]
  vr := [(1, [.int (.var 0) 100000]), (2, [.int (.lit 0) 0]), (4, [.int (.var 1) 100001]), (5, [.int (.lit 2) 3])]
  vs := [1]
  G := []
  lm := [(1, 100001)]
def sqNext : IT := .a2 4 (.a2 0 (.var 1) (.a2 4 (.var 0) (.var 1))) (.lit 2)
def sqLeaf : List (Bool × List Chunk) := [(true, [.int (.var 1) 100001]), (false, [.n .i64 (.lit 0)])]
def sqTree : LTree := .ite (.le (.lit 0) (.a2 3 sqNext (.var 1))) (.leaf sqLeaf) (.again 0 [sqNext])
def tabRsq : List (Nat × Con) := [(96, kDM), (95, kII (.a2 0) (fun l m => max l m + 1)), (107, kIIn (.a2 3))]
theorem rcmp_calls' (w : World) (v1 v2 : Value) (z1 z2 : Int) (h1 : IsInt w v1 z1) (h2 : IsInt w v2 z2) : Calls Tryz.prog 107 #[v1, v2] w fun e w' => e = .returned (.int .i64 (cmpZ z1 z2)) ∧ Ext w w' := rcmp_calls w v1 v2 z1 z2 h1 h2
theorem tabRsq_ok {E : Env} : TabOK Tryz.prog E tabRsq :=
  .cons (kDMg_ok (fun w v u a b h k l1 l2 => rdivMod_fn w v u a b h k l1 l2) ⟨_, Tryz.func96, by decide +kernel, by kernel_rfl⟩)
    (.cons (tabR1_ok.all (95, kII (.a2 0) (fun l m => max l m + 1)) (by simp [tabR1]))
      (.cons (kIIn_ok cmpZ (fun _ _ => rfl) (fun w v1 v2 z1 z2 h1 h2 => rcmp_calls w v1 v2 z1 z2 h1 h2) ⟨_, Tryz.func107, by decide +kernel, by kernel_rfl⟩) .nil))

/-- A variable that was just made. -/
theorem VarAt.new {E : Env} {w : World} {cs : List Chunk} {vs : List Value} {t : TypeId} (h : chunks E w cs vs) : VarAt E (w.alloc (.cells vs.toArray t)) w.heap.size cs := by
  have hk := Kp.of (B := w.heap.size) ((Ext.refl w).alloc (.cells vs.toArray t)) (Nat.le_refl _)
  have hh : (w.alloc (.cells vs.toArray t)).heap[w.heap.size]? = some (.cells vs.toArray t (0, 0)) := heap_alloc_new w _
  refine ⟨vs, chunks_keep hk h, fun i v hi => ⟨?_, ?_⟩⟩
  · simp only [World.cell?, hh]
    simpa using hi
  · simp only [World.frozen?, hh]
    simp
theorem chunks_int {E : Env} {w : World} {x y : Value} {t : IT} {l : Nat} {z : Int} (h : IsInt w (.agg #[x, y]) z) (hz : t.den E = z) (hl : Lim l z) : chunks E w [.int t l] [x, y] :=
  ⟨[x, y], [], rfl, ⟨x, y, rfl, by rw [hz]; exact h, by rw [hz]; exact hl⟩, rfl⟩
/-- Newton's method from above ends at the root. -/
theorem sq_run (n : Nat) (hn : 0 < n) : ∀ (x : Nat), 0 < x → n < (x + 1) * (x + 1) → Lim 100001 (x : Int) → ∃ m E', Run (fun _ => True) (noStk.set 0 (sqI, sqTree)) sqTree ((zE [(n : Int), 0]).upd [1] [(x : Int)]) m E' sqLeaf ∧ E'.i 1 = (isqN n : Int) := by
  intro x
  induction x using Nat.strongRecOn with
  | ind x ih =>
    intro hx hu hl
    have hq : dq (n : Int) (x : Int) = ((n / x : Nat) : Int) := by rw [dq_pos (by omega)]; exact (Int.natCast_ediv n x).symm
    have hy : sqNext.den ((zE [(n : Int), 0]).upd [1] [(x : Int)]) = (((x + n / x) / 2 : Nat) : Int) := by
      show dq ((x : Int) + dq (n : Int) (x : Int)) 2 = _
      rw [hq, dq_pos (by omega)]
      omega
    have hc : (IT.a2 3 sqNext (.var 1)).den ((zE [(n : Int), 0]).upd [1] [(x : Int)]) = cmpZ (((x + n / x) / 2 : Nat) : Int) (x : Int) := by
      show cmpZ (sqNext.den _) (x : Int) = _
      rw [hy]
    by_cases hge : x ≤ (x + n / x) / 2
    · refine ⟨0, _, .iteT ?_ .leaf, ?_⟩
      · show decide ((0 : Int) ≤ (IT.a2 3 sqNext (.var 1)).den _) = true
        rw [hc, decide_eq_true_iff]
        rcases cmpZ_cases (((x + n / x) / 2 : Nat) : Int) (x : Int) with ⟨h, e⟩ | ⟨h, e⟩ | ⟨h, e⟩ <;> omega
      · show (x : Int) = _
        rw [isqN_spec_eq (newton_stop hx hu hge)]
    · have hp := newton_pos hx hn
      have hnx := newton_next (n := n) hx
      obtain ⟨m, E', hR, hE⟩ := ih _ (by omega) hp hnx (hl.natAbs_le (by omega))
      refine ⟨m + 1, E', .iteF ?_ (.again (I := sqI) (T := sqTree) (by simp [Stk.set]) ⟨no_asm, trivial, ?_⟩ ?_), hE⟩
      · show decide ((0 : Int) ≤ (IT.a2 3 sqNext (.var 1)).den _) = false
        rw [hc, decide_eq_false_iff_not]
        rcases cmpZ_cases (((x + n / x) / 2 : Nat) : Int) (x : Int) with ⟨h, e⟩ | ⟨h, e⟩ | ⟨h, e⟩ <;> omega
      · intro p hp
        simp only [sqI, List.mem_cons, List.not_mem_nil, or_false] at hp
        subst hp
        show Lim 100001 (sqNext.den _)
        rw [hy]
        exact hl.natAbs_le (by omega)
      · have : Env.upd ((zE [(n : Int), 0]).upd [1] [(x : Int)]) sqI.vs ([sqNext].map (IT.den ((zE [(n : Int), 0]).upd [1] [(x : Int)]))) = (zE [(n : Int), 0]).upd [1] [(((x + n / x) / 2 : Nat) : Int)] := by
          simp only [List.map_cons, List.map_nil, hy]
          unfold Env.upd
          congr 1
          funext k
          simp only [sqI, updI]
          by_cases hk : k = 1
          · simp [hk]
          · simp [hk]
        rw [this]
        exact hR

set_option maxRecDepth 100000 in
set_option maxHeartbeats 1600000 in
theorem rsqrt_pos (w : World) (v : Value) (z : Int) (h : IsInt w v z) (l : Lim 100000 z) (hz : 0 < z) : Calls Tryz.prog 93 #[v] w (RetSqA z w) := by
  obtain ⟨ao, cap, s, n, rfl, h1, h2, h3, H4, H5, H6⟩ := h.open_
  obtain ⟨W, hW, eW, c0, c1, r0, r1, f0, f1⟩ := boxes1r w (.bool s) (.slice ao (limbs n).length cap) 24
  have hs : s = false := by
    cases s
    · rfl
    · have h5 := H5.out; have h6 := H6.out rfl; simp only [sgn, if_true] at h5; omega
  subst hs
  have hz2 : z = (n : Int) := H5.out
  have hl0 : 0 < (limbs n).length := limbs_pos (by omega)
  have l' := l
  unfold Lim at l'
  rw [← H4.out] at l'
  subst hz2
  obtain ⟨K, hK⟩ : ∃ K, K = ((limbs n).length + 1) / 2 := ⟨_, rfl⟩
  have hKI : (((limbs n).length : Int) + 1).tdiv 2 = (K : Int) := by rw [Int.tdiv_eq_ediv_of_nonneg (by omega)]; omega
  have hmk := run_mk K (by omega) ↑K rfl
  have hKb : K ≤ 100000 := by omega
  have hWs : W.heap.size = w.heap.size + 2 := by rw [← hW]; simp
  have HI := Lib.hid (show IsInt W (.agg #[.bool false, .slice ao (limbs n).length cap]) (n : Int) from h.ext eW)
  -- the zeros, the one, and what the append leaves
  have hown : ((W.alloc (.cells (u32s (List.replicate K 0)) 112)).alloc (.cells #[.int .u32 1] 112)).ownsRow W.heap.size 112 1 (.slice (some ⟨W.heap.size, 0, none⟩) K K) (List.replicate K 0).length ((List.replicate K 0).map fun x => Value.int .u32 ((x : Nat) : Int)) := by
    have h0 : (W.alloc (.cells (u32s (List.replicate K 0)) 112)).ownsRow W.heap.size 112 1 (.slice (some ⟨W.heap.size, 0, none⟩) K K) K ((List.replicate K 0).map fun x => Value.int .u32 ((x : Nat) : Int)) :=
      ⟨by simp, .inr ⟨W.heap.size, K, u32s (List.replicate K 0), rfl, by omega, heap_alloc_new W _, Nat.le_refl _, by unfold maxLen; omega, by simp [u32s], by rw [Nat.mul_one]; simp only [u32s]; exact List.take_of_length_le (by simp)⟩⟩
    have := h0.alloc (.cells #[.int .u32 1] 112)
    rwa [List.length_replicate]
  obtain ⟨a3, c3, w3, hrun, k1, k2, hB3, k3⟩ := run_append_own_limbs _ W.heap.size (by simp; omega) 22 _ (List.replicate K 0) (by simp; omega) (by simp; omega) hown (W.heap.size + 1) [1] 1 (by simp) (fun i hi => by
    have : i = 0 := by simpa using hi
    subst this
    simp)
  rw [List.length_replicate, show [1].length = 1 from rfl] at hrun k1
  obtain ⟨x0, hx0⟩ : ∃ x0, x0 = 1000000000 ^ K := ⟨_, rfl⟩
  have hsh := limbs_shift K 1 (by omega)
  rw [Nat.mul_one, ← hx0, limbs_of_one] at hsh
  rw [← hsh] at k3
  have hxl : K + 1 = (limbs x0).length := by rw [hsh]; simp
  have HX : Hid (IsInt w3 (.agg #[.bool false, .slice a3 (K + 1) c3]) (x0 : Int)) := by
    rw [hxl]
    exact ⟨a3, c3, by simp, by rw [Int.natAbs_natCast, ← hxl]; exact k1, k2, by rw [Int.natAbs_natCast]; exact k3⟩
  have e3 : Ext W w3 := by
    refine Below.trans ?_ hB3
    exact ((Ext.refl W).alloc _).alloc _
  have V1 : Hid (VarAt (zE [(n : Int), (x0 : Int)]) W w.heap.size [.int (.var 0) 100000]) := by
    unfold Hid
    rw [← hW]
    refine VarAt.ext (w := w.alloc (.cells #[.bool false, .slice ao (limbs n).length cap] 24)) ?_ ((Ext.refl _).alloc _)
    exact VarAt.new (vs := [_, _]) (chunks_int h rfl l)
  have V2 : Hid (VarAt (zE [(n : Int), (x0 : Int)]) W (w.heap.size + 1) [.int (.lit 0) 0]) := by
    unfold Hid
    rw [← hW]
    have := VarAt.new (E := zE [(n : Int), (x0 : Int)]) (w := w.alloc (.cells #[.bool false, .slice ao (limbs n).length cap] 24)) (vs := [_, _]) (t := 24) (chunks_int (t := .lit 0) (l := 0) (isInt_zero _) rfl lim_zero)
    rwa [World.size_alloc] at this
  have HL3 : Hid (Lim 100001 (x0 : Int)) := by unfold Hid Lim; rw [Int.natAbs_natCast, ← hxl]; omega
  have HRUN := Lib.hid hrun
  have HK := Lib.hid hK
  have Hx0 := Lib.hid hx0
  clear hK H4 H5 H6 h hrun hown hx0 hsh k1 k2 k3 hxl hB3
  go_enter Tryz.func93, Tryz.ntmps93
  have hWs2 := Lib.hid hWs
  clear hWs
  go_wp2_with (at_builtin; refine wpList_append_run' rfl _ _ 22 rfl rfl rfl HRUN.out ?_)
  obtain ⟨w4, hw4⟩ : ∃ w4, w4 = w3.alloc (.cells #[.bool false, .slice a3 (K + 1) c3] 24) := ⟨_, rfl⟩
  rw [← hw4]
  refine (rfromInt64_calls w4 2 (by decide) (by decide)).mono ?_
  rintro e w5 ⟨v5, rfl, hI5, e5⟩
  obtain ⟨ao5, cap5, s5, n5, rfl, _⟩ := IsInt.open_ hI5
  have HI5 := Lib.hid hI5
  clear hI5
  go_wp2_with fail
  have hx0p : 0 < x0 := by rw [Hx0.out]; exact Nat.pow_pos (by omega)
  have hnx : n < (x0 + 1) * (x0 + 1) := by
    refine lt_next_sq ?_
    rw [Hx0.out, ← Nat.pow_add]
    exact Nat.lt_of_lt_of_le (lt_of_limbs_len (Nat.le_refl _)) (Nat.pow_le_pow_right (by omega) (by have := HK.out; omega))
  obtain ⟨m, E', hR, hE⟩ := sq_run n (by omega) x0 hx0p hnx HL3.out
  have hup : (zE [(n : Int), (x0 : Int)]).upd sqI.vs ([IT.var 1].map (IT.den (zE [(n : Int), (x0 : Int)]))) = (zE [(n : Int), 0]).upd [1] [(x0 : Int)] := by
    unfold Env.upd
    congr 1
    funext k
    show (if k = 1 then some (x0 : Int) else none).getD (([(n : Int), (x0 : Int)]).getD k 0) = (if k = 1 then some (x0 : Int) else none).getD (([(n : Int), 0]).getD k 0)
    by_cases hk : k = 1
    · rw [if_pos hk]; rfl
    · rw [if_neg hk]
      match k, hk with
      | 0, _ => rfl
      | k + 2, _ => rfl
  have e35 : Ext w3 w5 := by
    have := (Ext.refl w3).alloc (.cells #[.bool false, .slice a3 (K + 1) c3] 24)
    rw [← hw4] at this
    exact this.trans e5
  have e6 := (Ext.refl w5).alloc (.cells #[.bool s5, .slice ao5 (limbs n5).length cap5] 24)
  have V4 : VarAt (zE [(n : Int), (x0 : Int)]) w4 w3.heap.size [.int (.var 1) 100001] := by
    rw [hw4]
    exact VarAt.new (vs := [_, _]) (chunks_int HX.out rfl HL3.out)
  have V5 := VarAt.new (E := zE [(n : Int), (x0 : Int)]) (vs := [_, _]) (t := 24) (chunks_int (t := .lit 2) (l := 3) HI5.out rfl (lim3 (by decide) (by decide)))
  have sz3 := e3.size
  have sz35 := e35.size
  have sz4 : w4.heap.size = w3.heap.size + 1 := by rw [hw4]; simp
  have sz5 := e5.size
  have hs2 := hWs2.out
  refine execL_sound (Good := fun _ => True) (C := cfgOf tabRsq) (L := fun _ => some sqI) (w0 := w) (B := w.heap.size) (n := Tryz.f93.ntmps) (l := sqLeaf) (E' := E') mixed (fun _ _ => ⟨cfg_ok tabRsq_ok, fun _ _ => True.intro⟩) _ 0 (fun _ S e => match e with | .ret => (resE (cfgOf tabRsq) S Tryz.f93.results.toList).map .leaf | _ => none) _ noStk [] ⟨lookN sqI.lk, lookN sqI.vr⟩ (.loop 0 sqI [.var 1] sqTree) (zE [(n : Int), (x0 : Int)]) m _ _ no_asm trivial ?_ (by kernel_rfl) (.loop ⟨no_asm, trivial, ?_⟩ (by rw [hup]; exact hR)) ?_
  · have hz2 : ∀ t x, lookN sqI.lk t = some x → t = 1 ∧ x = .ptr 1 0 ∨ t = 2 ∧ x = .ptr 2 0 ∨ t = 4 ∧ x = .ptr 4 0 ∨ t = 5 ∧ x = .ptr 5 0 := by
      intro t x hx
      have := lookN_mem hx
      simpa [sqI] using this
    have hz3 : ∀ t x, lookN sqI.vr t = some x → t = 1 ∧ x = [.int (.var 0) 100000] ∨ t = 2 ∧ x = [.int (.lit 0) 0] ∨ t = 4 ∧ x = [.int (.var 1) 100001] ∨ t = 5 ∧ x = [.int (.lit 2) 3] := by
      intro t x hx
      have := lookN_mem hx
      simpa [sqI] using this
    refine ⟨fun t => if t = 1 then w.heap.size else if t = 2 then w.heap.size + 1 else if t = 4 then w3.heap.size else w5.heap.size, ⟨?_, ?_, ?_, ?_, by kernel_rfl, rfl, ?_, ?_, ?_⟩⟩
    · intro t x hx
      rcases hz2 t x hx with ⟨rfl, rfl⟩ | ⟨rfl, rfl⟩ | ⟨rfl, rfl⟩ | ⟨rfl, rfl⟩ <;> rfl
    · intro t x hx
      rcases hz3 t x hx with ⟨rfl, rfl⟩ | ⟨rfl, rfl⟩ | ⟨rfl, rfl⟩ | ⟨rfl, rfl⟩
      · exact ⟨fun _ => Nat.le_refl _, (V1.out.ext (e3.trans e35)).ext e6⟩
      · exact ⟨fun _ => by show w.heap.size ≤ w.heap.size + 1; omega, (V2.out.ext (e3.trans e35)).ext e6⟩
      · exact ⟨fun _ => by show w.heap.size ≤ w3.heap.size; omega, (V4.ext e5).ext e6⟩
      · exact ⟨fun _ => by show w.heap.size ≤ w5.heap.size; omega, V5⟩
    · intro x y hx hy he
      obtain ⟨cs, hcs⟩ := Option.isSome_iff_exists.1 hx
      obtain ⟨ds, hds⟩ := Option.isSome_iff_exists.1 hy
      rcases hz3 x cs hcs with ⟨rfl, _⟩ | ⟨rfl, _⟩ | ⟨rfl, _⟩ | ⟨rfl, _⟩ <;> rcases hz3 y ds hds with ⟨rfl, _⟩ | ⟨rfl, _⟩ | ⟨rfl, _⟩ | ⟨rfl, _⟩ <;> first | rfl | (exfalso; revert he; simp; done) | (exfalso; revert he; simp; omega)
    · intro t x off hx
      rcases hz2 t _ hx with ⟨rfl, hh⟩ | ⟨rfl, hh⟩ | ⟨rfl, hh⟩ | ⟨rfl, hh⟩ <;> (injection hh with h1 h2; subst h1; rfl)
    · simp; omega
    · exact (eW.trans (e3.trans e35)).trans (Below.mono e6 (by omega))
    · intro x cs hx
      rcases hz3 x cs hx with ⟨rfl, rfl⟩ | ⟨rfl, rfl⟩ | ⟨rfl, rfl⟩ | ⟨rfl, rfl⟩ <;> decide
  · intro p hp
    simp only [sqI, List.mem_cons, List.not_mem_nil, or_false] at hp
    subst hp
    rw [hup]
    exact HL3.out
  · intro K' G' S' e T' E1 m' hm' hK' h1 hR' hG' hE' a' w' h4'
    cases e with
    | norm => cases h1
    | exit id => cases h1
    | ret =>
      obtain ⟨l', hl, rfl⟩ := Option.map_eq_some_iff.1 h1
      cases hR' with
      | leaf =>
        obtain ⟨β, v, r1, r2⟩ := resE_sound (cfg_ok tabRsq_ok) h4' (fn := Tryz.f93) (rs := Tryz.f93.results.toList) (by simp) (by decide +kernel) hl
        obtain ⟨β', hS⟩ := h4'
        refine ⟨hS.nd, v, r1, ?_⟩
        obtain ⟨vs, rfl, u1, r1, rfl, k1, u2, r2, rfl, k2, hn⟩ := r2
        simp only [tupAll] at hn
        subst hn
        have k2' := one_num.1 k2
        subst k2'
        have k1' := (one_int.1 k1).1
        refine ⟨u1, ?_, ?_, hS.bl⟩
        · show _ = Ending.returned (.tuple #[u1, .int .i64 (isqE (n : Int))])
          rw [show isqE (n : Int) = 0 from if_neg (by omega)]
          rfl
        · rw [show isq (n : Int) = (isqN n : Int) by unfold isq; rw [if_neg (by omega), Int.natAbs_natCast], ← hE]
          exact k1'

theorem open_iq {E : Env} {β : Nat → Nat} {w : World} {v : Value} {x u : IT} {l : Nat} (hx : (AV.tup [(true, [.int x l]), (false, [.n .i64 u])]).holds E β w v) : ∃ p, v = .tuple #[p, .int .i64 (u.den E)] ∧ IsInt w p (x.den E) := by
  obtain ⟨vs, rfl, u1, r1, rfl, k1, u2, r2, rfl, k2, hn⟩ := hx
  simp only [tupAll] at hn
  subst hn
  have k2' := one_num.1 k2
  subst k2'
  exact ⟨u1, rfl, (one_int.1 k1).1⟩
theorem rsqrt_any (w : World) (v : Value) (z : Int) (h : IsInt w v z) (l : Lim 100000 z) : Calls Tryz.prog 93 #[v] w (RetSqA z w) := by
  by_cases hz : 0 < z
  · exact rsqrt_pos w v z h l hz
  · by_cases h0 : z = 0
    · subst h0
      refine (fun_sound (C := cfgOf []) (E := zE []) (args := [.val true [.int (.lit 0) 0]]) (T := .leaf [(true, [.int (.lit 0) 0]), (false, [.n .i64 (.lit 0)])])
        mixed (cfg_ok .nil) no_asm Tryz.func93 (by decide +kernel) (by kernel_rfl) (by decide +kernel) rfl w [v] rfl ?_).mono ?_
      · intro i x hx
        match i, hx with
        | 0, hx => injection hx with hx; subst hx; exact ⟨fun _ => 0, v, rfl, one_int.2 ⟨h, lim_zero⟩⟩
      · rintro e w' ⟨β, u, rfl, hh, ex⟩
        obtain ⟨p, rfl, hp⟩ := open_iq hh
        exact ⟨p, rfl, hp, ex⟩
    · have hneg : z < 0 := by omega
      refine (fun_sound (C := cfgOf []) (E := zE [z]) (G := [(.lt (.var 0) (.lit 0), true)]) (args := [.val true [.int (.var 0) 100000]]) (T := .leaf [(true, [.int (.lit 0) 0]), (false, [.n .i64 (.lit 7)])])
        mixed (cfg_ok .nil) (asm_cons no_asm (by show decide (z < 0) = true; exact decide_eq_true hneg)) Tryz.func93 (by decide +kernel) (by kernel_rfl) (by decide +kernel) rfl w [v] rfl ?_).mono ?_
      · intro i x hx
        match i, hx with
        | 0, hx => injection hx with hx; subst hx; exact ⟨fun _ => 0, v, rfl, one_int.2 ⟨h, l⟩⟩
      · rintro e w' ⟨β, u, rfl, hh, ex⟩
        obtain ⟨p, rfl, hp⟩ := open_iq hh
        refine ⟨p, ?_, ?_, ex⟩
        · rw [show isqE z = 7 from if_pos hneg]; rfl
        · rw [show isq z = 0 from if_pos hneg]; exact hp

end Go.Proofs.YtdblkeeicmncfaaGreat
end

/- ---- Rff ---- -/
section
/-
  RationalSqrt.
-/
set_option maxRecDepth 100000
namespace Go.Proofs.YtdblkeeicmncfaaGreat
open Go.RowKit

def kSqRef : Con
  | [.val true [.int x l]], _ => if decide (l ≤ 100000) then some (.tup [(true, [.int (.a1 2 x) l]), (false, [.n .i64 (.a1 3 x)])]) else none
  | _, _ => none
theorem kSqRef_ok {E : Env} : ConOK Tryz.prog E 93 kSqRef := by
  refine ⟨?_, ?_, ⟨_, Tryz.func93, by decide +kernel, by kernel_rfl⟩⟩
  · intro args As r h hG β w vs hv hlen
    unfold kSqRef at h
    split at h
    · split at h
      · rename_i hlo
        injection h with h
        subst h
        simp only [decide_eq_true_iff] at hlo
        obtain ⟨v, rfl, h1⟩ := args1 hv hlen
        obtain ⟨i1, l1⟩ := one_int.1 h1
        refine (rsqrt_any w v _ i1 (l1.mono hlo)).mono ?_
        rintro e w' ⟨u, rfl, k1, ex⟩
        exact ⟨_, rfl, ⟨[u, .int .i64 _], rfl, u, _, rfl, one_int.2 ⟨k1, isq_lim l1⟩, _, _, rfl, one_num.2 rfl, rfl⟩, ex⟩
      · cases h
    · cases h
  · intro args As r h x off
    unfold kSqRef at h
    split at h
    · split at h
      · injection h with h; subst h; intro e; cases e
      · cases h
    · cases h
theorem open_ib' {E : Env} {β : Nat → Nat} {w : World} {v : Value} {x : IT} {k : Nat} {t : BT} (hx : (AV.tup [(true, [.int x k]), (false, [.b t])]).holds E β w v) : ∃ p, v = .tuple #[p, .bool (t.den E)] ∧ IsInt w p (x.den E) := by
  obtain ⟨vs, rfl, u1, r1, rfl, k1, u2, r2, rfl, k2, hn⟩ := hx
  simp only [tupAll] at hn
  subst hn
  have k2' := one_bool.1 k2
  subst k2'
  exact ⟨u1, rfl, (one_int.1 k1).1⟩
theorem perfect_calls (w : World) (v : Value) (z : Int) (h : IsInt w v z) (l : Lim 100000 z) :
    Calls Tryz.prog 114 #[v] w fun e w' => ∃ u, e = .returned (.tuple #[u, .bool (sqB z)]) ∧ IsInt w' u (isq z) ∧ Ext w w' := by
  refine (fun_sound (C := cfgOf ((93, kSqRef) :: (41, kIIb fun x y => .eq x y) :: tabR1)) (E := zE [z]) (args := [.val true [.int (.var 0) 100000]])
    (T := .ite (.eq (.a1 3 (.var 0)) (.lit 0)) (.leaf [(true, [.int (.a1 2 (.var 0)) 100000]), (false, [.b (.eq (.a2 2 (.a1 2 (.var 0)) (.a1 2 (.var 0))) (.var 0))])]) (.leaf [(true, [.int (.a1 2 (.var 0)) 100000]), (false, [.b (.lit false)])]))
    mixed (cfg_ok (.cons kSqRef_ok (.cons (kIIb_ok (fun x y => x == y) (fun _ _ => rfl) (fun w v1 v2 z1 z2 h1 h2 => (rsame_calls w v1 v2 z1 z2 h1 h2).mono (fun e w' h => ⟨by rw [h.1]; by_cases hz : z1 = z2 <;> simp [hz], h.2⟩)) ⟨_, Tryz.func41, by decide +kernel, by kernel_rfl⟩) tabR1_ok)))
    no_asm Tryz.func114 (by decide +kernel) (by kernel_rfl) (by decide +kernel) rfl w [v] rfl ?_).mono ?_
  · intro i x hx
    match i, hx with
    | 0, hx => injection hx with hx; subst hx; exact ⟨fun _ => 0, v, rfl, one_int.2 ⟨h, l⟩⟩
  · rintro e w' ⟨β, u, rfl, hh, ex⟩
    simp only [Tree.pick] at hh
    split at hh
    · rename_i hz
      obtain ⟨p, rfl, hp⟩ := open_ib' hh
      refine ⟨p, ?_, hp, ex⟩
      have hz' : (isqE z == 0) = true := hz
      have e1 : (BT.eq (.a2 2 (.a1 2 (.var 0)) (.a1 2 (.var 0))) (.var 0)).den (zE [z]) = (cmpZ (isq z * isq z) z == 0) := by
        show (isq z * isq z == z) = _
        rw [Bool.eq_iff_iff, beq_iff_eq, beq_iff_eq]
        rcases cmpZ_cases (isq z * isq z) z with ⟨h, e⟩ | ⟨h, e⟩ | ⟨h, e⟩ <;> rw [e] <;> omega
      rw [e1]
      unfold sqB
      rw [hz', Bool.true_and]
    · rename_i hz
      obtain ⟨p, rfl, hp⟩ := open_ib' hh
      have hz' : (isqE z == 0) = false := by
        cases hb : (isqE z == 0) with
        | false => rfl
        | true => exact absurd hb hz
      refine ⟨p, ?_, hp, ex⟩
      unfold sqB
      rw [hz', Bool.false_and]
      rfl
theorem kPf_ok {E : Env} : ConOK Tryz.prog E 114 kSqr := by
  refine ⟨?_, ?_, ⟨_, Tryz.func114, by decide +kernel, by kernel_rfl⟩⟩
  · intro args As r h hG β w vs hv hlen
    unfold kSqr at h
    split at h
    · split at h
      · rename_i hlo
        injection h with h
        subst h
        simp only [decide_eq_true_iff] at hlo
        obtain ⟨v, rfl, h1⟩ := args1 hv hlen
        obtain ⟨i1, l1⟩ := one_int.1 h1
        refine (perfect_calls w v _ i1 (l1.mono hlo)).mono ?_
        rintro e w' ⟨u, rfl, k1, ex⟩
        exact ⟨_, rfl, ⟨[u, .bool _], rfl, u, _, rfl, one_int.2 ⟨k1, isq_lim l1⟩, _, _, rfl, one_bool.2 rfl, rfl⟩, ex⟩
      · cases h
    · cases h
  · intro args As r h x off
    unfold kSqr at h
    split at h
    · split at h
      · injection h with h; subst h; intro e; cases e
      · cases h
    · cases h
theorem rsqrtQ_calls (w : World) (v : Value) (n d : Int) (h : IsPair w v n d) (l1 : Lim 100000 n) (l2 : Lim 100000 d) : Calls Tryz.prog 65 #[v] w (RetSqQ n d w) := by
  refine (fun_sound (C := cfgOf [(114, kSqr)]) (E := zE [n, d]) (args := [argQ 0]) (T := tSq)
    mixed (cfg_ok (.cons kPf_ok .nil)) no_asm Tryz.func65 (by decide +kernel) (by kernel_rfl) (by decide +kernel) rfl w [v] rfl ?_).mono ?_
  · intro i x hx
    match i, hx with
    | 0, hx => injection hx with hx; subst hx; exact ⟨fun _ => 0, v, rfl, argP_holds h l1 l2 rfl rfl⟩
  · rintro e w' ⟨β, u, rfl, hh, ex⟩
    have d0 : (BT.and (.eq (.a1 3 (.var 0)) (.lit 0)) (.eq (.a2 3 (.a2 2 (.a1 2 (.var 0)) (.a1 2 (.var 0))) (.var 0)) (.lit 0))).den (zE [n, d]) = sqB n := rfl
    have d1 : (BT.and (.eq (.a1 3 (.var 1)) (.lit 0)) (.eq (.a2 3 (.a2 2 (.a1 2 (.var 1)) (.a1 2 (.var 1))) (.var 1)) (.lit 0))).den (zE [n, d]) = sqB d := rfl
    unfold tSq at hh
    simp only [Tree.pick, d0, d1] at hh
    unfold RetSqQ sqN
    cases h0 : sqB n <;> cases h1 : sqB d <;> rw [h0, h1] at hh
    · obtain ⟨p, rfl, hp⟩ := open_qb hh
      exact ⟨p, rfl, hp, ex⟩
    · obtain ⟨p, rfl, hp⟩ := open_qb hh
      exact ⟨p, rfl, hp, ex⟩
    · obtain ⟨p, rfl, hp⟩ := open_qb hh
      exact ⟨p, rfl, hp, ex⟩
    · obtain ⟨p, rfl, hp⟩ := open_qb hh
      exact ⟨p, rfl, hp, ex⟩

/-- Squares of rational numbers. -/
theorem mul_self_parts (a : Rat) : (a * a).num = a.num * a.num ∧ (a * a).den = a.den * a.den := by
  have hc : (a.num * a.num).natAbs.Coprime (a.den * a.den) := by
    rw [Int.natAbs_mul]
    exact (Nat.Coprime.mul_left a.reduced a.reduced).symm.mul_left (Nat.Coprime.mul_left a.reduced a.reduced).symm |>.symm
  have hn : a.den * a.den ≠ 0 := Nat.mul_ne_zero a.den_nz a.den_nz
  have e : a * a = ⟨a.num * a.num, a.den * a.den, hn, hc⟩ := by
    rw [Rat.mk_eq_divInt]
    have h : Rat.divInt a.num a.den * Rat.divInt a.num a.den = a * a := by rw [Rat.num_divInt_den]
    rw [← h, Rat.divInt_mul_divInt, Int.natCast_mul]
  rw [e]
  exact ⟨rfl, rfl⟩
def ratAbs (a : Rat) : Rat := ⟨(a.num.natAbs : Int), a.den, a.den_nz, by rw [Int.natAbs_natCast]; exact a.reduced⟩
theorem isq_self (n : Int) : isq (n * n) = (n.natAbs : Int) ∧ sqB (n * n) = true := by
  have h0 : ¬ n * n < 0 := by
    have e : ((n.natAbs : Int)) * (n.natAbs : Int) = n * n := Int.natAbs_mul_self
    have h := Int.natCast_nonneg (n.natAbs * n.natAbs)
    rw [Int.natCast_mul, e] at h
    omega
  have e1 : isq (n * n) = (n.natAbs : Int) := by
    unfold isq
    rw [if_neg h0, Int.natAbs_mul]
    congr 1
    refine isqN_spec_eq ⟨Nat.le_refl _, ?_⟩
    exact Nat.mul_lt_mul'' (by omega) (by omega)
  refine ⟨e1, ?_⟩
  unfold sqB
  rw [e1]
  have e2 : ((n.natAbs : Int)) * (n.natAbs : Int) = n * n := Int.natAbs_mul_self
  rw [e2, cmpZ_eq rfl]
  unfold isqE
  rw [if_neg h0]
  rfl
theorem sqB_spec {z : Int} (h : sqB z = true) : isq z * isq z = z := by
  unfold sqB at h
  rw [Bool.and_eq_true, beq_iff_eq, beq_iff_eq] at h
  rcases cmpZ_cases (isq z * isq z) z with ⟨_, e⟩ | ⟨k, _⟩ | ⟨_, e⟩
  · have := h.2; omega
  · exact k
  · have := h.2; omega
theorem root_rat {a : Rat} (h : sqB a.num = true) (k : sqB (a.den : Int) = true) : ∃ s : Rat, s.num = isq a.num ∧ (s.den : Int) = isq (a.den : Int) := by
  have e1 := sqB_spec h
  have e2 := sqB_spec k
  have hd : (a.den : Int) ≠ 0 := den_ne a
  have hp : 0 ≤ isq (a.den : Int) := by unfold isq; split <;> omega
  have hne : (isq (a.den : Int)).natAbs ≠ 0 := by
    intro e
    have : isq (a.den : Int) = 0 := by omega
    rw [this] at e2
    omega
  have hc : (isq a.num).natAbs.Coprime (isq (a.den : Int)).natAbs := by
    have h1 : (isq a.num).natAbs * (isq a.num).natAbs = a.num.natAbs := by rw [← Int.natAbs_mul, e1]
    have h2 : (isq (a.den : Int)).natAbs * (isq (a.den : Int)).natAbs = a.den := by rw [← Int.natAbs_mul, e2, Int.natAbs_natCast]
    have hr := a.reduced
    rw [← h1, ← h2] at hr
    exact (Nat.Coprime.coprime_mul_left (Nat.Coprime.coprime_mul_left hr).symm).symm
  refine ⟨⟨isq a.num, (isq (a.den : Int)).natAbs, hne, hc⟩, rfl, ?_⟩
  show (((isq (a.den : Int)).natAbs : Nat) : Int) = _
  omega
def isV (i : Nat) : IT → Bool
  | .var j => i == j
  | _ => false
theorem isV_spec {i : Nat} {t : IT} (h : isV i t = true) : t = .var i := by
  cases t <;> simp only [isV, Bool.false_eq_true, beq_iff_eq] at h
  rw [h]
def kSqC (b : Bool) : Con
  | [.val true [.int x l, .int y m]], _ =>
    if (isV 0 x && isV 1 y) && (decide (l ≤ 6) && decide (m ≤ 6)) then some (if b then .tup [(true, [.int (.var 2) 6, .int (.var 3) 6]), (false, [.b (.lit true)])] else .tup [(true, [.int (.lit 0) 0, .int (.lit 0) 0]), (false, [.b (.lit false)])])
    else if (x.beq (qop 2 (qv 0) (qv 0)).1 && y.beq (qop 2 (qv 0) (qv 0)).2) && (decide (l ≤ 100000) && decide (m ≤ 100000)) then some (.tup [(true, [.int (.var 4) 6, .int (.var 5) 6]), (false, [.b (.lit true)])]) else none
  | _, _ => none
theorem kSqC_ok {a s : Rat} {b : Bool} (la : LimQ 6 a) (hb : (sqB a.num && sqB (a.den : Int)) = b) (hs : b = true → s.num = isq a.num ∧ (s.den : Int) = isq (a.den : Int)) {f : Nat}
    (hc : ∀ (w : World) (v : Value) (n d : Int), IsPair w v n d → Lim 100000 n → Lim 100000 d → Calls Tryz.prog f #[v] w (RetSqQ n d w))
    (hf : ∃ fn, Tryz.prog.funcs[f]? = some fn ∧ fn.name ≠ "runtime.NumGoroutine" ∧ fn.body.isNone = false) : ConOK Tryz.prog (qE [a, s, ratAbs a]) f (kSqC b) := by
  have ra : RepQ (qE [a, s, ratAbs a]) (qv 0) a := rep_v (i := 0)
  have rs : RepQ (qE [a, s, ratAbs a]) (qv 1) s := rep_v (i := 1)
  have rt : RepQ (qE [a, s, ratAbs a]) (qv 2) (ratAbs a) := rep_v (i := 2)
  have rm : RepQ (qE [a, s, ratAbs a]) (qop 2 (qv 0) (qv 0)) (a * a) := rep_op (f := 2) (by omega) ra ra
  refine ⟨?_, ?_, hf⟩
  · intro args As r h hG β w vs hv hlen
    unfold kSqC at h
    split at h
    · split at h
      · rename_i x l y m hm
        simp only [Bool.and_eq_true, decide_eq_true_iff] at hm
        obtain ⟨⟨hx, hy⟩, hl, hm⟩ := hm
        obtain rfl := isV_spec hx
        obtain rfl := isV_spec hy
        injection h with h
        subst h
        obtain ⟨v, rfl, h1⟩ := args1 hv hlen
        obtain ⟨p1, a1, a2⟩ := one_pair.1 h1
        have e1 : (IT.var 0).den (qE [a, s, ratAbs a]) = a.num := ra.1
        have e2 : (IT.var 1).den (qE [a, s, ratAbs a]) = (a.den : Int) := ra.2
        rw [e1, e2] at p1
        rw [e1] at a1
        rw [e2] at a2
        refine (hc w v _ _ p1 (a1.mono (by omega)) (a2.mono (by omega))).mono ?_
        rintro e w' ⟨u, rfl, hp, ex⟩
        unfold sqN at hp
        rw [hb] at hp ⊢
        cases b with
        | true =>
          obtain ⟨s1, s2⟩ := hs rfl
          rw [if_pos rfl, if_pos rfl, ← s1, ← s2] at hp
          refine ⟨_, rfl, ⟨[u, .bool true], rfl, u, _, rfl, one_pair.2 ⟨?_, ?_, ?_⟩, _, _, rfl, one_bool.2 rfl, rfl⟩, ex⟩
          · show IsPair w' u ((qv 1).1.den _) ((qv 1).2.den _)
            rw [rs.1, rs.2]; exact hp
          · show Lim 6 ((qv 1).1.den _)
            rw [rs.1, s1]; exact isq_lim la.1
          · show Lim 6 ((qv 1).2.den _)
            rw [rs.2, s2]; exact isq_lim la.2
        | false =>
          rw [if_neg (by decide), if_neg (by decide)] at hp
          exact ⟨_, rfl, ⟨[u, .bool false], rfl, u, _, rfl, one_pair.2 ⟨hp, lim_zero, lim_zero⟩, _, _, rfl, one_bool.2 rfl, rfl⟩, ex⟩
      · split at h
        · rename_i x l y m _ hm
          simp only [Bool.and_eq_true, decide_eq_true_iff] at hm
          obtain ⟨⟨hx, hy⟩, hl, hm⟩ := hm
          obtain rfl := IT.eq_of_beq hx
          obtain rfl := IT.eq_of_beq hy
          injection h with h
          subst h
          obtain ⟨v, rfl, h1⟩ := args1 hv hlen
          obtain ⟨p1, a1, a2⟩ := one_pair.1 h1
          obtain ⟨m1, m2⟩ := mul_self_parts a
          rw [rm.1, rm.2, m1, m2, Int.natCast_mul] at p1
          rw [rm.1, m1] at a1
          rw [rm.2, m2, Int.natCast_mul] at a2
          obtain ⟨i1, j1⟩ := isq_self a.num
          obtain ⟨i2, j2⟩ := isq_self (a.den : Int)
          refine (hc w v _ _ p1 (a1.mono hl) (a2.mono hm)).mono ?_
          rintro e w' ⟨u, rfl, hp, ex⟩
          unfold sqN at hp
          rw [j1, j2] at hp ⊢
          rw [Bool.and_self, if_pos rfl, if_pos rfl, i1, i2, Int.natAbs_natCast] at hp
          refine ⟨_, rfl, ⟨[u, .bool true], rfl, u, _, rfl, one_pair.2 ⟨?_, ?_, ?_⟩, _, _, rfl, one_bool.2 rfl, rfl⟩, ex⟩
          · show IsPair w' u ((qv 2).1.den _) ((qv 2).2.den _)
            rw [rt.1, rt.2]; exact hp
          · show Lim 6 ((qv 2).1.den _)
            rw [rt.1]
            exact la.1.natAbs_le (by show ((a.num.natAbs : Int)).natAbs ≤ _; rw [Int.natAbs_natCast]; exact Nat.le_refl _)
          · show Lim 6 ((qv 2).2.den _)
            rw [rt.2]
            exact la.2
        · cases h
    · cases h
  · intro args As r h x off
    unfold kSqC at h
    split at h
    · split at h
      · injection h with h; subst h; cases b <;> (intro e; cases e)
      · split at h
        · injection h with h; subst h; intro e; cases e
        · cases h
    · cases h
def tabSqL (b : Bool) : List (Nat × Con) := (59, kSqC b) :: (65, kSqC b) :: tabT
def sqLT : Tree :=
  .ite (.le (.lit 0) (.a2 3 (.var 4) (.lit 0))) (.ite (.and (.eq (.var 4) (.var 0)) (.eq (.var 5) (.var 1))) (leafB (.lit true)) (leafB (.and (.eq (.var 4) (.a1 0 (.var 0))) (.eq (.var 5) (.var 1))))) (leafB (.lit false))
end Go.Proofs.YtdblkeeicmncfaaGreat
end

/- ---- Rta ---- -/
section
/-
  Numbers a + b sqrt(c): signs, products, roundings, over rational numbers.
-/
set_option maxRecDepth 100000
namespace Go.Proofs.YtdblkeeicmncfaaGreat
open Go.RowKit

/-- A radicand in reduced form. -/
def Rd (b c : Rat) : Prop := (b = 0 ∧ c = 0) ∨ (b ≠ 0 ∧ 0 < c ∧ ∀ q : Rat, q * q ≠ c)
theorem sqz_sqB {z : Int} (h : 0 ≤ z) : sqz z = sqB z := by
  unfold sqz sqB isqE
  rw [if_neg (by omega)]
  show _ = (true && _)
  rw [Bool.true_and, Bool.eq_iff_iff, beq_iff_eq, beq_iff_eq]
  rcases cmpZ_cases (isq z * isq z) z with ⟨h, e⟩ | ⟨h, e⟩ | ⟨h, e⟩ <;> rw [e] <;> omega
theorem sq_of_root {c : Rat} (hc : 0 < c) (h : sqz c.num = true) (k : sqz (c.den : Int) = true) : ∃ q : Rat, q * q = c := by
  have hn := (num_pos_iff c).2 hc
  rw [sqz_sqB (by omega)] at h
  rw [sqz_sqB (by omega)] at k
  obtain ⟨s, s1, s2⟩ := root_rat h k
  refine ⟨s, ?_⟩
  obtain ⟨m1, m2⟩ := mul_self_parts s
  refine Rat.ext ?_ ?_
  · rw [m1, s1, sqB_spec h]
  · have : ((s.den * s.den : Nat) : Int) = (c.den : Int) := by rw [Int.natCast_mul, s2, sqB_spec k]
    rw [m2]; omega
theorem root_of_sq {c q : Rat} (h : q * q = c) : sqz c.num = true ∧ sqz (c.den : Int) = true := by
  obtain ⟨m1, m2⟩ := mul_self_parts q
  rw [h] at m1 m2
  obtain ⟨i1, j1⟩ := isq_self q.num
  obtain ⟨i2, j2⟩ := isq_self (q.den : Int)
  refine ⟨?_, ?_⟩
  · unfold sqz
    rw [m1, i1, beq_iff_eq]
    exact Int.natAbs_mul_self
  · unfold sqz
    rw [m2, Int.natCast_mul, i2, beq_iff_eq]
    exact Int.natAbs_mul_self
theorem Rdb_iff {b c : Rat} : Rdb b c = true ↔ Rd b c := by
  have n1 : b.num = 0 ↔ b = 0 := Rat.num_eq_zero
  have n2 : c.num = 0 ↔ c = 0 := Rat.num_eq_zero
  have n3 := num_pos_iff c
  unfold Rdb Rd
  simp only [Bool.or_eq_true, Bool.and_eq_true, beq_iff_eq, bne_iff_ne, decide_eq_true_iff, Bool.not_eq_true', Bool.and_eq_false_iff]
  constructor
  · rintro (⟨h1, h2⟩ | ⟨h1, h2, h3⟩)
    · exact .inl ⟨n1.1 h1, n2.1 h2⟩
    · refine .inr ⟨fun e => h1 (n1.2 e), n3.1 h2, fun q hq => ?_⟩
      obtain ⟨k1, k2⟩ := root_of_sq hq
      rcases h3 with h3 | h3
      · rw [k1] at h3; cases h3
      · rw [k2] at h3; cases h3
  · rintro (⟨h1, h2⟩ | ⟨h1, h2, h3⟩)
    · exact .inl ⟨n1.2 h1, n2.2 h2⟩
    · refine .inr ⟨fun e => h1 (n1.1 e), n3.2 h2, ?_⟩
      cases k1 : sqz c.num with
      | false => exact .inl rfl
      | true =>
        cases k2 : sqz (c.den : Int) with
        | false => exact .inr rfl
        | true =>
          obtain ⟨q, hq⟩ := sq_of_root h2 k1 k2
          exact absurd hq (h3 q)
def rC (b c : Rat) : Rat := if b.num = 0 then 0 else c
def rN (b c : Rat) : Rat := if b.num = 0 then c else 0
def sq2 (b c : Rat) : Rat := if b.num < 0 then - (b * b * c) else b * b * c
theorem rC_zero (c : Rat) : rC 0 c = 0 := rfl
theorem rC_ne {b : Rat} (h : b ≠ 0) (c : Rat) : rC b c = c := if_neg (fun e => h (Rat.num_eq_zero.1 e))
theorem rN_zero (c : Rat) : rN 0 c = c := rfl
theorem rN_ne {b : Rat} (h : b ≠ 0) (c : Rat) : rN b c = 0 := if_neg (fun e => h (Rat.num_eq_zero.1 e))
theorem sq_pos {b : Rat} (h : b ≠ 0) : 0 < b * b := by
  rcases (by grind : b < 0 ∨ 0 < b) with k | k
  · have := Rat.mul_pos (a := -b) (b := -b) (by grind) (by grind)
    grind
  · exact Rat.mul_pos k k
theorem sq_nonneg (b : Rat) : 0 ≤ b * b := by
  by_cases h : b = 0
  · subst h; grind
  · have := sq_pos h; grind
/-- The greater square decides. -/
theorem sgQ_add {u v : Rat} (h : v * v < u * u) : sgQ (u + v) = sgQ u := by
  have e : u * u - v * v = (u - v) * (u + v) := by grind
  rcases sgQ_cases u with ⟨k, e1⟩ | ⟨k, e1⟩ | ⟨k, e1⟩
  · rw [e1]
    refine sgQ_neg' ?_
    refine Decidable.byContradiction fun hn => ?_
    have h1 : u - v < 0 := by grind
    by_cases h0 : u + v = 0
    · rw [h0] at e; grind
    · have := Rat.mul_pos (a := -(u - v)) (b := u + v) (by grind) (by grind)
      grind
  · rw [k] at h; have := sq_nonneg v; grind
  · rw [e1]
    refine sgQ_pos ?_
    refine Decidable.byContradiction fun hn => ?_
    have h1 : 0 < u - v := by grind
    by_cases h0 : u + v = 0
    · rw [h0] at e; grind
    · have := Rat.mul_pos (a := u - v) (b := -(u + v)) (by grind) (by grind)
      grind
def nrm (a b c : Rat) : Rat := a * a - b * b * c
/-- The sign of a + b sqrt(c). -/
def sgN (a b c : Rat) : Int := if 0 < nrm a b c then sgQ a else if nrm a b c < 0 then sgQ b else 0
theorem sgN_pos {a b c : Rat} (h : 0 < nrm a b c) : sgN a b c = sgQ a := if_pos h
theorem sgN_neg {a b c : Rat} (h : nrm a b c < 0) : sgN a b c = sgQ b := by unfold sgN; rw [if_neg (by grind), if_pos h]
theorem sgN_zero {a b c : Rat} (h : nrm a b c = 0) : sgN a b c = 0 := by unfold sgN; rw [if_neg (by grind), if_neg (by grind)]
theorem nrm_mul (a b a' b' c : Rat) : nrm (a * a' + b * b' * c) (a * b' + b * a') c = nrm a b c * nrm a' b' c := by unfold nrm; grind
theorem sgN_mul {a b a' b' c : Rat} (hc : 0 ≤ c) : sgN (a * a' + b * b' * c) (a * b' + b * a') c = sgN a b c * sgN a' b' c := by
  have hm := nrm_mul a b a' b' c
  have lt_mul : ∀ {x y x' y' : Rat}, 0 ≤ x → x < y → 0 ≤ x' → x' < y' → x * x' < y * y' := by
    intro x y x' y' h1 h2 h3 h4
    have e1 := Rat.mul_pos (a := y) (b := y' - x') (by grind) (by grind)
    have e2 : 0 ≤ (y - x) * x' := Rat.mul_nonneg (by grind) h3
    grind
  have bb : ∀ x : Rat, 0 ≤ x * x * c := fun x => Rat.mul_nonneg (sq_nonneg x) hc
  rcases (by grind : nrm a b c < 0 ∨ nrm a b c = 0 ∨ 0 < nrm a b c) with h | h | h <;> rcases (by grind : nrm a' b' c < 0 ∨ nrm a' b' c = 0 ∨ 0 < nrm a' b' c) with k | k | k
  · have hp : 0 < nrm (a * a' + b * b' * c) (a * b' + b * a') c := by
      have := Rat.mul_pos (a := -(nrm a b c)) (b := -(nrm a' b' c)) (by grind) (by grind)
      grind
    rw [sgN_pos hp, sgN_neg h, sgN_neg k]
    unfold nrm at h k
    have := lt_mul (sq_nonneg a) (show a * a < b * b * c by grind) (sq_nonneg a') (show a' * a' < b' * b' * c by grind)
    rw [show a * a' + b * b' * c = b * b' * c + a * a' by grind, sgQ_add (by grind), sgQ_mul, sgQ_mul]
    have hcp : 0 < c := by
      refine Decidable.byContradiction fun hn => ?_
      have : c = 0 := by grind
      rw [this] at h
      have := sq_nonneg a
      grind
    rw [sgQ_pos hcp, Int.mul_one]
  · rw [k, Rat.mul_zero] at hm
    rw [sgN_zero hm, sgN_zero k, Int.mul_zero]
  · have hp : nrm (a * a' + b * b' * c) (a * b' + b * a') c < 0 := by
      have := Rat.mul_pos (a := -(nrm a b c)) (b := nrm a' b' c) (by grind) (by grind)
      grind
    rw [sgN_neg hp, sgN_neg h, sgN_pos k]
    unfold nrm at h k
    have := lt_mul (sq_nonneg a) (show a * a < b * b * c by grind) (bb b') (show b' * b' * c < a' * a' by grind)
    have hcp : 0 < c := by
      refine Decidable.byContradiction fun hn => ?_
      have : c = 0 := by grind
      rw [this] at h
      have := sq_nonneg a
      grind
    have h2 : a * b' * (a * b') < b * a' * (b * a') := by
      refine Decidable.byContradiction fun hn => ?_
      have : 0 ≤ (a * b' * (a * b') - b * a' * (b * a')) * c := Rat.mul_nonneg (by grind) hc
      grind
    rw [show a * b' + b * a' = b * a' + a * b' by grind, sgQ_add h2, sgQ_mul]
  · rw [h, Rat.zero_mul] at hm
    rw [sgN_zero hm, sgN_zero h, Int.zero_mul]
  · rw [h, Rat.zero_mul] at hm
    rw [sgN_zero hm, sgN_zero h, Int.zero_mul]
  · rw [h, Rat.zero_mul] at hm
    rw [sgN_zero hm, sgN_zero h, Int.zero_mul]
  · have hp : nrm (a * a' + b * b' * c) (a * b' + b * a') c < 0 := by
      have := Rat.mul_pos (a := nrm a b c) (b := -(nrm a' b' c)) (by grind) (by grind)
      grind
    rw [sgN_neg hp, sgN_pos h, sgN_neg k]
    unfold nrm at h k
    have := lt_mul (bb b) (show b * b * c < a * a by grind) (sq_nonneg a') (show a' * a' < b' * b' * c by grind)
    have h2 : b * a' * (b * a') < a * b' * (a * b') := by
      refine Decidable.byContradiction fun hn => ?_
      have : 0 ≤ (b * a' * (b * a') - a * b' * (a * b')) * c := Rat.mul_nonneg (by grind) hc
      grind
    rw [sgQ_add h2, sgQ_mul]
  · rw [k, Rat.mul_zero] at hm
    rw [sgN_zero hm, sgN_zero k, Int.mul_zero]
  · have hp : 0 < nrm (a * a' + b * b' * c) (a * b' + b * a') c := by
      have := Rat.mul_pos (a := nrm a b c) (b := nrm a' b' c) (by grind) (by grind)
      grind
    rw [sgN_pos hp, sgN_pos h, sgN_pos k]
    unfold nrm at h k
    have := lt_mul (bb b) (show b * b * c < a * a by grind) (bb b') (show b' * b' * c < a' * a' by grind)
    rw [sgQ_add (by grind), sgQ_mul]
/-- With a reduced radicand the norm is 0 for 0 only. -/
theorem nrm_ne {a b c : Rat} (R : Rd b c) (h : nrm a b c = 0) : a = 0 ∧ b = 0 := by
  unfold nrm at h
  rcases R with ⟨rfl, rfl⟩ | ⟨hb, hc, hs⟩
  · refine ⟨?_, rfl⟩
    refine Decidable.byContradiction fun ha => ?_
    have := sq_pos ha
    grind
  · exfalso
    refine hs (a / b) ?_
    have e : a / b * b = a := Rat.div_mul_cancel hb
    have e2 : (a / b * (a / b) - c) * (b * b) = 0 := by grind
    have hbb := sq_pos hb
    refine Decidable.byContradiction fun hn => ?_
    have hne : a / b * (a / b) - c ≠ 0 := by grind
    rcases Rat.mul_eq_zero.1 e2 with h1 | h1
    · exact hne h1
    · grind
theorem sgN_mono {x y b c : Rat} (R : Rd b c) (h : x ≤ y) (k : 0 ≤ sgN x b c) : 0 ≤ sgN y b c := by
  have sq_le : ∀ {u v : Rat}, 0 ≤ u → u ≤ v → u * u ≤ v * v := by
    intro u v h1 h2
    have e1 : 0 ≤ (v - u) * v := Rat.mul_nonneg (by grind) (by grind)
    have e2 : 0 ≤ (v - u) * u := Rat.mul_nonneg (by grind) h1
    grind
  have s1 : ∀ q : Rat, 0 ≤ sgQ q ↔ 0 ≤ q := by
    intro q
    rcases sgQ_cases q with ⟨k, e⟩ | ⟨k, e⟩ | ⟨k, e⟩ <;> rw [e] <;> constructor <;> intro h <;> first | omega | grind
  rcases (by grind : nrm y b c < 0 ∨ nrm y b c = 0 ∨ 0 < nrm y b c) with n | n | n
  · rw [sgN_neg n, s1]
    refine Decidable.byContradiction fun hb => ?_
    rcases R with ⟨rfl, rfl⟩ | ⟨hb0, hc, hs⟩
    · grind
    have hx : 0 < nrm x b c := by
      refine Decidable.byContradiction fun hn => ?_
      rcases (by grind : nrm x b c < 0 ∨ nrm x b c = 0) with m | m
      · rw [sgN_neg m, s1] at k; grind
      · exact hb0 (nrm_ne (.inr ⟨hb0, hc, hs⟩) m).2
    rw [sgN_pos hx, s1] at k
    have := sq_le k h
    unfold nrm at n hx
    grind
  · rw [sgN_zero n]; exact Int.le_refl _
  · rw [sgN_pos n, s1]
    refine Decidable.byContradiction fun hy => ?_
    have hy' := sq_le (u := -y) (v := -x) (by grind) (by grind)
    have hx : 0 < nrm x b c := by unfold nrm at n ⊢; grind
    rw [sgN_pos hx, s1] at k
    grind
/-- What sgS computes. -/
theorem sgS_sgN {a b c : Rat} (R : Rd b c) : sgS a (sq2 b c) = sgN a b c := by
  have hcmp : ∀ (x s : Rat) (m : Int), 0 ≤ s → m = s.num → cmpZ (x.num * x.num * (s.den : Int)) (m * ((x.den : Int) * (x.den : Int))) = sgQ (x * x - s) := by
    intro x s m h0 hm
    obtain ⟨m1, m2⟩ := mul_self_parts x
    rw [← cmpQ_sub, m1, m2, hm, Int.natCast_mul]
  unfold sgS
  rcases R with ⟨rfl, rfl⟩ | ⟨hb, hc, hs⟩
  · have : sq2 0 0 = 0 := by unfold sq2; rw [if_neg (by decide)]; grind
    rw [this, if_pos (show (0 : Rat).num = 0 from rfl)]
    show sgQ a = _
    by_cases ha : a = 0
    · subst ha; rw [sgN_zero (by unfold nrm; grind)]; rfl
    · rw [sgN_pos (by have := sq_pos ha; unfold nrm; grind)]
  · have hbb := sq_pos hb
    have hbc := Rat.mul_pos hbb hc
    have hnz : (sq2 b c).num ≠ 0 := by
      rw [ne_eq, Rat.num_eq_zero]
      unfold sq2
      split <;> grind
    have hsg : cmpZ (sq2 b c).num 0 = sgQ b := by
      show sgQ (sq2 b c) = _
      unfold sq2
      have hn := num_pos_iff b
      have hn2 : b.num = 0 ↔ b = 0 := Rat.num_eq_zero
      split
      · rw [sgQ_neg' (by grind), sgQ_neg' (by grind)]
      · rw [sgQ_pos hbc, sgQ_pos (by grind)]
    have habs : ∃ s : Rat, s = b * b * c ∧ ((sq2 b c).num.natAbs : Int) = s.num ∧ ((sq2 b c).den : Int) = (s.den : Int) := by
      refine ⟨_, rfl, ?_, ?_⟩
      · have := (num_pos_iff (b * b * c)).2 hbc
        unfold sq2
        split
        · rw [Rat.neg_num]; omega
        · omega
      · unfold sq2
        split
        · rw [Rat.neg_den]
        · rfl
    obtain ⟨s, hs1, hs2, hs3⟩ := habs
    have hab := hcmp a s _ (by rw [hs1]; grind) hs2
    rw [if_neg hnz, hsg, hs3, hab]
    show (if sgQ a = -sgQ b then sgQ a * _ else sgQ b) = _
    have hN : nrm a b c = a * a - s := by rw [hs1]; rfl
    have hne : nrm a b c ≠ 0 := fun e => hb (nrm_ne (.inr ⟨hb, hc, hs⟩) e).2
    rw [← hN]
    have c1 := sgQ_cases a
    have c2 := sgQ_cases b
    rcases (by grind : nrm a b c < 0 ∨ 0 < nrm a b c) with n | n
    · rw [sgN_neg n, sgQ_neg' n]
      split
      · omega
      · rfl
    · rw [sgN_pos n, sgQ_pos n]
      split
      · omega
      · rename_i hd
        by_cases ha : a = 0
        · subst ha; unfold nrm at n; grind
        · have ha' : sgQ a ≠ 0 := by rcases c1 with ⟨k, e⟩ | ⟨k, e⟩ | ⟨k, e⟩ <;> first | (rw [e]; decide) | grind
          have hb' : sgQ b ≠ 0 := by rcases c2 with ⟨k, e⟩ | ⟨k, e⟩ | ⟨k, e⟩ <;> first | (rw [e]; decide) | grind
          omega
end Go.Proofs.YtdblkeeicmncfaaGreat
end

/- ---- Rtb ---- -/
section
/-
  Numbers a + b sqrt(c), rounded down.
-/
set_option maxRecDepth 100000
namespace Go.Proofs.YtdblkeeicmncfaaGreat
open Go.RowKit

/-- n is a + b sqrt(c), rounded down. -/
def IsFl (a b c : Rat) (n : Int) : Prop := 0 ≤ sgN (a - (n : Rat)) b c ∧ sgN (a - ((n + 1 : Int) : Rat)) b c < 0
theorem IsFl.unique {a b c : Rat} (R : Rd b c) {n m : Int} (h : IsFl a b c n) (k : IsFl a b c m) : n = m := by
  have key : ∀ {n m : Int}, IsFl a b c n → IsFl a b c m → n ≤ m := by
    intro n m h k
    refine Decidable.byContradiction fun hn => ?_
    have e : ((m + 1 : Int) : Rat) ≤ (n : Rat) := Rat.intCast_le_intCast.2 (by omega)
    have := sgN_mono R (x := a - (n : Rat)) (y := a - ((m + 1 : Int) : Rat)) (by grind) h.1
    have := k.2
    omega
  exact Int.le_antisymm (key h k) (key k h)
theorem IsFl.zero {a : Rat} : IsFl a 0 0 a.floor := by
  have s1 : ∀ q : Rat, sgN q 0 0 = sgQ q := by
    intro q
    by_cases hq : q = 0
    · subst hq; rw [sgN_zero (by unfold nrm; grind)]; rfl
    · rw [sgN_pos (by have := sq_pos hq; unfold nrm; grind)]
  have h1 := Rat.floor_le a
  have h2 := Rat.lt_floor_add_one a
  unfold IsFl
  rw [s1, s1]
  constructor
  · rcases sgQ_cases (a - (a.floor : Rat)) with ⟨k, e⟩ | ⟨k, e⟩ | ⟨k, e⟩ <;> rw [e] <;> first | omega | grind
  · rw [sgQ_neg' (by grind)]; omega
theorem isq_bounds {y : Int} (h : 0 ≤ y) : 0 ≤ isq y ∧ isq y * isq y ≤ y ∧ y < (isq y + 1) * (isq y + 1) := by
  unfold isq
  rw [if_neg (by omega)]
  obtain ⟨h1, h2⟩ := isqN_spec y.natAbs
  have e : ((y.natAbs : Nat) : Int) = y := by omega
  refine ⟨by omega, ?_, ?_⟩
  · have : ((isqN y.natAbs * isqN y.natAbs : Nat) : Int) ≤ ((y.natAbs : Nat) : Int) := by exact_mod_cast h1
    rw [Int.natCast_mul, e] at this
    exact this
  · have : ((y.natAbs : Nat) : Int) < (((isqN y.natAbs + 1) * (isqN y.natAbs + 1) : Nat) : Int) := by exact_mod_cast h2
    rw [Int.natCast_mul, e] at this
    exact this
theorem castQ_mul (x y : Int) : ((x * y : Int) : Rat) = (x : Rat) * (y : Rat) := Rat.intCast_mul x y
/-- The rounding: x is a D, Y is b b c D D. -/
theorem fl_spec {a b c : Rat} {x Y D : Int} (hb : b ≠ 0) (hc : 0 < c) (hs : ∀ q : Rat, q * q ≠ c) (hD : 0 < D) (hx : a * (D : Rat) = (x : Rat)) (hY : b * b * c * ((D : Rat) * (D : Rat)) = (Y : Rat)) :
    IsFl a b c (dq (x + (if b < 0 then - (isq Y + 1) else isq Y)) D) := by
  have R : Rd b c := .inr ⟨hb, hc, hs⟩
  have hDq : (0 : Rat) < (D : Rat) := Rat.intCast_pos.2 hD
  have hDD := Rat.mul_pos hDq hDq
  have hbbc := Rat.mul_pos (sq_pos hb) hc
  have hYp : 0 < Y := by
    have := Rat.mul_pos hbbc hDD
    rw [hY] at this
    exact Rat.intCast_pos.1 this
  obtain ⟨w0, w1, w2⟩ := isq_bounds (y := Y) (by omega)
  generalize isq Y = w at *
  -- the sign of the norm, over integers
  have nn : ∀ m : Int, nrm (a - (m : Rat)) b c * ((D : Rat) * (D : Rat)) = (((x - m * D) * (x - m * D) - Y : Int) : Rat) := by
    intro m
    rw [Rat.intCast_sub, castQ_mul, Rat.intCast_sub, castQ_mul, ← hx, ← hY]
    unfold nrm
    grind
  have npos : ∀ m : Int, 0 < (x - m * D) * (x - m * D) - Y → 0 < nrm (a - (m : Rat)) b c := by
    intro m h
    refine Decidable.byContradiction fun hn => ?_
    have h2 : 0 ≤ (-(nrm (a - (m : Rat)) b c)) * ((D : Rat) * (D : Rat)) := Rat.mul_nonneg (by grind) (by grind)
    have h3 := Rat.intCast_pos.2 h
    rw [← nn m] at h3
    grind
  have nneg : ∀ m : Int, (x - m * D) * (x - m * D) - Y < 0 → nrm (a - (m : Rat)) b c < 0 := by
    intro m h
    refine Decidable.byContradiction fun hn => ?_
    have h2 : 0 ≤ (nrm (a - (m : Rat)) b c) * ((D : Rat) * (D : Rat)) := Rat.mul_nonneg (by grind) (by grind)
    have h3 : (((x - m * D) * (x - m * D) - Y : Int) : Rat) < ((0 : Int) : Rat) := Rat.intCast_lt_intCast.2 h
    rw [← nn m] at h3
    have : ((0 : Int) : Rat) = 0 := rfl
    grind
  have nzero : ∀ m : Int, (x - m * D) * (x - m * D) - Y ≠ 0 := by
    intro m h
    have h3 := nn m
    rw [h] at h3
    have e0 : ((0 : Int) : Rat) = 0 := rfl
    rw [e0] at h3
    rcases Rat.mul_eq_zero.1 h3 with h4 | h4
    · exact hb (nrm_ne R h4).2
    · grind
  have sga : ∀ m : Int, (0 < x - m * D → sgQ (a - (m : Rat)) = 1) ∧ (x - m * D < 0 → sgQ (a - (m : Rat)) = -1) := by
    intro m
    have e : (a - (m : Rat)) * (D : Rat) = ((x - m * D : Int) : Rat) := by rw [Rat.intCast_sub, castQ_mul, ← hx]; grind
    constructor
    · intro h
      refine sgQ_pos ?_
      have h3 := Rat.intCast_pos.2 h
      rw [← e] at h3
      refine Decidable.byContradiction fun hn => ?_
      have : 0 ≤ (-(a - (m : Rat))) * (D : Rat) := Rat.mul_nonneg (by grind) (by grind)
      grind
    · intro h
      refine sgQ_neg' ?_
      have h3 : ((x - m * D : Int) : Rat) < ((0 : Int) : Rat) := Rat.intCast_lt_intCast.2 h
      rw [← e] at h3
      have e0 : ((0 : Int) : Rat) = 0 := rfl
      refine Decidable.byContradiction fun hn => ?_
      have : 0 ≤ (a - (m : Rat)) * (D : Rat) := Rat.mul_nonneg (by grind) (by grind)
      grind
  -- the quotient
  have hq : ∀ W : Int, dq (x + W) D * D ≤ x + W ∧ x + W < (dq (x + W) D + 1) * D := by
    intro W
    rw [dq_pos hD]
    exact ⟨Int.ediv_mul_le _ (by omega), Int.lt_ediv_add_one_mul_self _ hD⟩
  have sq_le : ∀ {u v : Int}, 0 ≤ u → u ≤ v → u * u ≤ v * v := by
    intro u v h1 h2
    exact Int.mul_le_mul h2 h2 h1 (by omega)
  have hsq : ∀ u : Int, u * u = (-u) * (-u) := fun u => (Int.neg_mul_neg u u).symm
  unfold IsFl
  by_cases hbn : b < 0
  · rw [if_pos hbn]
    obtain ⟨q1, q2⟩ := hq (-(w + 1))
    generalize dq (x + -(w + 1)) D = n at *
    have sb : sgQ b = -1 := sgQ_neg' hbn
    constructor
    · have t : w + 1 ≤ x - n * D := by omega
      have := sq_le (u := w + 1) (v := x - n * D) (by omega) t
      rw [sgN_pos (npos n (by omega)), (sga n).1 (by omega)]
      omega
    · have t : x - (n + 1) * D ≤ w := by omega
      have hz := nzero (n + 1)
      rcases (by omega : (x - (n + 1) * D) * (x - (n + 1) * D) - Y < 0 ∨ 0 < (x - (n + 1) * D) * (x - (n + 1) * D) - Y) with h | h
      · rw [sgN_neg (nneg _ h), sb]; omega
      · have hneg : x - (n + 1) * D < 0 := by
          refine Decidable.byContradiction fun hn => ?_
          have := sq_le (u := x - (n + 1) * D) (v := w) (by omega) t
          omega
        rw [sgN_pos (npos _ h), (sga _).2 hneg]; omega
  · rw [if_neg hbn]
    obtain ⟨q1, q2⟩ := hq w
    generalize dq (x + w) D = n at *
    have sb : sgQ b = 1 := sgQ_pos (by grind)
    constructor
    · have t : -w ≤ x - n * D := by omega
      have hz := nzero n
      rcases (by omega : (x - n * D) * (x - n * D) - Y < 0 ∨ 0 < (x - n * D) * (x - n * D) - Y) with h | h
      · rw [sgN_neg (nneg _ h), sb]; omega
      · have hpos : 0 < x - n * D := by
          refine Decidable.byContradiction fun hn => ?_
          have := sq_le (u := -(x - n * D)) (v := w) (by omega) (by omega)
          rw [← hsq] at this
          omega
        rw [sgN_pos (npos _ h), (sga _).1 hpos]; omega
    · have t : x - (n + 1) * D ≤ -(w + 1) := by omega
      have := sq_le (u := w + 1) (v := -(x - (n + 1) * D)) (by omega) (by omega)
      rw [← hsq] at this
      rw [sgN_pos (npos (n + 1) (by omega)), (sga _).2 (by omega)]
      omega
end Go.Proofs.YtdblkeeicmncfaaGreat
end
