/-
  Texts of this seat, joined.
-/
import Derived.Test.YtdleiiboffkidaaJ4
import Derived.Laws.AppendOwnNone
import Derived.Deep.DeepCutAuto
import Derived.Deep.CutBlock
import Derived.Deep.LoopGhost
/- ---- Ratq ---- -/
section
/-
  Rational numbers, as Lean has them, and what the program computes of them.
-/
set_option maxRecDepth 100000
namespace Go.Proofs.Ytdleiiboffkidaa
open Go.RowKit

theorem dq_pos {x y : Int} (h : 0 < y) : dq x y = x / y := by
  unfold dq
  rw [if_neg (by omega), Int.fdiv_eq_ediv_of_nonneg _ (by omega)]
theorem dq_one (x : Int) : dq x 1 = x := by rw [dq_pos (by omega), Int.ediv_one]
theorem gcd_one_right (x : Int) : ((Nat.gcd x.natAbs (1 : Int).natAbs : Nat) : Int) = 1 := by simp
theorem div_at_one {n : Int} {g : Nat} (h : g = 1) : n = n / (g : Int) := by subst h; simp
theorem div_at_one' {n g : Nat} (h : g = 1) : n = n / g := by subst h; simp
/-- The sum's parts. -/
theorem add_parts (a b : Rat) : (a + b).num = (a.num * ((b.den / a.den.gcd b.den : Nat) : Int) + b.num * ((a.den / a.den.gcd b.den : Nat) : Int)) / ((a.num * ((b.den / a.den.gcd b.den : Nat) : Int) + b.num * ((a.den / a.den.gcd b.den : Nat) : Int)).natAbs.gcd (a.den.gcd b.den) : Nat) ∧
    (a + b).den = a.den / a.den.gcd b.den * b.den / (a.num * ((b.den / a.den.gcd b.den : Nat) : Int) + b.num * ((a.den / a.den.gcd b.den : Nat) : Int)).natAbs.gcd (a.den.gcd b.den) := by
  have e : a + b = Rat.add a b := rfl
  rw [e]
  unfold Rat.add
  simp only
  split
  · rename_i hg
    simp [hg]
  · rename_i hg
    simp only [Rat.maybeNormalize]
    split
    · rename_i h1
      exact ⟨div_at_one h1, div_at_one' h1⟩
    · simp [Int.divExact, Nat.divExact]
theorem mul_parts (a b : Rat) : (a * b).num = a.num / (a.num.natAbs.gcd b.den : Nat) * (b.num / (b.num.natAbs.gcd a.den : Nat)) ∧ (a * b).den = a.den / b.num.natAbs.gcd a.den * (b.den / a.num.natAbs.gcd b.den) := by
  have e : a * b = Rat.mul a b := rfl
  rw [e]
  unfold Rat.mul
  simp [Int.divExact, Nat.divExact]


/-- A rational number in memory. -/
def IsRat (w : World) (v : Value) (q : Rat) : Prop := ∃ a b c d, v = .agg #[a, b, c, d] ∧ IsInt w (.agg #[a, b]) q.num ∧ IsInt w (.agg #[c, d]) (q.den : Int)
def LimQ (l : Nat) (q : Rat) : Prop := Lim l q.num ∧ Lim l (q.den : Int)
theorem IsRat.ext {w w' : World} {v : Value} {q : Rat} (h : IsRat w v q) (e : Ext w w') : IsRat w' v q := by
  obtain ⟨a, b, c, d, h1, h2, h3⟩ := h
  exact ⟨a, b, c, d, h1, h2.ext e, h3.ext e⟩
theorem one_rat {E : Env} {w : World} {s t : IT} {l m : Nat} {v : Value} : one E w (true, [.int s l, .int t m]) v ↔ ∃ a b c d, v = .agg #[a, b, c, d] ∧ IsInt w (.agg #[a, b]) (s.den E) ∧ Lim l (s.den E) ∧ IsInt w (.agg #[c, d]) (t.den E) ∧ Lim m (t.den E) := by
  constructor
  · rintro ⟨vs, rfl, l1, r1, h1, ⟨x, y, rfl, hI, hl⟩, l2, r2, rfl, ⟨z, u, rfl, hI2, hl2⟩, h3⟩
    simp only [chunks] at h3
    subst h3
    subst h1
    exact ⟨x, y, z, u, rfl, hI, hl, hI2, hl2⟩
  · rintro ⟨x, y, z, u, rfl, hI, hl, hI2, hl2⟩
    exact ⟨[x, y, z, u], rfl, [x, y], [z, u], rfl, ⟨x, y, rfl, hI, hl⟩, [z, u], [], rfl, ⟨z, u, rfl, hI2, hl2⟩, rfl⟩
/-- The parts of rational numbers, two by two. -/
def qE (l : List Rat) : Env := ⟨fun i => if i % 2 = 0 then (l.getD (i / 2) 0).num else ((l.getD (i / 2) 0).den : Int), fun _ => false, fun _ => (false, []), fun _ => []⟩
def zE (l : List Int) : Env := ⟨fun i => l.getD i 0, fun _ => false, fun _ => (false, []), fun _ => []⟩
def argZ (i : Nat) : AV := .val true [.int (.var i) 400000]
def argQ (i : Nat) : AV := .val true [.int (.var (2 * i)) 100000, .int (.var (2 * i + 1)) 100000]
theorem no_asm {E : Env} : Asm.holds E [] := fun p hp => by cases hp

end Go.Proofs.Ytdleiiboffkidaa
end

/- ---- Ratd ---- -/
section
/-
  The small functions of package rational, walked by reckoning.
-/
set_option maxRecDepth 100000
namespace Go.Proofs.Ytdleiiboffkidaa
open Go.RowKit

theorem mixed : Try.prog.follows .mixedOrders = true := by decide +kernel
section
variable {tab : List (Nat × Con)} {f : Nat} {fn : Func} {T : Tree} {w : World}
theorem walk0 (ht : TabOK Try.prog (zE []) tab) (hf : Try.prog.funcs[f]? = some fn) (hT : funE (cfgOf tab) fn [] [] = some T) (h4 : fn.results.toList.length ≤ 4) :
    Calls Try.prog f #[] w fun e w' => ∃ β v, e = .returned v ∧ (toAV (T.pick (zE []))).holds (zE []) β w' v ∧ Ext w w' := by
  refine fun_sound mixed (cfg_ok ht) no_asm hf h4 hT (Nat.zero_le _) rfl w [] rfl ?_
  intro i x hx
  cases hx
theorem walkZ1 {z1 : Int} {v1 : Value} (ht : TabOK Try.prog (zE [z1]) tab) (hf : Try.prog.funcs[f]? = some fn) (hT : funE (cfgOf tab) fn [] [argZ 0] = some T) (h4 : fn.results.toList.length ≤ 4) (hn : 1 ≤ fn.ntmps)
    (h1 : IsInt w v1 z1) (l1 : Lim 400000 z1) :
    Calls Try.prog f #[v1] w fun e w' => ∃ β v, e = .returned v ∧ (toAV (T.pick (zE [z1]))).holds (zE [z1]) β w' v ∧ Ext w w' := by
  refine fun_sound mixed (cfg_ok ht) no_asm hf h4 hT hn rfl w [v1] rfl ?_
  intro i x hx
  match i, hx with
  | 0, hx => injection hx with hx; subst hx; exact ⟨fun _ => 0, v1, rfl, one_int.2 ⟨h1, l1⟩⟩
theorem walkZ2 {z1 z2 : Int} {v1 v2 : Value} (ht : TabOK Try.prog (zE [z1, z2]) tab) (hf : Try.prog.funcs[f]? = some fn) (hT : funE (cfgOf tab) fn [] [argZ 0, argZ 1] = some T) (h4 : fn.results.toList.length ≤ 4) (hn : 2 ≤ fn.ntmps)
    (h1 : IsInt w v1 z1) (h2 : IsInt w v2 z2) (l1 : Lim 400000 z1) (l2 : Lim 400000 z2) :
    Calls Try.prog f #[v1, v2] w fun e w' => ∃ β v, e = .returned v ∧ (toAV (T.pick (zE [z1, z2]))).holds (zE [z1, z2]) β w' v ∧ Ext w w' := by
  refine fun_sound mixed (cfg_ok ht) no_asm hf h4 hT hn rfl w [v1, v2] rfl ?_
  intro i x hx
  match i, hx with
  | 0, hx => injection hx with hx; subst hx; exact ⟨fun _ => 0, v1, rfl, one_int.2 ⟨h1, l1⟩⟩
  | 1, hx => injection hx with hx; subst hx; exact ⟨fun _ => 0, v2, rfl, one_int.2 ⟨h2, l2⟩⟩
theorem argQ_holds {E : Env} {β : Nat → Nat} {v : Value} {q : Rat} {i : Nat} (h : IsRat w v q) (l : LimQ 100000 q) (e1 : E.i (2 * i) = q.num) (e2 : E.i (2 * i + 1) = (q.den : Int)) : (argQ i).holds E β w v := by
  obtain ⟨a, b, c, d, rfl, h1, h2⟩ := h
  refine one_rat.2 ⟨a, b, c, d, rfl, ?_, ?_, ?_, ?_⟩
  · show IsInt w _ (E.i (2 * i)); rw [e1]; exact h1
  · show Lim 100000 (E.i (2 * i)); rw [e1]; exact l.1
  · show IsInt w _ (E.i (2 * i + 1)); rw [e2]; exact h2
  · show Lim 100000 (E.i (2 * i + 1)); rw [e2]; exact l.2
theorem walkQ1 {q1 : Rat} {v1 : Value} (ht : TabOK Try.prog (qE [q1]) tab) (hf : Try.prog.funcs[f]? = some fn) (hT : funE (cfgOf tab) fn [] [argQ 0] = some T) (h4 : fn.results.toList.length ≤ 4) (hn : 1 ≤ fn.ntmps)
    (h1 : IsRat w v1 q1) (l1 : LimQ 100000 q1) :
    Calls Try.prog f #[v1] w fun e w' => ∃ β v, e = .returned v ∧ (toAV (T.pick (qE [q1]))).holds (qE [q1]) β w' v ∧ Ext w w' := by
  refine fun_sound mixed (cfg_ok ht) no_asm hf h4 hT hn rfl w [v1] rfl ?_
  intro i x hx
  match i, hx with
  | 0, hx => injection hx with hx; subst hx; exact ⟨fun _ => 0, v1, rfl, argQ_holds h1 l1 rfl rfl⟩
theorem walkQ2 {q1 q2 : Rat} {v1 v2 : Value} (ht : TabOK Try.prog (qE [q1, q2]) tab) (hf : Try.prog.funcs[f]? = some fn) (hT : funE (cfgOf tab) fn [] [argQ 0, argQ 1] = some T) (h4 : fn.results.toList.length ≤ 4) (hn : 2 ≤ fn.ntmps)
    (h1 : IsRat w v1 q1) (h2 : IsRat w v2 q2) (l1 : LimQ 100000 q1) (l2 : LimQ 100000 q2) :
    Calls Try.prog f #[v1, v2] w fun e w' => ∃ β v, e = .returned v ∧ (toAV (T.pick (qE [q1, q2]))).holds (qE [q1, q2]) β w' v ∧ Ext w w' := by
  refine fun_sound mixed (cfg_ok ht) no_asm hf h4 hT hn rfl w [v1, v2] rfl ?_
  intro i x hx
  match i, hx with
  | 0, hx => injection hx with hx; subst hx; exact ⟨fun _ => 0, v1, rfl, argQ_holds h1 l1 rfl rfl⟩
  | 1, hx => injection hx with hx; subst hx; exact ⟨fun _ => 0, v2, rfl, argQ_holds h2 l2 rfl rfl⟩
theorem walkQ2f {q1 q2 : Rat} {v1 v2 : Value} {g : Nat} (ht : TabOK Try.prog (qE [q1, q2]) tab) (hf : Try.prog.funcs[f]? = some fn) (hT : funE (cfgOf tab) fn [] [argQ 0, argQ 1, .val false [.fn g]] = some T) (h4 : fn.results.toList.length ≤ 4) (hn : 3 ≤ fn.ntmps)
    (h1 : IsRat w v1 q1) (h2 : IsRat w v2 q2) (l1 : LimQ 100000 q1) (l2 : LimQ 100000 q2) :
    Calls Try.prog f #[v1, v2, .func (.func g) #[] #[]] w fun e w' => ∃ β v, e = .returned v ∧ (toAV (T.pick (qE [q1, q2]))).holds (qE [q1, q2]) β w' v ∧ Ext w w' := by
  refine fun_sound mixed (cfg_ok ht) no_asm hf h4 hT hn rfl w [v1, v2, .func (.func g) #[] #[]] rfl ?_
  intro i x hx
  match i, hx with
  | 0, hx => injection hx with hx; subst hx; exact ⟨fun _ => 0, v1, rfl, argQ_holds h1 l1 rfl rfl⟩
  | 1, hx => injection hx with hx; subst hx; exact ⟨fun _ => 0, v2, rfl, argQ_holds h2 l2 rfl rfl⟩
  | 2, hx => injection hx with hx; subst hx; exact ⟨fun _ => 0, _, rfl, ⟨⟨[_], [], rfl, rfl, rfl⟩, rfl⟩⟩
end

end Go.Proofs.Ytdleiiboffkidaa
end

/- ---- Rby ---- -/
section
/-
  by, of the reference; and an append to a slice of one limb.
-/
set_option maxRecDepth 100000
namespace Go.Proofs.Ytdleiiboffkidaa
open Go.RowKit

theorem run_append_nil' {P : Program} {w : World} (base : Nat) (t ty e : TypeId) (i : TypeInfo) (size : Nat) (ht : P.underlying t = some (.slice e)) (hi : P.info? e = some i)
    (v : Value) (n : Nat) (xs : List Value) (hown : w.ownsRow base e size v n xs) (c : Nat) : (Builtin.append_ #[t, t] ty #[v, .slice none 0 c]).run P w = .ok v w := by
  rcases hown.2 with ⟨rfl, rfl⟩ | ⟨g, cap, cur, rfl, _, _, hnc, _⟩
  · simp [Builtin.append_, run_underlying ht, sizeOf, typeInfo, hi, Builtin.lenOf, Builtin.firstCells]
  · simp [Builtin.append_, run_underlying ht, sizeOf, typeInfo, hi, Builtin.lenOf, Builtin.firstCells, hnc, storeCells]
/-- What an append of limbs to a slice of one limb leaves. -/
theorem run_append_cons (w : World) (ty : TypeId) (x : Nat) (X : Int) (hX : X = x) (ao : Option Addr) (xs : List Nat) (c : Nat) (lx : xs.length ≤ 1099511627776) (h : Cells w ao xs) :
    ∃ ao' cap w1, (Builtin.append_ #[22, 22] ty #[.slice (some ⟨w.heap.size, 0, none⟩) 1 1, .slice ao xs.length c]).run Try.prog (w.alloc (.cells #[.int .u32 X] 67)) = .ok (.slice ao' (xs.length + 1) cap) w1 ∧
      xs.length + 1 ≤ cap ∧ cap ≤ 9223372036854775807 ∧ Ext w w1 ∧ Cells w1 ao' (x :: xs) := by
  subst hX
  obtain ⟨i0, hi, hz0, hz1, hz2⟩ := info_parts info_u32
  have hown : (w.alloc (.cells #[.int .u32 (x : Int)] 67)).ownsRow w.heap.size 67 1 (.slice (some ⟨w.heap.size, 0, none⟩) 1 1) 1 [.int .u32 (x : Int)] :=
    ⟨by simp, .inr ⟨w.heap.size, 1, #[.int .u32 (x : Int)], rfl, Nat.le_refl _, heap_alloc_new w _, Nat.le_refl _, by unfold maxLen; omega, by simp, by simp⟩⟩
  rcases ao with _ | a
  · obtain rfl : xs = [] := by
      rcases h with h | ⟨b, off, hh, _⟩
      · exact h
      · cases hh
    exact ⟨_, 1, _, run_append_nil' (P := Try.prog) w.heap.size 22 ty 67 i0 1 Try.underlying22 hi _ 1 _ hown c, by simp, by omega, (Ext.refl w).alloc _, (Blk.new w [x]).cells⟩
  · have hnews : ∀ j u, (xs.map fun x => Value.int .u32 ((x : Nat) : Int))[j]? = some u → (w.alloc (.cells #[.int .u32 (x : Int)] 67)).cell? (a.add j) = some u := by
      intro j u hu
      refine ((Ext.refl w).alloc _).cell ?_
      rcases h with h | ⟨b, off, hh, hx⟩
      · subst h; simp at hu
      · injection hh with hh
        subst hh
        rw [List.getElem?_map] at hu
        obtain ⟨x, hx1, rfl⟩ := Option.map_eq_some_iff.1 hu
        have hj : j < xs.length := (List.getElem?_eq_some_iff.1 hx1).1
        have := hx j hj
        rw [List.getD_eq_getElem?_getD, hx1] at this
        by_cases h0 : j = 0
        · subst h0; simpa [Addr.add] using this
        · simpa [Addr.add, h0] using this
    obtain ⟨v', w1, hrun, hown1, hgrow, hnil⟩ := run_append_own (P := Try.prog) (w.alloc (.cells #[.int .u32 (x : Int)] 67)) w.heap.size 22 ty 67 i0 (.int .u32 0) 1 4 Try.underlying22 hi hz0 hz1 hz2 rfl (by decide) _ 1 _ hown a xs.length c (xs.map fun x => Value.int .u32 ((x : Nat) : Int)) (by simp) hnews
      (by intro u hu; obtain ⟨x, _, rfl⟩ := List.mem_map.1 hu; rfl) (by unfold maxLen; omega) (by omega) (by simp)
    have hown2 : w1.ownsRow w.heap.size 67 1 v' (x :: xs).length ((x :: xs).map fun x => Value.int .u32 ((x : Nat) : Int)) := by
      rw [List.length_cons, Nat.add_comm xs.length 1]
      exact hown1
    have hE : Ext w w1 := Below.grown ((Ext.refl w).alloc _) hgrow (by simp) (fun k hk => by simp [Value.ownBlock] at hk; omega)
    rcases hown2.2 with ⟨rfl, h0⟩ | ⟨g, cap, cur, rfl, hg, _, hnc, hcm, _, _⟩
    · simp at h0
    · exact ⟨_, cap, w1, hrun, hnc, by unfold maxLen at hcm; omega, hE, (Blk.of_owns hown2).cells⟩

theorem limbs_one (n : Nat) : limbs (val [n]) = limbs n := by simp [val]

theorem Blk.take {w : World} {g : Nat} {zs : List Nat} (h : Blk w g zs) (k : Nat) : Blk w g (zs.take k) := by
  obtain ⟨sp, h⟩ := h
  refine ⟨u32s (zs.drop k) ++ sp, ?_⟩
  rw [h, ← Array.append_assoc]
  congr 2
  congr 1
  apply Array.toList_inj.1
  simp only [u32s, Array.toList_append]
  rw [← List.map_append, List.take_append_drop]
theorem Blk.trim {w : World} {g : Nat} {zs : List Nat} (h : Blk w g zs) (hd : Dig zs) : Blk w g (limbs (val zs)) := by
  rw [← take_trimN hd]; exact h.take _
/-- The limbs of a number, at the beginning of a block from B on. -/
def FreshLimbs (B n : Nat) (v : Value) (w : World) : Prop := ∃ g cap, v = .slice (some ⟨g, 0, none⟩) (limbs n).length cap ∧ B ≤ g ∧ (limbs n).length ≤ cap ∧ cap ≤ 9223372036854775807 ∧ Blk w g (limbs n)
theorem FreshLimbs.is {B n : Nat} {v : Value} {w : World} (h : FreshLimbs B n v w) : IsLimbs n v w := by
  obtain ⟨g, cap, h1, _, h3, h4, h5⟩ := h
  exact ⟨some ⟨g, 0, none⟩, cap, h1, h3, h4, h5.cells⟩

set_option maxRecDepth 100000 in
set_option maxHeartbeats 1600000 in
theorem times_fresh (w : World) (ax ay : Option Addr) (xs ys : List Nat) (cx cy : Nat) (lx : xs.length ≤ 1099511627776) (ly : ys.length ≤ 1099511627776) (hx : Cells w ax xs) (hy : Cells w ay ys) (dx : Dig xs) (dy : Dig ys) :
    Calls Try.prog 83 #[.slice ax xs.length cx, .slice ay ys.length cy] w (Ret (FreshLimbs w.heap.size (val xs * val ys)) w) := by
  have hmk := run_mk (xs.length + ys.length) (by omega) (↑xs.length + ↑ys.length) (by omega)
  go_enter Try.func83, Try.ntmps83
  go_wp2
  clear hmk
  have h0 : TimesOut w w.heap.size xs ys 0 (w.alloc (.cells (u32s (List.replicate (xs.length + ys.length) 0)) 67)) := by
    refine ⟨List.replicate (xs.length + ys.length) 0, by simp, Dig.replicate _, Blk.new _ _, (Ext.refl w).alloc _, ?_, ?_⟩
    · have : ∀ n, val (List.replicate n 0) = 0 := by
        intro n; induction n with
        | zero => rfl
        | succ n ih => rw [List.replicate_succ, val, ih]
      rw [this]; simp [val]
    · intro j _; simp only [List.getD_eq_getElem?_getD, List.getElem?_replicate]; split <;> rfl
  go_loopw [6, 7, 8] (fun i _ _ wr => ∃ k : Nat, k ≤ xs.length ∧ i = .int .i64 k ∧ TimesOut w w.heap.size xs ys k wr) (fun i _ _ _ => xs.length - (intOf i).toNat)
  case atStart => exact ⟨0, Nat.zero_le _, rfl, h0⟩
  case round =>
    obtain ⟨i, hi, rfl, hR⟩ := hrel
    clear h0
    by_cases hi2 : i < xs.length
    · have hR0 := hR.begin_
      clear hR
      obtain ⟨b1, o1, rfl, hx1⟩ := hx.at_ (by omega)
      have bx0 := dx i
      go_wp2
      obtain ⟨wo, rfl⟩ : ∃ wo : World, wo = wr := ⟨_, rfl⟩
      go_loopw [7, 8] (fun c n wr => ∃ k cv : Nat, k ≤ ys.length ∧ n = .int .i64 k ∧ c = .int .u64 cv ∧ (cv : Int) < 1000000000 ∧ TimesIn w w.heap.size xs ys i k cv wr) (fun _ n _ => ys.length - (intOf n).toNat)
      case atStart => exact ⟨0, 0, Nat.zero_le _, rfl, rfl, by omega, hR0⟩
      case round =>
        obtain ⟨k, cv, hk, rfl, rfl, hcv, hR⟩ := hrel
        clear hR0
        by_cases hk2 : k < ys.length
        · obtain ⟨b2, o2, rfl, hy1⟩ := hy.at_ (by omega)
          obtain ⟨z, bz, hzc, hzf, hE, HST⟩ := hR.at_ (Nat.le_refl _) hi2 hk2
          have hcx := hE.cell (hx1 i hi2)
          have hcy := hE.cell (hy1 k hk2)
          have by0 := dy k
          clear hR hx1 hy1 dx dy hx hy
          generalize xs.getD i 0 = x at *
          generalize ys.getD k 0 = y at *
          have hm := mul_lt x y bx0 by0
          have bm : (x : Int) * (y : Int) ≤ 999999998000000001 := by rw [← Int.natCast_mul]; omega
          have bm0 : 0 ≤ (x : Int) * (y : Int) := by rw [← Int.natCast_mul]; omega
          have bx : (x : Int) < 1000000000 := by omega
          have by_ : (y : Int) < 1000000000 := by omega
          clear bx0 by0 hm
          have hi3 : (i : Int) < (xs.length : Int) := by omega
          have hk3 : (k : Int) < (ys.length : Int) := by omega
          go_wp2
          go_quiet (fail)
          go_wp2
          go_roundw
          case rel => exact ⟨k + 1, (cv + z + x * y) / 1000000000, by omega, by go_num, by rw [Int.natCast_ediv]; simp, by rw [Int.natCast_ediv]; simp; omega, HST.out _ _ _ rfl (by rw [Int.natCast_emod]; simp)⟩
          case measure => simp [intOf]; omega
        · obtain ⟨hzc, hzf, HST⟩ := hR.end_ (Nat.le_refl _) hi2 (by omega) (by omega)
          clear hx1 hR dx dy hx hy bx0
          go_wp2
          go_roundw
          case rel => exact ⟨i + 1, by omega, by go_num, HST.out _ (by omega)⟩
          case measure => simp [intOf]; omega
    · obtain ⟨zs, h1, h2, h3, h4, h5, _⟩ := hR
      rw [List.take_of_length_le (by omega)] at h5
      have R1 := Lib.hid h1
      have R5 := Lib.hid h5
      clear h1 h5 dx dy
      go_wp2_with fail
      rw [← R1.out]
      refine (rtrim_calls _ _ _ _ (Nat.le_refl _) (by rw [R1.out]; omega) h3.cells h2).mono ?_
      rintro e w' ⟨rfl, rfl⟩
      go_wp2
      go_ret
      exact ⟨_, rfl, by rw [← R5.out]; exact ⟨_, _, rfl, Nat.le_refl _, by rw [← trimN_length h2]; exact trimN_le _ _, by rw [R1.out]; omega, h3.trim h2⟩, h4⟩

set_option maxRecDepth 100000 in
set_option maxHeartbeats 800000 in
theorem minus_fresh (w : World) (ax ay : Option Addr) (m n : Nat) (cx cy : Nat) (lx : (limbs m).length ≤ 1099511627776) (hmn : n ≤ m) (hx : Cells w ax (limbs m)) (hy : Cells w ay (limbs n)) :
    Calls Try.prog 88 #[.slice ax (limbs m).length cx, .slice ay (limbs n).length cy] w (Ret (FreshLimbs w.heap.size (m - n)) w) := by
  have hle := limbs_len_mono hmn
  have dx := dig_limbs m
  have dy := dig_limbs n
  have HV : Hid (val (limbs n) ≤ val (limbs m)) := by unfold Hid; rw [val_limbs, val_limbs]; exact hmn
  have HE : Hid (val (limbs m) - val (limbs n) = m - n) := by unfold Hid; rw [val_limbs, val_limbs]
  clear hmn
  generalize limbs m = xs at *
  generalize limbs n = ys at *
  have hmk := run_mk xs.length (by omega) (↑xs.length) (by omega)
  go_enter Try.func88, Try.ntmps88
  go_wp2
  clear hmk
  have h0 : SubRel w w.heap.size xs ys 0 0 (List.replicate xs.length 0) (w.alloc (.cells (u32s (List.replicate xs.length 0)) 67)) :=
    ⟨by simp, Dig.replicate _, Blk.new _ _, (Ext.refl w).alloc _, by simp [val]⟩
  go_loopw [6, 7, 8] (fun c n _ wr => ∃ (k bv : Nat) (zs : List Nat), k ≤ xs.length ∧ n = .int .i64 k ∧ c = .int .u32 bv ∧ bv ≤ 1 ∧ SubRel w w.heap.size xs ys k bv zs wr) (fun _ n _ _ => xs.length - (intOf n).toNat)
  case atStart => exact ⟨0, 0, _, Nat.zero_le _, rfl, rfl, by omega, h0⟩
  case round =>
    obtain ⟨k, bv, zs, hk, rfl, rfl, hbv, hR⟩ := hrel
    clear h0
    by_cases hk2 : k < xs.length
    · have hzc := hR.2.2.1.cell k (by have := hR.1; omega)
      have hzf := hR.2.2.1.frozen k
      obtain ⟨b1, o1, rfl, hx1⟩ := hx.at_ (by omega)
      have hcx := hR.2.2.2.1.cell (hx1 k hk2)
      have bx0 := dx k
      have by0 := dy k
      have hst := fun d bv' hd he V hV => hR.step (Nat.le_refl _) hk2 d bv' hd he (V := V) hV
      have HST := Lib.hid hst
      clear hst hx1
      by_cases hk3 : k < ys.length
      · obtain ⟨b2, o2, rfl, hy1⟩ := hy.at_ (by omega)
        have hcy := hR.2.2.2.1.cell (hy1 k hk3)
        clear hy1
        generalize xs.getD k 0 = x at *
        generalize ys.getD k 0 = y at *
        have bx : (x : Int) < 1000000000 := by omega
        have by_ : (y : Int) < 1000000000 := by omega
        clear bx0 by0
        by_cases hb : (1000000000 : Int) ≤ x + 1000000000 - bv - y
        · go_wp2
          go_roundw
          case rel => exact ⟨k + 1, 0, _, by omega, by go_num, by go_num, by omega, HST.out (x - bv - y) 0 (by omega) (by omega) _ (by omega)⟩
          case measure => simp [intOf]; omega
        · go_wp2
          go_roundw
          case rel => exact ⟨k + 1, 1, _, by omega, by go_num, by go_num, by omega, HST.out (x + 1000000000 - bv - y) 1 (by omega) (by omega) _ (by omega)⟩
          case measure => simp [intOf]; omega
      · have hy0 : ys.getD k 0 = 0 := by rw [List.getD_eq_getElem?_getD, List.getElem?_eq_none (by omega)]; rfl
        rw [hy0] at HST
        clear hy0 by0
        generalize xs.getD k 0 = x at *
        have bx : (x : Int) < 1000000000 := by omega
        clear bx0
        by_cases hb : (1000000000 : Int) ≤ x + 1000000000 - bv
        · go_wp2
          go_roundw
          case rel => exact ⟨k + 1, 0, _, by omega, by go_num, by go_num, by omega, HST.out (x - bv) 0 (by omega) (by omega) _ (by omega)⟩
          case measure => simp [intOf]; omega
        · go_wp2
          go_roundw
          case rel => exact ⟨k + 1, 1, _, by omega, by go_num, by go_num, by omega, HST.out (x + 1000000000 - bv) 1 (by omega) (by omega) _ (by omega)⟩
          case measure => simp [intOf]; omega
    · have r5 := hR.val_eq (by omega) hle hbv HV.out
      obtain ⟨r1, r2, r3, r4, _⟩ := hR
      rw [HE.out] at r5
      have R1 := Lib.hid r1
      have R5 := Lib.hid r5
      clear r1 r5
      go_wp2_with fail
      rw [← R1.out]
      refine (rtrim_calls _ _ _ _ (Nat.le_refl _) (by rw [R1.out]; omega) r3.cells r2).mono ?_
      rintro e w' ⟨rfl, rfl⟩
      go_wp2
      go_ret
      exact ⟨_, rfl, by rw [← R5.out]; exact ⟨_, _, rfl, Nat.le_refl _, by rw [← trimN_length r2]; exact trimN_le _ _, by rw [R1.out]; omega, r3.trim r2⟩, r4⟩

set_option maxHeartbeats 800000 in
theorem rby_fresh (w : World) (ax : Option Addr) (m n cx : Nat) (lx : (limbs m).length ≤ 1099511627776) (hn : n < 1000000000) (hx : Cells w ax (limbs m)) :
    Calls Try.prog 101 #[.slice ax (limbs m).length cx, .int .u32 (n : Int)] w (Ret (FreshLimbs w.heap.size (m * n)) w) := by
  have hb := Blk.new w [n]
  have hd : Dig [n] := Dig.cons hn Dig.nil
  have ht := rtrim_calls (w.alloc (.cells (u32s [n]) 67)) (some ⟨w.heap.size, 0, none⟩) [n] 1 (by simp) (by omega) hb.cells hd
  have hc := (hb.cells).trim hd
  rw [limbs_one n] at ht hc
  have hl : (limbs n).length ≤ 1 := limbs_len_le (by omega)
  have hE : Ext w (w.alloc (.cells (u32s [n]) 67)) := (Ext.refl w).alloc _
  have htimes := times_fresh (w.alloc (.cells (u32s [n]) 67)) ax (some ⟨w.heap.size, 0, none⟩) (limbs m) (limbs n) cx 1 lx (by omega) (hx.ext hE) hc (dig_limbs m) (dig_limbs n)
  rw [val_limbs, val_limbs] at htimes
  have HT := Lib.hid ht
  have HM := Lib.hid htimes
  clear hb hd ht hc hl htimes lx hn hx
  go_enter Try.func101, Try.ntmps101
  go_wp2_with fail
  refine HT.out.mono ?_
  rintro e w' ⟨rfl, rfl⟩
  go_wp2_with fail
  refine HM.out.mono ?_
  rintro e w1 ⟨v, rfl, ⟨g1, c1, rfl, k0, k1, k2, k3⟩, e1⟩
  replace k0 : w.heap.size ≤ g1 := Nat.le_trans (by simp) k0
  go_wp2
  go_ret
  exact ⟨_, rfl, ⟨g1, c1, rfl, k0, k1, k2, k3⟩, hE.trans e1⟩

end Go.Proofs.Ytdleiiboffkidaa
end

/- ---- Rdm ---- -/
section
/-
  The long division of the reference: what its loops keep.
-/
set_option maxRecDepth 100000
namespace Go.Proofs.Ytdleiiboffkidaa
open Go.RowKit

/-- An append of which it is known what it leaves. -/
theorem wpList_append_run {P : Program} {w : World} {ops : Array Oper} {rest : List Oper} {o : Oper} {a : Act} {Q : Exit → Act → World → Prop} (hgd : o.guard = none) (s x : Operand) (t : TypeId)
    (ho : o.op = .call { callee := .builtin .append, args := #[s, x], argTypes := #[t, t] }) {vs vx v' : Value} {w' : World} (hs : a.eval s = vs) (hx : a.eval x = vx)
    (hrun : (Builtin.append_ #[t, t] o.type #[vs, vx]).run P w = .ok v' w') (h : wpList P ops Q rest (a.put o.dst v') w') : wpList P ops Q (o :: rest) a w := by
  refine wpList_plain hgd fun K hK => ?_
  unfold Oper.wp
  simp [execOp, ho, resolve, invoke, builtin, hs, hx, hrun, Result.andThen]
  exact hK _ _ h

/-- What the outer loop of parts keeps. -/
def PartRel (w : World) (g : Nat) (us : List Nat) (V k R : Nat) (qs : List Nat) (wr : World) : Prop :=
  qs.length = us.length ∧ Dig qs ∧ Blk wr g qs ∧ Ext w wr ∧ val (us.drop k) = V * val (qs.drop k) + R ∧ R < V
section
variable {w : World} {g : Nat} {us : List Nat} {V k R : Nat} {qs : List Nat} {wr : World}
theorem PartRel.step (h : PartRel w g us V (k + 1) R qs wr) (hg : w.heap.size ≤ g) (hk : k < us.length) (dx : Dig us) {w2 : World} (e : Ext wr w2) (R' q R2 : Nat) (hR : R' = us.getD k 0 + 1000000000 * R) (hq : q = R' / V) (hr : R2 = R' % V) {Y : Int} (hY : Y = q) :
    PartRel w g us V k R2 (qs.set k q) (w2.setCell ⟨g, k, none⟩ (.int .u32 Y)) ∧ q < 1000000000 := by
  obtain ⟨h1, h2, h3, h4, h5, h6⟩ := h
  have hx := dx k
  have hq1 : q < 1000000000 := by rw [hq]; exact Nat.div_lt_of_lt_mul (by rw [Nat.mul_comm]; omega)
  have hr1 : R2 < V := by rw [hr]; exact Nat.mod_lt _ (by omega)
  refine ⟨⟨by simpa using h1, h2.set k hq1, (h3.ext e).set' k q (by omega) hY, (h4.trans e).setCell (p := ⟨g, k, none⟩) hg _, ?_, hr1⟩, hq1⟩
  have e1 := val_drop us k hk
  have e2 := val_drop (qs.set k q) k (by simpa [h1] using hk)
  have e3 : (qs.set k q).getD k 0 = q := by simp [List.getD_eq_getElem?_getD, h1, hk]
  have e4 : (qs.set k q).drop (k + 1) = qs.drop (k + 1) := by rw [List.drop_set_of_lt (by omega)]
  have e5 := Nat.div_add_mod R' V
  rw [← hq, ← hr] at e5
  rw [e3, e4] at e2
  rw [e1, e2, h5]
  generalize val (qs.drop (k + 1)) = D
  generalize us.getD k 0 = x at *
  have e6 : V * (q + 1000000000 * D) = 1000000000 * (V * D) + V * q := by rw [Nat.mul_add, Nat.mul_left_comm]; omega
  omega
theorem PartRel.done (h : PartRel w g us V 0 R qs wr) : val qs = val us / V ∧ R = val us % V := by
  obtain ⟨h1, h2, h3, h4, h5, h6⟩ := h
  rw [List.drop_zero, List.drop_zero] at h5
  have := (Nat.div_mod_unique (a := val us) (d := val qs) (c := R) (b := V) (by omega)).2 ⟨by omega, h6⟩
  exact ⟨this.1.symm, this.2.symm⟩
end
/-- The digit's estimate is not too small. -/
theorem ref_est {R' V L : Nat} (hV : (limbs V).length = L + 1) (hR : R' < 1000000000 * V) :
    R' / V ≤ val ((limbs R').drop L) / val ((limbs V).drop L) ∧ R' / V ≤ 999999999 ∧ 0 < val ((limbs V).drop L) ∧ val ((limbs V).drop L) < 1000000000 ∧ (limbs R').length ≤ L + 2 := by
  have hVp : 0 < V := by omega
  have hl : (limbs R').length ≤ L + 2 := by
    have h1 := lt_of_limbs_len (n := V) (k := L + 1) (by omega)
    refine limbs_len_le ?_
    rw [Nat.pow_succ]; omega
  have t0 := limbs_last V (by intro e; rw [e] at hV; simp at hV)
  rw [hV, Nat.add_sub_cancel] at t0
  have hd := val_drop (limbs V) L (by omega)
  rw [List.drop_of_length_le (by omega : (limbs V).length ≤ L + 1)] at hd
  simp only [val] at hd
  have ht := dig_limbs V L
  have s1 := val_split (limbs V) L (by omega)
  rw [val_limbs] at s1
  refine ⟨?_, ?_, by omega, by omega, hl⟩
  · rw [Nat.le_div_iff_mul_le (by omega)]
    have hq := Nat.div_mul_le_self R' V
    rcases Nat.lt_or_ge L (limbs R').length with hlt | hge
    · have s2 := val_split (limbs R') L (by omega)
      rw [val_limbs] at s2
      have b2 := val_lt ((dig_limbs R').take L)
      rw [List.length_take, Nat.min_eq_left (by omega)] at b2
      generalize R' / V = Q at *
      generalize val ((limbs V).drop L) = T at *
      generalize val ((limbs R').drop L) = H at *
      generalize 1000000000 ^ L = p at *
      have e1 : Q * (p * T) ≤ Q * V := Nat.mul_le_mul_left _ (by omega)
      have e2 : Q * T * p < (H + 1) * p := by
        rw [Nat.mul_assoc, Nat.mul_comm T p, Nat.add_mul, Nat.mul_comm H p]; omega
      have := Nat.lt_of_mul_lt_mul_right e2
      omega
    · have hlt : R' < V := by
        refine lt_of_len ?_
        omega
      rw [Nat.div_eq_of_lt hlt, Nat.zero_mul]; exact Nat.zero_le _
  · have : R' / V < 1000000000 := by
      rw [Nat.div_lt_iff_lt_mul hVp]; exact hR
    omega
/-- The upper limbs of the part, as the reference reads them. -/
theorem ref_high {R' L : Nat} (hl : (limbs R').length ≤ L + 2) :
    val ((limbs R').drop L) = (if L + 1 < (limbs R').length then (limbs R').getD (L + 1) 0 * 1000000000 else 0) + (if L + 1 ≤ (limbs R').length then (limbs R').getD L 0 else 0) := by
  by_cases h1 : L + 1 ≤ (limbs R').length
  · rw [if_pos h1, val_drop _ L (by omega)]
    by_cases h2 : L + 1 < (limbs R').length
    · rw [if_pos h2, val_drop _ (L + 1) (by omega), List.drop_of_length_le (by omega)]
      simp only [val]; omega
    · rw [if_neg h2, List.drop_of_length_le (by omega)]
      simp only [val]; omega
  · rw [if_neg h1, if_neg (by omega), List.drop_of_length_le (by omega)]
    rfl
/-- What the inner loop of parts lowers. -/
theorem low_digit {R' V d : Nat} (hV : 0 < V) : (R' < V * d ↔ R' / V < d) := by
  rw [Nat.div_lt_iff_lt_mul hV, Nat.mul_comm]
/-- What is scaled, and back. -/
theorem scaled {m n s : Nat} (hs : 0 < s) : m * s / (n * s) = m / n ∧ m * s % (n * s) / s = m % n := by
  rw [Nat.mul_div_mul_right _ _ hs, Nat.mul_mod_mul_right, Nat.mul_div_cancel _ hs]
  exact ⟨rfl, rfl⟩

end Go.Proofs.Ytdleiiboffkidaa
end

/- ---- Rparts ---- -/
section
/-
  parts, of the reference: quotient and remainder.
-/
set_option maxRecDepth 100000
namespace Go.Proofs.Ytdleiiboffkidaa
open Go.RowKit

/-- The reference divides these numbers rightly. -/
def PartsOK (m n : Nat) : Prop := ∀ (w : World) (ax ay : Option Addr) (cx cy : Nat), (limbs m).length ≤ cx → (limbs n).length ≤ cy → cx ≤ 9223372036854775807 → cy ≤ 9223372036854775807 → Cells w ax (limbs m) → Cells w ay (limbs n) →
  Calls Try.prog 90 #[.slice ax (limbs m).length cx, .slice ay (limbs n).length cy] w (Ret2 (IsLimbs (m / n)) (IsLimbs (m % n)) w)

set_option maxRecDepth 100000 in
set_option maxHeartbeats 800000 in
theorem partsOK_small (m n : Nat) (h1 : (limbs m).length ≤ 2) (h2 : (limbs n).length ≤ 2) (hn : n ≠ 0) : PartsOK m n := by
  intro w ax ay cx cy kx ky bx by_ hx hy
  have bm : m < 1000000000000000000 := by have := lt_of_limbs_len h1; omega
  have bn : n < 1000000000000000000 := by have := lt_of_limbs_len h2; omega
  have hvx := short_calls w ax (limbs m) cx kx bx hx (by rw [val_limbs]; omega)
  have hvy := short_calls w ay (limbs n) cy ky by_ hy (by rw [val_limbs]; omega)
  rw [val_limbs] at hvx hvy
  have HX := Lib.hid hvx
  have HY := Lib.hid hvy
  have hq1 : m / n ≤ m := Nat.div_le_self _ _
  have hr1 : m % n < n := Nat.mod_lt _ (by omega)
  obtain ⟨q, hq⟩ : ∃ q, q = m / n := ⟨_, rfl⟩
  obtain ⟨r, hr⟩ : ∃ r, r = m % n := ⟨_, rfl⟩
  have HF := Lib.hid (And.intro (wrap_quo m n q (by omega) hq) (And.intro (rem_nat m n r hr) hn))
  rw [← hq, ← hr]
  rw [← hq] at hq1
  rw [← hr] at hr1
  have HA := Lib.hid (fun W => rlimbs_calls W q (by omega))
  have HC := Lib.hid (fun W => rlimbs_calls W r (by omega))
  have l1 : decide (((limbs m).length : Int) ≤ 2) = true := decide_eq_true (by omega)
  have l2 : decide (((limbs n).length : Int) ≤ 2) = true := decide_eq_true (by omega)
  clear hvx hvy hq hr hq1 hr1 bm bn h1 h2 kx ky bx by_ hn
  go_enter Try.func90, Try.ntmps90
  go_wp2_with fail
  refine HX.out.mono ?_
  rintro e w' ⟨rfl, rfl⟩
  go_wp2_with fail
  refine HY.out.mono ?_
  rintro e w' ⟨rfl, rfl⟩
  obtain ⟨b1, ⟨b2, b3⟩, b4⟩ := HF.out
  clear l1 l2
  go_wp2_with fail
  go_region_held3 (fun _ => True) (exact True.intro) ((first
    | (go_at_call 86; ((with_reducible refine (HA.out _).mono ?_)); rintro e w1 ⟨v1, rfl, hv1, e1⟩)
    | (go_at_call 86; ((with_reducible refine (HC.out _).mono ?_)); rintro e w2 ⟨v2, rfl, hv2, e2⟩)))
  go_wp2
  go_ret2
  exact ⟨v1, v2, rfl, hv1.ext e2, hv2, e1.of_drew.trans e2⟩

theorem top_limb {n l : Nat} (h : (limbs n).length = l + 1) : val ((limbs n).drop l) = (limbs n).getD l 0 ∧ 0 < (limbs n).getD l 0 := by
  have h1 := limbs_last n (by intro e; rw [e] at h; simp at h)
  rw [h, Nat.add_sub_cancel] at h1
  refine ⟨?_, by omega⟩
  rw [val_drop _ l (by omega), List.drop_of_length_le (by omega)]
  simp [val]

/-- The rest, between two rounds: in a block of its own. -/
def RestAt (g : Nat) (R : Nat) (v : Value) (wr : World) : Prop :=
  ∃ ao cap, v = .slice ao (limbs R).length cap ∧ (limbs R).length ≤ cap ∧ cap ≤ 9223372036854775807 ∧ (limbs R = [] ∨ ∃ gr, ao = some ⟨gr, 0, none⟩ ∧ gr ≠ g ∧ Blk wr gr (limbs R))
theorem RestAt.cells {g R : Nat} {ao : Option Addr} {n cap : Nat} {wr : World} (h : RestAt g R (.slice ao n cap) wr) : n = (limbs R).length ∧ (limbs R).length ≤ cap ∧ cap ≤ 9223372036854775807 ∧ Cells wr ao (limbs R) := by
  obtain ⟨ao', cap', he, h1, h2, h3⟩ := h
  injection he with e1 e2 e3
  subst e1 e2 e3
  refine ⟨rfl, h1, h2, ?_⟩
  rcases h3 with h3 | ⟨gr, rfl, _, hb⟩
  · rw [h3]; exact Cells.nil _ _
  · exact hb.cells
theorem RestAt.set {g R : Nat} {v : Value} {wr : World} (h : RestAt g R v wr) (i : Nat) (u : Value) : RestAt g R v (wr.setCell ⟨g, i, none⟩ u) := by
  obtain ⟨ao, cap, rfl, h1, h2, h3⟩ := h
  refine ⟨ao, cap, rfl, h1, h2, h3.imp id ?_⟩
  rintro ⟨gr, rfl, hne, hb⟩
  exact ⟨gr, rfl, hne, hb.far (p := ⟨g, i, none⟩) hne u⟩

set_option maxRecDepth 100000 in
set_option maxHeartbeats 3200000 in
theorem partsOK_long (m n : Nat) (lx : (limbs m).length ≤ 1048576) (ly : (limbs n).length ≤ 1048576) (hn : 0 < n) (hbig : 2 < (limbs m).length ∨ 2 < (limbs n).length) : PartsOK m n := by
  intro w ax ay cx cy kx ky bx by_ hx hy
  obtain ⟨l0, hl0⟩ : ∃ l0, (limbs n).length = l0 + 1 := ⟨(limbs n).length - 1, by have := limbs_pos hn; omega⟩
  obtain ⟨b', off', rfl, hy1⟩ := hy.at_ (by omega)
  have hct := hy1 l0 (by omega)
  obtain ⟨ht1, ht2⟩ := top_limb hl0
  have ht3 := dig_limbs n l0
  obtain ⟨t, ht⟩ : ∃ t, t = (limbs n).getD l0 0 := ⟨_, rfl⟩
  rw [← ht] at hct ht2 ht3
  obtain ⟨T1, hT1⟩ : ∃ T1, T1 = t + 1 := ⟨_, rfl⟩
  obtain ⟨s, hs⟩ : ∃ s, s = 1000000000 / T1 := ⟨_, rfl⟩
  have hs0 : 0 < s := by rw [hs]; exact Nat.div_pos (by omega) (by omega)
  have hs1 : s ≤ 500000000 := by rw [hs]; exact Nat.div_le_of_le_mul (by omega)
  have f1 : (t : Int) + 1 = (T1 : Int) := by omega
  have f2 : (1000000000 : Int) / (T1 : Int) = (s : Int) := by rw [hs]; simp
  have f3 : (s : Int) % 4294967296 = (s : Int) := by omega
  obtain ⟨V, hV⟩ : ∃ V, V = n * s := ⟨_, rfl⟩
  obtain ⟨U, hU⟩ : ∃ U, U = m * s := ⟨_, rfl⟩
  have hV0 : 0 < V := by rw [hV]; exact Nat.mul_pos hn hs0
  obtain ⟨L, hL⟩ : ∃ L, (limbs V).length = L + 1 := ⟨(limbs V).length - 1, by have := limbs_pos hV0; omega⟩
  have hVl : (limbs V).length ≤ (limbs n).length + 1 := by
    refine limbs_len_le ?_
    have := lt_of_limbs_len (n := n) (Nat.le_refl _)
    rw [hV, Nat.pow_succ]
    exact Nat.mul_lt_mul'' this (by omega)
  have hUl : (limbs U).length ≤ (limbs m).length + 1 := by
    refine limbs_len_le ?_
    have := lt_of_limbs_len (n := m) (Nat.le_refl _)
    rw [hU, Nat.pow_succ]
    exact Nat.mul_lt_mul'' this (by omega)
  have hby1 := fun W (e : Ext w W) => rby_fresh W (some ⟨b', off', none⟩) n s cy (by omega) (by omega) (hy.ext e)
  have hby2 := fun W (e : Ext w W) => rby_fresh W ax m s cx (by omega) (by omega) (hx.ext e)
  rw [← hV] at hby1
  rw [← hU] at hby2
  rw [hl0] at hby1 ⊢
  have HB1 := Lib.hid hby1
  have HB2 := Lib.hid hby2
  have HVU := Lib.hid (And.intro hV (And.intro hU (And.intro hs0 hV0)))
  have HLL := Lib.hid (And.intro hL (And.intro hUl (show L + 1 ≤ 1048577 by omega)))
  have ht4 : (t : Int) < 1000000000 := by omega
  have hT0 : ¬ T1 = 0 := by omega
  have hsI : (s : Int) ≤ 500000001 := by omega
  have hl0I : (l0 : Int) ≤ 1048577 := by omega
  have hmI : ((limbs m).length : Int) ≤ 1048578 := by omega
  have hmk := run_mk ((limbs m).length + 1) (by omega) (↑(limbs m).length + 1) (by omega)
  have hguard : decide (((limbs m).length : Int) ≤ 2) = false ∨ (decide (((limbs m).length : Int) ≤ 2) = true ∧ decide (((l0 : Int) + 1) ≤ 2) = false) := by
    by_cases h : (limbs m).length ≤ 2
    · exact .inr ⟨decide_eq_true (by omega), decide_eq_false (by omega)⟩
    · exact .inl (decide_eq_false (by omega))
  have HG := Lib.hid hguard
  clear hguard ht1 hy1 hx hy kx ky bx by_ hn hbig ly hs hT1 hs1 hs0 hV hU hV0 hVl hUl hby1 hby2 ht3 ht ht2
  go_enter Try.func90, Try.ntmps90
  go_upto_region 1 with fail
  go_cut [28] (fun t wx => t = .bool false ∧ w = wx)
  case first =>
    clear hmk f1 f2 f3 hct
    rcases HG.out with g | ⟨g1, g2⟩
    · go_wp2_with fail
      go_meet
      exact ⟨rfl, rfl⟩
    · go_wp2_with fail
      go_meet
      exact ⟨rfl, rfl⟩
  case rest =>
    obtain ⟨rfl, rfl⟩ := hcut
    clear HG
    go_upto_region 5 with fail
    clear f1 f2 f3 hct hT0
    go_wp2_with fail
    refine (HB1.out _ (Ext.refl w)).mono ?_
    rintro e w1 ⟨v1, rfl, ⟨gv, cv, rfl, hgv, k1, k2, hbv⟩, e1⟩
    have hctop := hbv.cell L (by rw [HLL.out.1]; omega)
    obtain ⟨T, hT⟩ : ∃ T, T = (limbs V).getD L 0 := ⟨_, rfl⟩
    rw [← hT] at hctop
    have HT := Lib.hid hT
    have hTl : T < 1000000000 := by rw [hT]; exact dig_limbs V L
    have hTI : (T : Int) < 1000000000 := by omega
    have hcapI : ((L : Int) + 1) ≤ (cv : Int) := by have := HLL.out.1; omega
    have hLI : (L : Int) ≤ 9223372036854775806 := by have := HLL.out.1; omega
    rw [HLL.out.1]
    have HK := Lib.hid (And.intro k1 k2)
    clear hT hTl k1 k2
    go_upto_region 9 with fail
    clear hmk hctop
    have hbo := Blk.new w1 (List.replicate ((limbs m).length + 1) 0)
    have eo : Ext w1 (w1.alloc (.cells (u32s (List.replicate ((limbs m).length + 1) 0)) 67)) := (Ext.refl w1).alloc _
    have hgo : (w1.alloc (.cells (u32s (List.replicate ((limbs m).length + 1) 0)) 67)).heap.size = w1.heap.size + 1 := by simp
    have HGO := Lib.hid hgo
    clear hgo
    go_wp2_with fail
    refine (HB2.out _ (e1.trans eo)).mono ?_
    rintro e w3 ⟨v2, rfl, ⟨gu, cu, rfl, hgu, j1, j2, hbu⟩, e3⟩
    rw [HGO.out] at hgu
    have hgv2 := hbv.lt
    replace hbo := hbo.ext e3
    replace hbv := hbv.ext (eo.trans e3)
    have eB := (e1.trans eo).trans e3
    have HJ := Lib.hid (And.intro j1 j2)
    have HUl : ((limbs U).length : Int) ≤ ((limbs m).length : Int) + 1 := by have := HLL.out.2.1; omega
    have HUl2 : ((limbs U).length : Int) ≤ 1048580 := by omega
    clear HGO eo e3 j1 j2 hcapI hLI
    go_wp2_with fail
    have hlu : (limbs U).length ≤ (limbs m).length + 1 := HLL.out.2.1
    have h0 : PartRel w w1.heap.size (limbs U) V (limbs U).length 0 (List.replicate (limbs U).length 0) w3 := by
      have ht := hbo.take (limbs U).length
      rw [List.take_replicate, Nat.min_eq_left hlu] at ht
      exact ⟨by simp, Dig.replicate _, ht, eB, by rw [val_drop_len, List.drop_of_length_le (by simp)]; simp [val], HVU.out.2.2.2⟩
    have r0 : RestAt w1.heap.size 0 (.slice none 0 0) w3 := ⟨none, 0, rfl, by simp [limbs_zero], by omega, .inl limbs_zero⟩
    have HS := Lib.hid (And.intro h0 (And.intro r0 (And.intro hbu hbv)))
    have HGE := Lib.hid (And.intro e1.size (And.intro hgv2 hgu))
    have HSI := Lib.hid hsI
    have HLX := Lib.hid (And.intro lx (And.intro HUl (And.intro HUl2 hTI)))
    clear h0 r0 hbu hbv hbo hgu hgv2 hlu ht4 hl0I hl0 hL hsI lx HUl HUl2 hmI hTI
    go_loopw [11, 14, 15, 16, 17] (fun rv i _ _ _ wr => ∃ (k R : Nat) (qs : List Nat), k ≤ (limbs U).length ∧ i = .int .i64 ((k : Int) - 1) ∧ RestAt w1.heap.size R rv wr ∧ PartRel w w1.heap.size (limbs U) V k R qs wr ∧ Blk wr gu (limbs U) ∧ Blk wr gv (limbs V)) (fun _ i _ _ _ _ => (intOf i + 1).toNat)
    case atStart => exact ⟨(limbs U).length, 0, _, Nat.le_refl _, by go_num, HS.out.2.1, HS.out.1, HS.out.2.2⟩
    case round =>
      obtain ⟨k, R, qs, hk, rfl, hRest, hP, hbu, hbv⟩ := hrel
      clear HS eB
      rcases k with _ | k
      · obtain ⟨hq, hR⟩ := hP.done
        rw [val_limbs, HVU.out.1, HVU.out.2.1, (scaled HVU.out.2.2.1).1] at hq
        rw [val_limbs, HVU.out.1, HVU.out.2.1] at hR
        have hRs : R / s = m % n := by rw [hR]; exact (scaled HVU.out.2.2.1).2
        have hRV := hP.2.2.2.2.2
        have hRl : (limbs R).length ≤ 1048577 := by
          have h1 := limbs_len_mono (Nat.le_of_lt hRV)
          rw [HLL.out.1] at h1
          have := HLL.out.2.2
          omega
        obtain ⟨ar, cr, rfl, hr1, hr2, hr3⟩ := hRest
        have hRc : Cells wr ar (limbs R) := by
          rcases hr3 with h | ⟨gr, rfl, _, hb⟩
          · rw [h]; exact Cells.nil _ _
          · exact hb.cells
        have hmk := run_mk (limbs R).length (by omega) ↑(limbs R).length (by omega)
        have HQ := Lib.hid (And.intro hq hRs)
        have HP := Lib.hid hP
        have HRC := Lib.hid hRc
        have hRlI : ((limbs R).length : Int) ≤ 1048583 := by omega
        obtain ⟨wo, hwo⟩ : ∃ wo : World, wo = wr := ⟨_, rfl⟩
        subst hwo
        have h0 : ShortRel wo wo.heap.size (limbs R) s (limbs R).length 0 (List.replicate (limbs R).length 0) (wo.alloc (.cells (u32s (List.replicate (limbs R).length 0)) 67)) :=
          ⟨by simp, Dig.replicate _, Blk.new _ _, (Ext.refl _).alloc _, by rw [val_drop_len]; simp [val], HVU.out.2.2.1⟩
        have HS := Lib.hid h0
        clear hq hR hRs hRV hr1 hr2 hr3 hRc hP h0 hbu hbv hk hRl
        go_wp2
        clear hmk
        go_loopw [18, 20] (fun c i wr => ∃ (k rr : Nat) (ls : List Nat), k ≤ (limbs R).length ∧ i = .int .i64 ((k : Int) - 1) ∧ c = .int .u64 rr ∧ ShortRel wo wo.heap.size (limbs R) s k rr ls wr) (fun _ i _ => (intOf i + 1).toNat)
        case atStart => exact ⟨(limbs R).length, 0, _, Nat.le_refl _, by go_num, rfl, HS.out⟩
        case round =>
          obtain ⟨k, rr, ls, hk, rfl, rfl, hS⟩ := hrel
          clear HS
          rcases k with _ | k
          · obtain ⟨g1, g2, g3, g4, g5, g6⟩ := hS
            have hv : val ls = m % n := by
              have h := (Nat.div_mod_unique (a := val (limbs R)) (d := val ls) (c := rr) HVU.out.2.2.1).2 ⟨by rw [List.drop_zero, List.drop_zero] at g5; omega, g6⟩
              rw [val_limbs] at h
              rw [← h.1]; exact HQ.out.2
            have t1 := fun W (e : Ext wo W) => rtrim_calls W (some ⟨w1.heap.size, 0, none⟩) qs ((limbs m).length + 1) (by rw [HP.out.1]; exact HLL.out.2.1) (by have := HLX.out.1; omega) (HP.out.2.2.1.ext e).cells HP.out.2.1
            have f1 := HP.out.2.2.1.cells.trim HP.out.2.1
            have f2 : (limbs (val qs)).length ≤ qs.length := by rw [← trimN_length HP.out.2.1]; exact trimN_le _ _
            rw [HQ.out.1, HP.out.1] at t1
            rw [HQ.out.1] at f1
            rw [HQ.out.1, HP.out.1] at f2
            have t2 := rtrim_calls wr (some ⟨wo.heap.size, 0, none⟩) ls ls.length (Nat.le_refl _) (by rw [g1]; omega) g3.cells g2
            have f3 := g3.cells.trim g2
            have f4 : (limbs (val ls)).length ≤ ls.length := by rw [← trimN_length g2]; exact trimN_le _ _
            rw [hv, g1] at t2
            rw [hv] at f3
            rw [hv, g1] at f4
            have T1 := Lib.hid t1
            have T2 := Lib.hid t2
            have F := Lib.hid (And.intro f1 (And.intro f2 (And.intro f3 f4)))
            have HRl := Lib.hid (show (limbs R).length ≤ 1048583 by omega)
            have eW := HP.out.2.2.2.1
            clear t1 t2 f1 f2 f3 f4 g1 g2 g3 g5 g6 hv hk hRlI
            go_wp2_with fail
            refine (T1.out wr g4).mono ?_
            rintro e w' ⟨rfl, rfl⟩
            go_wp2_with fail
            refine T2.out.mono ?_
            rintro e w' ⟨rfl, rfl⟩
            go_wp2
            go_ret2
            exact ⟨_, _, rfl, ⟨_, _, rfl, Nat.le_trans F.out.2.1 HLL.out.2.1, by have := HLX.out.1; omega, F.out.1.ext g4⟩, ⟨_, _, rfl, F.out.2.2.2, by have := HRl.out; omega, F.out.2.2.1⟩, eW.trans g4⟩
          · have hk2 : k < (limbs R).length := by omega
            have hzc := hS.2.2.1.cell k (by have := hS.1; omega)
            have hzf := hS.2.2.1.frozen k
            obtain ⟨b2, o2, rfl, hx1⟩ := HRC.out.at_ (by omega)
            have hcx := hS.2.2.2.1.cell (hx1 k hk2)
            have bx0 := dig_limbs R k
            have br0 := hS.2.2.2.2.2
            have hst := fun cur q r hc hq hr V hV => hS.step (Nat.le_refl _) hk2 (dig_limbs R) cur q r hc hq hr (V := V) hV
            have hs9 : s ≤ 500000001 := by have := HSI.out; omega
            generalize (limbs R).getD k 0 = x at *
            have bx : (x : Int) < 1000000000 := by omega
            have br : (rr : Int) < 500000003 := by omega
            obtain ⟨cur, hc⟩ : ∃ cur, cur = rr * 1000000000 + x := ⟨_, rfl⟩
            obtain ⟨q, hq⟩ : ∃ q, q = cur / s := ⟨_, rfl⟩
            obtain ⟨r, hr⟩ : ∃ r, r = cur % s := ⟨_, rfl⟩
            have HST2 := Lib.hid (hst cur q r hc hq hr q rfl)
            have hcI : (rr : Int) * 1000000000 + (x : Int) = (cur : Int) := by omega
            have f0 := wrap_quo cur s q (by omega) hq
            obtain ⟨f1, f2⟩ := rem_nat cur s r hr
            have f3 : ¬ s = 0 := by omega
            have f4 : (q : Int) < 1000000001 := by have := HST2.out.2.1; omega
            have hsI : (s : Int) ≤ 500000002 := by omega
            have ek : ((k + 1 : Nat) : Int) - 1 = (k : Int) := by omega
            rw [ek]
            have HKK := Lib.hid hk2
            have hkl : (k : Int) < ((limbs R).length : Int) := by omega
            clear hst hx1 bx0 br0 hc hq hr ek hs9 hS hk2 hk
            go_wp2
            go_roundw
            case rel => exact ⟨k, r, _, by have := HKK.out; omega, by go_num, by go_num, HST2.out.1⟩
            case measure => simp [intOf]
      · have ek : ((k + 1 : Nat) : Int) - 1 = (k : Int) := by omega
        rw [ek]
        obtain ⟨ar, cr, rfl, hr1, hr2, hr3⟩ := hRest
        have hRc : Cells wr ar (limbs R) := by
          rcases hr3 with h | ⟨gr, rfl, _, hb⟩
          · rw [h]; exact Cells.nil _ _
          · exact hb.cells
        have hcx := hbu.cell k (by omega)
        obtain ⟨x, hx⟩ : ∃ x, x = (limbs U).getD k 0 := ⟨_, rfl⟩
        rw [← hx] at hcx
        have hxb : x < 1000000000 := by rw [hx]; exact dig_limbs U k
        have hRV := hP.2.2.2.2.2
        have hRl : (limbs R).length ≤ L + 1 := by rw [← HLL.out.1]; exact limbs_len_mono (Nat.le_of_lt hRV)
        obtain ⟨R', hR'⟩ : ∃ R', R' = x + 1000000000 * R := ⟨_, rfl⟩
        have hL1 : L + 1 ≤ 1048577 := HLL.out.2.2
        obtain ⟨ao4, cap4, w4, hrun, y1, y2, e4, y3⟩ := run_append_cons wr 22 x (x : Int) rfl ar (limbs R) cr (by omega) hRc
        have hdx : Dig (x :: limbs R) := Dig.cons hxb (dig_limbs R)
        have htr := rtrim_calls w4 ao4 (x :: limbs R) cap4 (by simpa using y1) y2 y3 hdx
        have hcc := y3.trim hdx
        have hvx : val (x :: limbs R) = R' := by rw [hR']; simp only [val, val_limbs]
        rw [hvx] at htr hcc
        rw [List.length_cons] at htr
        have HTR := Lib.hid htr
        obtain ⟨est1, est2, est3, est4, est5⟩ := ref_est (R' := R') HLL.out.1 (by omega)
        rw [(top_limb HLL.out.1).1, ← HT.out] at est1 est3 est4
        have hcl : (limbs R').length ≤ cap4 := by
          have := limbs_len_mono (m := R') (n := R'); 
          have h2 : (limbs (val (x :: limbs R))).length ≤ (x :: limbs R).length := by rw [← trimN_length hdx]; exact trimN_le _ _
          rw [hvx, List.length_cons] at h2
          omega
        have HP := Lib.hid hP
        have HBU := Lib.hid (And.intro hbu hbv)
        have HR' := Lib.hid (And.intro hR' hx)
        have HE := Lib.hid (And.intro est1 (And.intro est2 est5))
        have HC4 := Lib.hid (And.intro hcc (And.intro hcl y2))
        have hkI : (k : Int) < ((limbs U).length : Int) := by omega
        have hkb : (k : Int) ≤ 1048581 := by have := HLX.out.2.2.1; omega
        have HK1 := Lib.hid (show k < (limbs U).length by omega)
        have hxI : (x : Int) < 1000000001 := by omega
        have hT0 : ¬ T = 0 := by omega
        clear est3 est4
        clear htr hcc hvx hdx y1 y2 y3 hP hbu hbv hR' hx est1 est2 est5 hcl hxb hr1 hr2 hr3 hRc hRV ek hk hRl hL1
        have HRUN := Lib.hid hrun
        clear hrun
        go_wp2_with (at_builtin; refine wpList_append_run rfl _ _ 22 rfl rfl rfl HRUN.out ?_)
        refine HTR.out.mono ?_
        rintro e w' ⟨rfl, rfl⟩
        clear hxI
        have hhigh := ref_high (R' := R') HE.out.2.2
        obtain ⟨r1, hr1⟩ : ∃ r1, r1 = (limbs R').getD (L + 1) 0 := ⟨_, rfl⟩
        obtain ⟨r0, hr0⟩ : ∃ r0, r0 = (limbs R').getD L 0 := ⟨_, rfl⟩
        have hb1 : r1 < 1000000000 := by rw [hr1]; exact dig_limbs R' _
        have hb0 : r0 < 1000000000 := by rw [hr0]; exact dig_limbs R' _
        obtain ⟨H2, hH2⟩ : ∃ H2, H2 = val ((limbs R').drop L) := ⟨_, rfl⟩
        obtain ⟨H1, hH1⟩ : ∃ H1, H1 = (if L + 1 < (limbs R').length then r1 * 1000000000 else 0) := ⟨_, rfl⟩
        rw [← hH2, ← hr1, ← hr0, ← hH1] at hhigh
        have hH1b : H1 ≤ 999999999000000000 := by rw [hH1]; split <;> omega
        have hH2b : H2 ≤ 999999999999999999 := by rw [hhigh]; split <;> omega
        have HHI := Lib.hid (And.intro hhigh (And.intro hH1 (And.intro hr1 hr0)))
        have HEST := Lib.hid (show R' / V ≤ H2 / T by rw [hH2]; exact HE.out.1)
        have HB := Lib.hid (And.intro hb1 (And.intro hb0 (And.intro hH1b hH2b)))
        clear hhigh hr1 hr0 hb1 hb0 hH2 hH1 hH1b hH2b
        go_upto_if 91 with fail
        go_cut [15] (fun t wx => t = .int .u64 (H1 : Int) ∧ w4 = wx)
        case first =>
          by_cases hl1 : L + 1 < (limbs R').length
          · obtain ⟨bb, oo, rfl, hcc⟩ := HC4.out.1.at_ (by omega)
            have hc1 := hcc (L + 1) hl1
            rw [← HHI.out.2.2.1] at hc1
            have hlI : ((L : Int) + 1) < ((limbs R').length : Int) := by omega
            have hb1 : (r1 : Int) ≤ 999999999 := by have := HB.out.1; omega
            have hH : (r1 : Int) * 1000000000 = (H1 : Int) := by have := HHI.out.2.1; rw [if_pos hl1] at this; omega
            have hHb : (H1 : Int) ≤ 999999999000000001 := by have := HB.out.2.2.1; omega
            clear hcc hl1
            go_wp2_with fail
            go_meet
            exact ⟨rfl, rfl⟩
          · have hlI : ¬ (((L : Int) + 1) < ((limbs R').length : Int)) := by omega
            have HH : Hid (H1 = 0) := by have := HHI.out.2.1; rw [if_neg hl1] at this; exact this
            clear hl1
            go_wp2_with fail
            go_meet
            exact ⟨by rw [HH.out]; rfl, rfl⟩
        case rest =>
          obtain ⟨rfl, rfl⟩ := hcut
          go_upto_if 103 with fail
          go_cut [15] (fun t wx => t = .int .u64 (H2 : Int) ∧ w4 = wx)
          case first =>
            by_cases hl1 : L + 1 ≤ (limbs R').length
            · obtain ⟨bb, oo, rfl, hcc⟩ := HC4.out.1.at_ (by omega)
              have hc1 := hcc L (by omega)
              rw [← HHI.out.2.2.2] at hc1
              have hlI : ((L : Int) + 1) ≤ ((limbs R').length : Int) := by omega
              have hlI2 : (L : Int) < ((limbs R').length : Int) := by omega
              have hLb : (L : Int) ≤ 1048582 := by have := HLL.out.2.2; omega
              have hb1 : (r0 : Int) ≤ 999999999 := by have := HB.out.2.1; omega
              have hH : (H1 : Int) + (r0 : Int) = (H2 : Int) := by have := HHI.out.1; rw [if_pos hl1] at this; omega
              have hHb : (H2 : Int) ≤ 1000000000000000001 := by have := HB.out.2.2.2; omega
              have hHc : (H1 : Int) ≤ 999999999000000002 := by have := HB.out.2.2.1; omega
              clear hcc hl1
              go_wp2_with fail
              go_meet
              exact ⟨rfl, rfl⟩
            · have hlI : ¬ (((L : Int) + 1) ≤ ((limbs R').length : Int)) := by omega
              have HH : Hid (H2 = H1) := by have := HHI.out.1; rw [if_neg hl1] at this; exact this
              clear hl1
              go_wp2_with fail
              go_meet
              exact ⟨by rw [HH.out], rfl⟩
          case rest =>
            obtain ⟨rfl, rfl⟩ := hcut
            obtain ⟨D, hD⟩ : ∃ D, D = H2 / T := ⟨_, rfl⟩
            obtain ⟨d0, hd0⟩ : ∃ d0, d0 = (if 999999999 < D then 999999999 else D) := ⟨_, rfl⟩
            have hd1 : R' / V ≤ d0 := by
              have h1 := HEST.out
              have h2 := HE.out.2.1
              rw [← hD] at h1
              rw [hd0]; split <;> omega
            have hd2 : d0 ≤ 999999999 := by rw [hd0]; split <;> omega
            have hDI : (H2 : Int) / (T : Int) = (D : Int) := by rw [hD]; simp
            have hDb : D ≤ 999999999999999999 := by have := Nat.div_le_self H2 T; have := HB.out.2.2.2; omega
            have HDD := Lib.hid (And.intro hd0 (And.intro hd1 hd2))
            have hHb : (H2 : Int) ≤ 1000000000000000003 := by have := HB.out.2.2.2; omega
            have hDIb : (D : Int) ≤ 1000000000000000004 := by omega
            have HDb := Lib.hid hDb
            clear hD hd0 hd1 hd2 hDb
            go_upto_if 117 with fail
            clear hDI hHb
            go_cut [16] (fun t wx => t = .int .u64 (d0 : Int) ∧ w4 = wx)
            case first =>
              generalize hDv : (D : Int) = Dv at *
              have HDv := Lib.hid hDv
              clear hDv
              by_cases hg : 999999999 < D
              · have hgI : (999999999 : Int) < Dv := by have := HDv.out; omega
                have HH : Hid (d0 = 999999999) := by have := HDD.out.1; rw [if_pos hg] at this; exact this
                clear hg hDIb
                go_wp2_with fail
                go_meet
                exact ⟨by rw [HH.out]; rfl, rfl⟩
              · have hgI : ¬ (999999999 : Int) < Dv := by have := HDv.out; omega
                have HH : Hid (d0 = D) := by have := HDD.out.1; rw [if_neg hg] at this; exact this
                clear hg hDIb
                go_wp2_with fail
                go_meet
                exact ⟨by rw [HH.out, HDv.out], rfl⟩
            case rest =>
              obtain ⟨rfl, rfl⟩ := hcut
              clear hDIb
              have hcv := (HBU.out.2.ext e4)
              have hby := rby_fresh w4 (some ⟨gv, 0, none⟩) V d0 cv (by rw [HLL.out.1]; have := HLL.out.2.2; omega) (by have := HDD.out.2.2; omega) hcv.cells
              rw [HLL.out.1] at hby
              have HBY := Lib.hid hby
              have hd0I : (d0 : Int) ≤ 999999999 := by have := HDD.out.2.2; omega
              clear hby hcv
              go_wp2_with fail
              refine HBY.out.mono ?_
              rintro e w5 ⟨v5, rfl, hv5, e5⟩
              obtain ⟨ap, cp, rfl, p1, p2, p3⟩ := hv5.is
              have HP5 := Lib.hid (And.intro p1 (And.intro p2 p3))
              clear hv5 p1 p2 p3 hd0I
              go_wp2_with fail
              obtain ⟨wo, rfl⟩ : ∃ wo : World, wo = wr := ⟨_, rfl⟩
              have hVd : (limbs (V * d0)).length ≤ L + 2 := by
                refine limbs_len_le ?_
                have h1 := lt_of_limbs_len (n := V) (k := L + 1) (by rw [HLL.out.1]; exact Nat.le_refl _)
                rw [Nat.pow_succ]
                exact Nat.mul_lt_mul'' h1 (by have := HDD.out.2.2; omega)
              have HVd := Lib.hid (fun d (h : d ≤ d0) => Nat.le_trans (limbs_len_mono (Nat.mul_le_mul_left V h)) hVd)
              clear hVd
              go_loopw [16, 17] (fun dv pv wl => ∃ (d : Nat) (ap : Option Addr) (cp : Nat), dv = .int .u64 (d : Int) ∧ pv = .slice ap (limbs (V * d)).length cp ∧ Hid (R' / V ≤ d ∧ d ≤ d0 ∧ (limbs (V * d)).length ≤ cp ∧ cp ≤ 9223372036854775807) ∧ Cells wl ap (limbs (V * d)) ∧ Ext w5 wl) (fun dv _ _ => (intOf dv).toNat)
              case atStart => exact ⟨d0, ap, cp, rfl, rfl, ⟨HDD.out.2.1, Nat.le_refl _, HP5.out.1, HP5.out.2.1⟩, HP5.out.2.2, Ext.refl _⟩
              case round =>
                obtain ⟨d, ap, cp, rfl, rfl, HD, hcp, hE5⟩ := hrel
                have hV0 := HVU.out.2.2.2
                have hLd := HVd.out d HD.out.2.1
                have hcmp := rcompare_calls wr ap ao4 (V * d) R' cp cap4 (by have := HLL.out.2.2; omega) (by have := HE.out.2.2; have := HLL.out.2.2; omega) hcp (HC4.out.1.ext (e5.trans hE5))
                have HCP := Lib.hid hcp
                by_cases hlt : R' < V * d
                · have hc : cmpZ ((V * d : Nat) : Int) (R' : Int) = 1 := cmpZ_gt (by omega)
                  rw [hc] at hcmp
                  have HCMP := Lib.hid hcmp
                  have hdq := (low_digit hV0).1 hlt
                  obtain ⟨d1, hd1⟩ : ∃ d1, d1 = d - 1 := ⟨_, rfl⟩
                  have hd2 : 1 ≤ d := by
                    rcases Nat.eq_zero_or_pos d with h | h
                    · rw [h, Nat.mul_zero] at hlt; omega
                    · exact h
                  have hVV : V * d - V = V * d1 := by rw [hd1, Nat.mul_sub, Nat.mul_one]
                  have hVle : V ≤ V * d := by have := Nat.mul_le_mul_left V hd2; omega
                  have hmin := fun W (e : Ext w4 W) (hc : Cells W ap (limbs (V * d))) => minus_fresh W ap (some ⟨gv, 0, none⟩) (V * d) V cp cv (by have := HLL.out.2.2; omega) hVle hc ((HBU.out.2.ext (e4.trans e)).cells)
                  rw [hVV, HLL.out.1] at hmin
                  have HMIN := Lib.hid hmin
                  have hd1I : (d : Int) - 1 = (d1 : Int) := by omega
                  have hdI : (1 : Int) ≤ (d : Int) := by omega
                  have hdI2 : (d : Int) ≤ 999999999 := by have := HDD.out.2.2; have := HD.out.2.1; omega
                  have HQ := Lib.hid (show R' / V ≤ d1 ∧ d1 ≤ d0 by have := HD.out.2.1; omega)
                  have HM := Lib.hid (show d1 < d by omega)
                  clear hcmp hc hdq hd1 hd2 hVV hVle hmin hlt hV0 hLd hcp
                  go_wp2_with fail
                  refine HCMP.out.mono ?_
                  rintro e w6 ⟨rfl, j, rfl⟩
                  have e6 : Ext wr (wr.drewN j) := (Ext.refl wr).drewN j
                  generalize wr.drewN j = w6 at *
                  go_wp2_with fail
                  refine (HMIN.out w6 (e5.trans (hE5.trans e6)) (HCP.out.ext e6)).mono ?_
                  rintro e w7 ⟨v7, rfl, hv7, e7⟩
                  obtain ⟨a7, c7, rfl, m1, m2, m3⟩ := hv7.is
                  have HM7 := Lib.hid (And.intro m1 (And.intro m2 m3))
                  clear hv7 m1 m2 m3
                  go_wp2_with fail
                  go_roundw
                  case rel => exact ⟨d1, a7, c7, rfl, rfl, ⟨HQ.out.1, HQ.out.2, HM7.out.1, HM7.out.2.1⟩, HM7.out.2.2, hE5.trans (e6.trans e7)⟩
                  case measure => have := HM.out; simp [intOf]; omega
                · have hdq : d = R' / V := by
                    have h1 := mt (low_digit hV0).2 hlt
                    have := HD.out.1
                    omega
                  have hcz : cmpZ ((V * d : Nat) : Int) (R' : Int) ≤ 0 := by
                    rcases cmpZ_cases ((V * d : Nat) : Int) (R' : Int) with ⟨_, h⟩ | ⟨_, h⟩ | ⟨h, _⟩
                    · rw [h]; omega
                    · rw [h]; omega
                    · omega
                  obtain ⟨cz, hcz1⟩ : ∃ cz, cz = cmpZ ((V * d : Nat) : Int) (R' : Int) := ⟨_, rfl⟩
                  rw [← hcz1] at hcmp hcz
                  have HCMP := Lib.hid hcmp
                  have hczn : ¬ 0 < cz := by omega
                  obtain ⟨R2, hR2⟩ : ∃ R2, R2 = R' % V := ⟨_, rfl⟩
                  have hsub : R' - V * d = R2 := by
                    have := Nat.div_add_mod R' V
                    rw [hdq, hR2]; omega
                  have hmin := fun W (e : Ext w4 W) (hc : Cells W ap (limbs (V * d))) => minus_fresh W ao4 ap R' (V * d) cap4 cp (by have := HE.out.2.2; have := HLL.out.2.2; omega) (by omega) (HC4.out.1.ext e) hc
                  rw [hsub] at hmin
                  have HMIN := Lib.hid hmin
                  have HQQ := Lib.hid (And.intro hdq hR2)
                  have hdI2 : (d : Int) ≤ 999999999 := by have := HDD.out.2.2; have := HD.out.2.1; omega
                  clear hcmp hcz hcz1 hdq hsub hmin hlt hV0 hLd hcp hR2
                  go_wp2_with fail
                  refine HCMP.out.mono ?_
                  rintro e w6 ⟨rfl, j, rfl⟩
                  have e6 : Ext wr (wr.drewN j) := (Ext.refl wr).drewN j
                  generalize wr.drewN j = w6 at *
                  go_wp2_with fail
                  refine (HMIN.out w6 (e5.trans (hE5.trans e6)) (HCP.out.ext e6)).mono ?_
                  rintro e w7 ⟨v7, rfl, ⟨g7, c7, rfl, m0, m1, m2, m3⟩, e7⟩
                  have eA := e4.trans (e5.trans (hE5.trans (e6.trans e7)))
                  have hgw : w1.heap.size < w6.heap.size := by
                    have h1 := (HP.out.2.2.1).lt
                    have h2 := (e4.trans (e5.trans (hE5.trans e6))).size
                    omega
                  have hres : RestAt w1.heap.size R2 (.slice (some ⟨g7, 0, none⟩) (limbs R2).length c7) w7 := ⟨_, c7, rfl, m1, m2, .inr ⟨g7, rfl, by omega, m3⟩⟩
                  have hstep := (HP.out.step HGE.out.1 HK1.out (dig_limbs U) eA R' d R2 (by rw [HR'.out.1, HR'.out.2]) HQQ.out.1 HQQ.out.2 (Y := (d : Int)) rfl).1
                  have hbq := HP.out.2.2.1.ext eA
                  have hzc := hbq.cell k (by rw [HP.out.1]; exact HK1.out)
                  have hzf := hbq.frozen k
                  have hne1 : gu ≠ w1.heap.size := by have := HGE.out.2.2; omega
                  have hne2 : gv ≠ w1.heap.size := by have := HGE.out.2.1; omega
                  have HST := Lib.hid (And.intro (hres.set k (.int .u32 (d : Int))) (And.intro hstep (And.intro ((HBU.out.1.ext eA).far (p := ⟨w1.heap.size, k, none⟩) hne1 (.int .u32 (d : Int))) ((HBU.out.2.ext eA).far (p := ⟨w1.heap.size, k, none⟩) hne2 (.int .u32 (d : Int))))))
                  clear hres hstep hbq hne1 hne2 m0 m1 m2 m3 hgw
                  go_wp2
                  go_roundw
                  case rel => exact ⟨k, R2, _, by have := HK1.out; omega, by go_num, HST.out.1, HST.out.2.1, HST.out.2.2⟩
                  case measure => simp [intOf]

end Go.Proofs.Ytdleiiboffkidaa
end

/- ---- Rgcd ---- -/
section
/-
  GCD of the reference.
-/
set_option maxRecDepth 100000
namespace Go.Proofs.Ytdleiiboffkidaa
open Go.RowKit

theorem partsOK (m n : Nat) (lx : (limbs m).length ≤ 1048576) (ly : (limbs n).length ≤ 1048576) (hn : 0 < n) : PartsOK m n := by
  by_cases h : (limbs m).length ≤ 2 ∧ (limbs n).length ≤ 2
  · exact partsOK_small m n h.1 h.2 (by omega)
  · exact partsOK_long m n lx ly hn (by omega)

/-- What the loop of the reference's GCD keeps. -/
def RGcdRel (w0 : World) (G n : Nat) (x y : Value) (wr : World) : Prop :=
  ∃ m ax cx ay cy, x = .slice ax (limbs m).length cx ∧ y = .slice ay (limbs n).length cy ∧ Hid (Nat.gcd m n = G ∧ (limbs m).length ≤ 1048576 ∧ (limbs n).length ≤ 1048576 ∧ (limbs m).length ≤ cx ∧ (limbs n).length ≤ cy ∧ cx ≤ 9223372036854775807 ∧ cy ≤ 9223372036854775807) ∧
    Cells wr ax (limbs m) ∧ Cells wr ay (limbs n) ∧ Ext w0 wr

set_option maxRecDepth 100000 in
set_option maxHeartbeats 6400000 in
theorem rgcd_calls (w : World) (v1 v2 : Value) (z1 z2 : Int) (h : IsInt w v1 z1) (k : IsInt w v2 z2) (l1 : Sm z1) (l2 : Sm z2) :
    Calls Try.prog 71 #[v1, v2] w (Ret (fun v w' => IsInt w' v ((Nat.gcd z1.natAbs z2.natAbs : Nat) : Int)) w) := by
  obtain ⟨ao, cap, s, n, rfl, h1, h2, h3, H4, H5, H6⟩ := h.open_
  obtain ⟨ao', cap', s', n', rfl, k1, k2, k3, K4, K5, K6⟩ := k.open_
  unfold Sm at l1 l2
  rw [← H4.out] at l1
  rw [← K4.out] at l2
  rw [← H4.out, ← K4.out]
  obtain ⟨G, hG⟩ : ∃ G, G = Nat.gcd n n' := ⟨_, rfl⟩
  rw [← hG]
  obtain ⟨W, hW, eW, c0, c1, d0, d1, r0, r1, f0, f1⟩ := boxes2r w (.bool s) (.slice ao (limbs n).length cap) (.bool s') (.slice ao' (limbs n').length cap') 24
  have hd0 : RGcdRel W G n' (.slice ao (limbs n).length cap) (.slice ao' (limbs n').length cap') W := ⟨n, ao, cap, ao', cap', rfl, rfl, ⟨hG.symm, l1, l2, h1, k1, h2, k2⟩, h3.ext eW, k3.ext eW, Ext.refl _⟩
  have HD0 := Lib.hid hd0
  have RR := Lib.hid (And.intro r0 r1)
  clear H5 K5 h k H4 H6 K4 K6 hG hd0 h1 h2 h3 k1 k2 k3 l1 l2
  go_enter Try.func71, Try.ntmps71
  go_wp2_with fail
  clear hW
  go_quiet (fail)
  have hEq : Ext W (W.drewN nq) := (Ext.refl W).drewN nq
  have HD : Hid (RGcdRel W G n' (.slice ao (limbs n).length cap) (.slice ao' (limbs n').length cap') (W.drewN nq)) := by
    obtain ⟨m, ax, cx, ay, cy, e1, e2, e3, e4, e5, e6⟩ := HD0.out
    exact ⟨m, ax, cx, ay, cy, e1, e2, e3, e4.ext hEq, e5.ext hEq, e6.trans hEq⟩
  clear HD0 hEq c0 c1 d0 d1
  go_wp2_with fail
  go_loopg [5, 6, 7, 8] n' (fun k x y _ _ wr => RGcdRel W G k x y wr)
  case atStart => exact HD.out
  case round =>
    obtain ⟨m, ax, cx, ay, cy, rfl, rfl, H, hx, hy, hE⟩ := hrel
    clear HD
    have HX := Lib.hid (And.intro hx hy)
    clear hx hy
    rcases Nat.eq_zero_or_pos gk with h0 | h0
    · have HG : Hid (m = G) := by have := H.out.1; rw [h0, Nat.gcd_zero_right] at this; exact this
      have hl0 : (limbs gk).length = 0 := by rw [h0]; rfl
      have hsg := rsignedL_calls wr false ax m cx H.out.2.2.2.1 H.out.2.2.2.2.2.1 HX.out.1
      have HSG := Lib.hid hsg
      clear h0 hsg
      go_wp2_with fail
      refine HSG.out.mono ?_
      rintro e w6 ⟨v4, rfl, hI, e4⟩
      have hI2 : IsInt w6 v4 ((G : Nat) : Int) := by rw [← HG.out]; exact hI
      have eA := hE.trans e4
      clear hI
      obtain ⟨ao4, cap4, s4, n4, rfl, _⟩ := IsInt.open_ hI2
      have r02 := eA.cell r0
      have r12 := eA.cell r1
      have f02 := eA.frozen (lt_of_cell r0) f0
      have f12 := eA.frozen (lt_of_cell r1) f1
      clear r0 r1 f0 f1
      go_wp2
      exact bodyPost_ret (v := .agg #[.bool s4, .slice ao4 (limbs n4).length cap4]) (by simp [results, Try.results71, go_sem, r02, r12]) rfl (fin_int hI2 r02 r12 (by omega) (eW.trans eA))
    · by_cases hbig : 2 < (limbs m).length ∨ 2 < (limbs gk).length
      · skip
        have hpar := partsOK m gk H.out.2.1 H.out.2.2.1 h0 wr ax ay cx cy H.out.2.2.2.1 H.out.2.2.2.2.1 H.out.2.2.2.2.2.1 H.out.2.2.2.2.2.2 HX.out.1 HX.out.2
        have HPAR := Lib.hid hpar
        have HN := Lib.hid h0
        have hp0 : 0 < (limbs gk).length := limbs_pos h0
        clear hpar h0
        by_cases hm : 2 < (limbs m).length
        · have hp1 : decide ((2 : Int) < ((limbs m).length : Int)) = true := decide_eq_true (by omega)
          clear hm hbig
          go_wp2_with fail
          refine HPAR.out.mono ?_
          rintro e w5 ⟨v1, v2, rfl, _, ⟨a2, c2, rfl, q1, q2, q3⟩, e5⟩
          have HP := Lib.hid (And.intro q1 (And.intro q2 q3))
          clear q1 q2 q3
          go_wp2_with fail
          go_roundg (m % gk)
          case measure => exact Nat.mod_lt _ HN.out
          case rel => exact ⟨gk, ay, cy, a2, c2, rfl, rfl, ⟨by rw [← H.out.1, Nat.gcd_comm gk, ← Nat.gcd_rec, Nat.gcd_comm], H.out.2.2.1, Nat.le_trans (limbs_len_mono (Nat.le_of_lt (Nat.mod_lt _ HN.out))) H.out.2.2.1, H.out.2.2.2.2.1, HP.out.1, H.out.2.2.2.2.2.2, HP.out.2.1⟩, HX.out.2.ext e5, HP.out.2.2, hE.trans e5⟩
        · have hp1 : decide ((2 : Int) < ((limbs m).length : Int)) = false := decide_eq_false (by omega)
          have hp2 : decide ((2 : Int) < ((limbs gk).length : Int)) = true := decide_eq_true (by omega)
          clear hm hbig
          go_wp2_with fail
          refine HPAR.out.mono ?_
          rintro e w5 ⟨v1, v2, rfl, _, ⟨a2, c2, rfl, q1, q2, q3⟩, e5⟩
          have HP := Lib.hid (And.intro q1 (And.intro q2 q3))
          clear q1 q2 q3
          go_wp2_with fail
          go_roundg (m % gk)
          case measure => exact Nat.mod_lt _ HN.out
          case rel => exact ⟨gk, ay, cy, a2, c2, rfl, rfl, ⟨by rw [← H.out.1, Nat.gcd_comm gk, ← Nat.gcd_rec, Nat.gcd_comm], H.out.2.2.1, Nat.le_trans (limbs_len_mono (Nat.le_of_lt (Nat.mod_lt _ HN.out))) H.out.2.2.1, H.out.2.2.2.2.1, HP.out.1, H.out.2.2.2.2.2.2, HP.out.2.1⟩, HX.out.2.ext e5, HP.out.2.2, hE.trans e5⟩
      · skip
        have hm1 : m < 1000000000000000000 := by have := lt_of_limbs_len (n := m) (k := 2) (by omega); omega
        have hg1 : gk < 1000000000000000000 := by have := lt_of_limbs_len (n := gk) (k := 2) (by omega); omega
        have hvx := short_calls wr ax (limbs m) cx H.out.2.2.2.1 H.out.2.2.2.2.2.1 HX.out.1 (by rw [val_limbs]; omega)
        have hvy := short_calls wr ay (limbs gk) cy H.out.2.2.2.2.1 H.out.2.2.2.2.2.2 HX.out.2 (by rw [val_limbs]; omega)
        rw [val_limbs] at hvx hvy
        have HVX := Lib.hid hvx
        have HVY := Lib.hid hvy
        have hp0 : 0 < (limbs gk).length := limbs_pos h0
        have hp1 : decide ((2 : Int) < ((limbs m).length : Int)) = false := decide_eq_false (by omega)
        have hp2 : decide ((2 : Int) < ((limbs gk).length : Int)) = false := decide_eq_false (by omega)
        have hp3 : (((limbs gk).length : Int) == 0) = false := by have := limbs_pos h0; rw [beq_eq_false_iff_ne]; omega
        have HB := Lib.hid (And.intro (show m ≤ 18446744073709551615 by omega) (show gk ≤ 18446744073709551615 by omega))
        have HGl := Lib.hid (show G ≤ 18446744073709551615 by rw [← H.out.1]; have := Nat.gcd_le_right m h0; omega)
        clear hm1 hg1 hvx hvy h0 hbig
        go_wp2_with fail
        refine HVX.out.mono ?_
        rintro e w' ⟨rfl, rfl⟩
        go_wp2_with fail
        refine HVY.out.mono ?_
        rintro e w' ⟨rfl, rfl⟩
        clear hp0 hp1 hp2 hp3
        go_wp2_with fail
        obtain ⟨wo, hwo⟩ : ∃ wo : World, wo = wr := ⟨_, rfl⟩
        subst hwo
        go_loopw [9, 10] (fun x y wr => ∃ a b : Nat, x = .int .u64 a ∧ y = .int .u64 b ∧ Hid (a ≤ 18446744073709551615 ∧ b ≤ 18446744073709551615) ∧ Hid (Nat.gcd a b = G) ∧ Ext wo wr) (fun _ y _ => (intOf y).toNat)
        case atStart => exact ⟨m, gk, rfl, rfl, HB, H.out.1, Ext.refl _⟩
        case round =>
          obtain ⟨a, b, rfl, rfl, HAB, HG2, hE2⟩ := hrel
          rcases Nat.eq_zero_or_pos b with h0 | h0
          · have HG3 : Hid (a = G) := by have := HG2.out; rw [h0, Nat.gcd_zero_right] at this; exact this
            have hb0 : ¬ (0 : Int) < (b : Int) := by omega
            have HL := Lib.hid (rlimbs_calls wr a HAB.out.1)
            clear h0
            go_wp2_with fail
            refine HL.out.mono ?_
            rintro e w5 ⟨v5, rfl, ⟨a5, c5, rfl, x1, x2, x3⟩, e5⟩
            go_wp2_with fail
            refine (rsignedL_calls _ false a5 a c5 x1 x2 x3).mono ?_
            rintro e w6 ⟨v6, rfl, hI, e6⟩
            have hI2 : IsInt w6 v6 ((G : Nat) : Int) := by rw [← HG3.out]; exact hI
            have eA := ((hE.trans hE2).trans e5).trans e6
            clear hI
            obtain ⟨ao4, cap4, s4, n4, rfl, _⟩ := IsInt.open_ hI2
            have r02 := eA.cell r0
            have r12 := eA.cell r1
            have f02 := eA.frozen (lt_of_cell r0) f0
            have f12 := eA.frozen (lt_of_cell r1) f1
            clear r0 r1 f0 f1
            go_wp2
            exact bodyPost_ret (v := .agg #[.bool s4, .slice ao4 (limbs n4).length cap4]) (by simp [results, Try.results71, go_sem, r02, r12]) rfl (fin_int hI2 r02 r12 (by omega) (eW.trans eA))
          · have hb0 : (0 : Int) < (b : Int) := by omega
            obtain ⟨r, hr⟩ : ∃ r, r = a % b := ⟨_, rfl⟩
            have hrb := Nat.mod_lt a h0
            obtain ⟨t1, t2⟩ := rem_nat a b r hr
            have hb1 : ¬ b = 0 := by omega
            have HR := Lib.hid (show r < b ∧ Nat.gcd b r = G by
              rw [hr]
              refine ⟨hrb, ?_⟩
              rw [← HG2.out, Nat.gcd_comm a b, Nat.gcd_rec b a, Nat.gcd_comm])
            clear hr hrb h0
            go_wp2
            go_quiet (fail)
            go_wp2
            go_roundw
            case rel => exact ⟨b, r, rfl, by first | rfl | exact vint t1, ⟨HAB.out.2, by have := HR.out.1; have := HAB.out.2; omega⟩, HR.out.2, hE2.drewN _⟩
            case measure => have := HR.out.1; simp [intOf]; omega

end Go.Proofs.Ytdleiiboffkidaa
end

/- ---- Rref ---- -/
section
/-
  What the walker knows of the reference's integers.
-/
set_option maxRecDepth 100000
namespace Go.Proofs.Ytdleiiboffkidaa
open Go.RowKit

/-- The parts of a quotient of limbs. -/
def kParts : Con
  | [.val false [.mag x l], .val false [.mag y m]], G => if lo l && (lo m && (G.find (.eq (.a1 4 y) (.lit 0)) == some false)) then some (.tup [(false, [.mag (.a2 9 x y) l]), (false, [.mag (.a2 10 x y) m])]) else none
  | _, _ => none
theorem isLimbs_cells {n : Nat} {v : Value} {w : World} (h : IsLimbs n v w) : v.cells = #[v] := by
  obtain ⟨ao, cap, rfl, _⟩ := h
  rfl
theorem kParts_ok {E : Env} : ConOK Try.prog E 90 kParts := by
  refine ⟨?_, ?_, ⟨_, Try.func90, by decide +kernel, by kernel_rfl⟩⟩
  · intro args As r h hG β w vs hv hlen
    unfold kParts at h
    split at h
    · rename_i x l y m
      split at h
      · rename_i hlo
        injection h with h
        subst h
        simp only [lo, Bool.and_eq_true, decide_eq_true_iff, beq_iff_eq] at hlo
        obtain ⟨b1, b2, b3⟩ := hlo
        have hy := Asm.find_spec hG b3
        obtain ⟨v, u, rfl, h1, h2⟩ := args2 hv hlen
        obtain ⟨⟨ao, cap, rfl, k1, k2, k3⟩, hl⟩ := one_mag.1 h1
        obtain ⟨⟨ao', cap', rfl, j1, j2, j3⟩, hm⟩ := one_mag.1 h2
        have hpos : 0 < (y.den E).natAbs := by
          rcases Nat.eq_zero_or_pos (y.den E).natAbs with h0 | h0
          · simp [BT.den, IT.den, fn1, h0, limbs_zero] at hy
          · exact h0
        refine (partsOK _ _ (by unfold Lim at hl; omega) (by unfold Lim at hm; omega) hpos w ao ao' cap cap' k1 j1 k2 j2 k3 j3).mono ?_
        rintro e w' ⟨v1, v2, rfl, i1, i2, ex⟩
        have d1 : ((IT.a2 9 x y).den E).natAbs = (x.den E).natAbs / (y.den E).natAbs := rfl
        have d2 : ((IT.a2 10 x y).den E).natAbs = (x.den E).natAbs % (y.den E).natAbs := rfl
        refine ⟨_, rfl, ⟨[v1, v2], rfl, v1, _, rfl, one_mag.2 ⟨by rw [d1]; exact i1, ?_⟩, v2, _, rfl, one_mag.2 ⟨by rw [d2]; exact i2, ?_⟩, rfl⟩, ex⟩
        · exact hl.natAbs_le (by rw [d1]; exact Nat.div_le_self _ _)
        · exact hm.natAbs_le (by rw [d2]; exact Nat.le_of_lt (Nat.mod_lt _ hpos))
      · cases h
    · cases h
  · intro args As r h x off
    unfold kParts at h
    split at h
    · split at h
      · injection h with h; subst h; intro e; cases e
      · cases h
    · cases h
/-- A sign and limbs, made an integer. -/
def kSigned : Con
  | [.val false [.b s], .val false [.mag x l]], G => if lo l then match s.ev G with
      | some true => some (.val true [.int (.a1 0 (.a1 5 x)) l])
      | some false => some (.val true [.int (.a1 5 x) l])
      | none => none
    else none
  | _, _ => none
theorem kSigned_ok {E : Env} : ConOK Try.prog E 82 kSigned := by
  refine ⟨?_, ?_, ⟨_, Try.func82, by decide +kernel, by kernel_rfl⟩⟩
  · intro args As r h hG β w vs hv hlen
    unfold kSigned at h
    split at h
    · rename_i s x l
      split at h
      · obtain ⟨v, u, rfl, h1, h2⟩ := args2 hv hlen
        have e1 := one_bool.1 h1
        subst e1
        obtain ⟨⟨ao, cap, rfl, k1, k2, k3⟩, hl⟩ := one_mag.1 h2
        have hc := rsignedL_calls w (s.den E) ao (x.den E).natAbs cap k1 k2 k3
        split at h
        · rename_i hs
          injection h with h
          subst h
          refine hc.mono ?_
          rintro e w' ⟨v', rfl, hI, ex⟩
          rw [BT.ev_spec hG hs] at hI
          exact ⟨v', rfl, one_int.2 ⟨hI, by unfold Lim at *; simpa [IT.den, fn1] using hl⟩, ex⟩
        · rename_i hs
          injection h with h
          subst h
          refine hc.mono ?_
          rintro e w' ⟨v', rfl, hI, ex⟩
          rw [BT.ev_spec hG hs] at hI
          exact ⟨v', rfl, one_int.2 ⟨hI, by unfold Lim at *; simpa [IT.den, fn1] using hl⟩, ex⟩
        · cases h
      · cases h
    · cases h
  · intro args As r h x off
    unfold kSigned at h
    split at h
    · split at h
      · split at h
        · injection h with h; subst h; intro e; cases e
        · injection h with h; subst h; intro e; cases e
        · cases h
      · cases h
    · cases h
/-- The reference's integers, but for its quotient. -/
def tabR1 : List (Nat × Con) := [(90, kParts), (82, kSigned), (55, kFrom), (57, kII (.a2 0) (fun l m => max l m + 1)), (68, kII (.a2 1) (fun l m => max l m + 1)),
  (53, kII (.a2 2) (· + ·)), (80, kI (.a1 0) id), (58, kIn fun x => .a2 3 x (.lit 0)), (71, kII (.a2 6) max)]
theorem tabR1_ok {E : Env} : TabOK Try.prog E tabR1 := by
  refine .cons kParts_ok (.cons kSigned_ok ?_)
  refine .cons (kFrom_ok (fun w n h1 h2 => rfromInt64_calls w n h1 h2) ⟨_, Try.func55, by decide +kernel, by kernel_rfl⟩) ?_
  refine .cons (kII_ok (· + ·) (fun _ _ => rfl) (fun w v1 v2 z1 z2 l m h1 h2 l1 l2 b1 b2 => radd_calls w v1 v2 z1 z2 h1 h2 (l1.sm (by omega)) (l2.sm (by omega))) (fun _ _ _ _ h k => h.add2 k) ⟨_, Try.func57, by decide +kernel, by kernel_rfl⟩) ?_
  refine .cons (kII_ok (· - ·) (fun _ _ => rfl) (fun w v1 v2 z1 z2 l m h1 h2 l1 l2 b1 b2 => rsub_calls w v1 v2 z1 z2 h1 h2 (l1.sm (by omega)) (l2.sm (by omega))) (fun _ _ _ _ h k => h.sub2 k) ⟨_, Try.func68, by decide +kernel, by kernel_rfl⟩) ?_
  refine .cons (kII_ok (· * ·) (fun _ _ => rfl) (fun w v1 v2 z1 z2 l m h1 h2 l1 l2 b1 b2 => rmul_calls w v1 v2 z1 z2 h1 h2 (l1.sm (by omega)) (l2.sm (by omega))) (fun _ _ _ _ h k => h.mul k) ⟨_, Try.func53, by decide +kernel, by kernel_rfl⟩) ?_
  refine .cons (kI_ok (- ·) (fun _ => rfl) (fun w v1 z1 l h1 l1 b1 => rneg_calls w v1 z1 h1) (fun _ _ h => h.neg) ⟨_, Try.func80, by decide +kernel, by kernel_rfl⟩) ?_
  refine .cons (kIn_ok (cmpZ · 0) (fun _ => rfl) (fun w v1 z1 h1 => rsign_calls w v1 z1 h1) ⟨_, Try.func58, by decide +kernel, by kernel_rfl⟩) ?_
  exact .cons (kII_ok (fun x y => ((Nat.gcd x.natAbs y.natAbs : Nat) : Int)) (fun _ _ => rfl) (fun w v1 v2 z1 z2 l m h1 h2 l1 l2 b1 b2 => rgcd_calls w v1 v2 z1 z2 h1 h2 (l1.sm (by omega)) (l2.sm (by omega))) (fun _ _ _ _ h k => gcd_lim h k) ⟨_, Try.func71, by decide +kernel, by kernel_rfl⟩) .nil

end Go.Proofs.Ytdleiiboffkidaa
end

/- ---- Rdq ---- -/
section
/-
  The reference's quotient.
-/
set_option maxRecDepth 100000
namespace Go.Proofs.Ytdleiiboffkidaa
open Go.RowKit

def tDM : Tree := .ite (.eq (.a1 4 (.var 1)) (.lit 0)) (.leaf [(true, [.int (.lit 0) 0]), (true, [.int (.lit 0) 0]), (false, [.n .i64 (.lit 6)])]) (.ite (.lt (.var 0) (.lit 0)) (.ite (.lt (.var 1) (.lit 0)) (.ite (.lt (.lit 0) (.a1 4 (.a2 10 (.var 0) (.var 1)))) (.leaf [(true, [.int (.a1 5 (.a2 9 (.var 0) (.var 1))) 400000]), (true, [.int (.a1 0 (.a1 5 (.a2 10 (.var 0) (.var 1)))) 400000]), (false, [.n .i64 (.lit 0)])]) (.leaf [(true, [.int (.a1 5 (.a2 9 (.var 0) (.var 1))) 400000]), (true, [.int (.a1 0 (.a1 5 (.a2 10 (.var 0) (.var 1)))) 400000]), (false, [.n .i64 (.lit 0)])])) (.ite (.lt (.lit 0) (.a1 4 (.a2 10 (.var 0) (.var 1)))) (.leaf [(true, [.int (.a2 1 (.a1 0 (.a1 5 (.a2 9 (.var 0) (.var 1)))) (.lit 1)) 400001]), (true, [.int (.a2 0 (.a1 0 (.a1 5 (.a2 10 (.var 0) (.var 1)))) (.var 1)) 400001]), (false, [.n .i64 (.lit 0)])]) (.leaf [(true, [.int (.a1 0 (.a1 5 (.a2 9 (.var 0) (.var 1)))) 400000]), (true, [.int (.a1 0 (.a1 5 (.a2 10 (.var 0) (.var 1)))) 400000]), (false, [.n .i64 (.lit 0)])]))) (.ite (.lt (.var 1) (.lit 0)) (.ite (.lt (.lit 0) (.a1 4 (.a2 10 (.var 0) (.var 1)))) (.leaf [(true, [.int (.a2 1 (.a1 0 (.a1 5 (.a2 9 (.var 0) (.var 1)))) (.lit 1)) 400001]), (true, [.int (.a2 0 (.a1 5 (.a2 10 (.var 0) (.var 1))) (.var 1)) 400001]), (false, [.n .i64 (.lit 0)])]) (.leaf [(true, [.int (.a1 0 (.a1 5 (.a2 9 (.var 0) (.var 1)))) 400000]), (true, [.int (.a1 5 (.a2 10 (.var 0) (.var 1))) 400000]), (false, [.n .i64 (.lit 0)])])) (.ite (.lt (.lit 0) (.a1 4 (.a2 10 (.var 0) (.var 1)))) (.leaf [(true, [.int (.a1 5 (.a2 9 (.var 0) (.var 1))) 400000]), (true, [.int (.a1 5 (.a2 10 (.var 0) (.var 1))) 400000]), (false, [.n .i64 (.lit 0)])]) (.leaf [(true, [.int (.a1 5 (.a2 9 (.var 0) (.var 1))) 400000]), (true, [.int (.a1 5 (.a2 10 (.var 0) (.var 1))) 400000]), (false, [.n .i64 (.lit 0)])]))))
theorem dmZ {a b q r : Int} (hb : b ≠ 0) (h1 : a = q * b + r) (h2 : 0 ≤ r ∧ r < b ∨ b < r ∧ r ≤ 0) : q = dq a b ∧ r = dr a b := by
  obtain ⟨k1, k2⟩ := dq_dr (a := a) hb
  exact quo_unique h1 k1.symm h2 k2
theorem parts_eq (a b : Int) (hb : b ≠ 0) : (b.natAbs : Int) * ((a.natAbs / b.natAbs : Nat) : Int) + ((a.natAbs % b.natAbs : Nat) : Int) = (a.natAbs : Int) ∧ ((a.natAbs % b.natAbs : Nat) : Int) < (b.natAbs : Int) := by
  have e := Nat.div_add_mod a.natAbs b.natAbs
  have hlt := Nat.mod_lt a.natAbs (show 0 < b.natAbs by omega)
  refine ⟨?_, by omega⟩
  rw [← Int.natCast_mul, ← Int.natCast_add, e]
theorem rdm_same {a b : Int} (hb : b ≠ 0) (h : 0 ≤ a ∧ 0 < b) : ((a.natAbs / b.natAbs : Nat) : Int) = dq a b ∧ ((a.natAbs % b.natAbs : Nat) : Int) = dr a b := by
  obtain ⟨e, hlt⟩ := parts_eq a b hb
  generalize ((a.natAbs / b.natAbs : Nat) : Int) = Q at *
  have h0 : 0 ≤ ((a.natAbs % b.natAbs : Nat) : Int) := by omega
  generalize ((a.natAbs % b.natAbs : Nat) : Int) = R at *
  have hN : (b.natAbs : Int) = b := by omega
  rw [hN] at e hlt
  exact dmZ hb (by rw [Int.mul_comm]; omega) (by omega)
theorem rdm_neg {a b : Int} (hb : b ≠ 0) (h : a < 0 ∧ b < 0) : ((a.natAbs / b.natAbs : Nat) : Int) = dq a b ∧ -((a.natAbs % b.natAbs : Nat) : Int) = dr a b := by
  obtain ⟨e, hlt⟩ := parts_eq a b hb
  generalize ((a.natAbs / b.natAbs : Nat) : Int) = Q at *
  have h0 : 0 ≤ ((a.natAbs % b.natAbs : Nat) : Int) := by omega
  generalize ((a.natAbs % b.natAbs : Nat) : Int) = R at *
  have hN : (b.natAbs : Int) = -b := by omega
  rw [hN] at e hlt
  rw [Int.neg_mul] at e
  exact dmZ hb (by rw [Int.mul_comm]; omega) (by omega)
theorem rdm_np {a b : Int} (hb : b ≠ 0) (h : a < 0 ∧ 0 < b) (hr : 0 < ((a.natAbs % b.natAbs : Nat) : Int)) : -((a.natAbs / b.natAbs : Nat) : Int) - 1 = dq a b ∧ -((a.natAbs % b.natAbs : Nat) : Int) + b = dr a b := by
  obtain ⟨e, hlt⟩ := parts_eq a b hb
  generalize ((a.natAbs / b.natAbs : Nat) : Int) = Q at *
  generalize ((a.natAbs % b.natAbs : Nat) : Int) = R at *
  have hN : (b.natAbs : Int) = b := by omega
  rw [hN] at e hlt
  exact dmZ hb (by rw [Int.mul_comm, Int.mul_sub, Int.mul_neg]; omega) (by omega)
theorem rdm_np0 {a b : Int} (hb : b ≠ 0) (h : a < 0 ∧ 0 < b) (hr : ((a.natAbs % b.natAbs : Nat) : Int) = 0) : -((a.natAbs / b.natAbs : Nat) : Int) = dq a b ∧ -((a.natAbs % b.natAbs : Nat) : Int) = dr a b := by
  obtain ⟨e, hlt⟩ := parts_eq a b hb
  generalize ((a.natAbs / b.natAbs : Nat) : Int) = Q at *
  generalize ((a.natAbs % b.natAbs : Nat) : Int) = R at *
  have hN : (b.natAbs : Int) = b := by omega
  rw [hN] at e hlt
  exact dmZ hb (by rw [Int.mul_comm, Int.mul_neg]; omega) (by omega)
theorem rdm_pn {a b : Int} (hb : b ≠ 0) (h : 0 ≤ a ∧ b < 0) (hr : 0 < ((a.natAbs % b.natAbs : Nat) : Int)) : -((a.natAbs / b.natAbs : Nat) : Int) - 1 = dq a b ∧ ((a.natAbs % b.natAbs : Nat) : Int) + b = dr a b := by
  obtain ⟨e, hlt⟩ := parts_eq a b hb
  generalize ((a.natAbs / b.natAbs : Nat) : Int) = Q at *
  generalize ((a.natAbs % b.natAbs : Nat) : Int) = R at *
  have hN : (b.natAbs : Int) = -b := by omega
  rw [hN] at e hlt
  rw [Int.neg_mul] at e
  exact dmZ hb (by rw [Int.mul_comm, Int.mul_sub, Int.mul_neg]; omega) (by omega)
theorem rdm_pn0 {a b : Int} (hb : b ≠ 0) (h : 0 ≤ a ∧ b < 0) (hr : ((a.natAbs % b.natAbs : Nat) : Int) = 0) : -((a.natAbs / b.natAbs : Nat) : Int) = dq a b ∧ ((a.natAbs % b.natAbs : Nat) : Int) = dr a b := by
  obtain ⟨e, hlt⟩ := parts_eq a b hb
  generalize ((a.natAbs / b.natAbs : Nat) : Int) = Q at *
  generalize ((a.natAbs % b.natAbs : Nat) : Int) = R at *
  have hN : (b.natAbs : Int) = -b := by omega
  rw [hN] at e hlt
  rw [Int.neg_mul] at e
  exact dmZ hb (by rw [Int.mul_comm, Int.mul_neg]; omega) (by omega)
theorem len_pos_iff (n : Nat) : (0 : Int) < ((limbs n).length : Int) ↔ 0 < (n : Int) := by
  rcases Nat.eq_zero_or_pos n with h | h
  · subst h; simp [limbs_zero]
  · have := limbs_pos h; omega
theorem rdivMod_fn (w : World) (v1 v2 : Value) (a b : Int) (h : IsInt w v1 a) (k : IsInt w v2 b) (l1 : Lim 400000 a) (l2 : Lim 400000 b) :
    Calls Try.prog 79 #[v1, v2] w (RetDMF a b w) := by
  refine (walkZ2 (T := tDM) tabR1_ok Try.func79 (by kernel_rfl) (by decide +kernel) (by decide +kernel) h k l1 l2).mono ?_
  rintro e w' ⟨β, v, rfl, hh, ex⟩
  have fin : ∀ (x y : IT) (l m : Nat), (AV.tup [(true, [.int x l]), (true, [.int y m]), (false, [.n .i64 (.lit 0)])]).holds (zE [a, b]) β w' v → b ≠ 0 → (x.den (zE [a, b]) = dq a b ∧ y.den (zE [a, b]) = dr a b) → RetDMF a b w (.returned v) w' := by
    intro x y l m hx hb hq
    obtain ⟨vs, rfl, u1, r1, rfl, k1, u2, r2, rfl, k2, u3, r3, rfl, k3, hn⟩ := hx
    simp only [tupAll] at hn
    subst hn
    have e3 := one_num.1 k3
    subst e3
    refine ⟨u1, u2, ?_, ?_, ?_, ex⟩
    · unfold de; rw [if_neg hb]; rfl
    · rw [← hq.1]; exact (one_int.1 k1).1
    · rw [← hq.2]; exact (one_int.1 k2).1
  have t1 : (BT.eq (.a1 4 (.var 1)) (.lit 0)).den (zE [a, b]) = decide (b = 0) := by
    show (((limbs b.natAbs).length : Int) == 0) = _
    have := len_pos_iff b.natAbs
    by_cases hb : b = 0
    · rw [decide_eq_true hb, beq_iff_eq]; omega
    · rw [decide_eq_false hb, beq_eq_false_iff_ne]; omega
  have t2 : (BT.lt (.var 0) (.lit 0)).den (zE [a, b]) = decide (a < 0) := rfl
  have t3 : (BT.lt (.var 1) (.lit 0)).den (zE [a, b]) = decide (b < 0) := rfl
  have t4 : (BT.lt (.lit 0) (.a1 4 (.a2 10 (.var 0) (.var 1)))).den (zE [a, b]) = decide (0 < ((a.natAbs % b.natAbs : Nat) : Int)) := by
    show decide ((0 : Int) < ((limbs (a.natAbs % b.natAbs)).length : Int)) = _
    rw [decide_eq_decide]
    exact len_pos_iff _
  have h0 : 0 ≤ ((a.natAbs % b.natAbs : Nat) : Int) := Int.natCast_nonneg _
  simp only [tDM, Tree.pick, t1, t2, t3, t4, decide_eq_true_iff] at hh
  split at hh
  · rename_i hb0
    have hb : b = 0 := hb0
    obtain ⟨vs, rfl, u1, r1, rfl, k1, u2, r2, rfl, k2, u3, r3, rfl, k3, hn⟩ := hh
    simp only [tupAll] at hn
    subst hn
    have e3 := one_num.1 k3
    subst e3
    subst hb
    exact ⟨u1, u2, rfl, (one_int.1 k1).1, (one_int.1 k2).1, ex⟩
  · rename_i hb0
    have hb : b ≠ 0 := hb0
    split at hh
    · split at hh
      · split at hh
        · have hq := rdm_neg (a := a) (b := b) hb (by omega); exact fin _ _ _ _ hh hb hq
        · have hq := rdm_neg (a := a) (b := b) hb (by omega); exact fin _ _ _ _ hh hb hq
      · split at hh
        · have hq := rdm_np (a := a) (b := b) hb (by omega) (by omega); exact fin _ _ _ _ hh hb hq
        · have hq := rdm_np0 (a := a) (b := b) hb (by omega) (by omega); exact fin _ _ _ _ hh hb hq
    · split at hh
      · split at hh
        · have hq := rdm_pn (a := a) (b := b) hb (by omega) (by omega); exact fin _ _ _ _ hh hb hq
        · have hq := rdm_pn0 (a := a) (b := b) hb (by omega) (by omega); exact fin _ _ _ _ hh hb hq
      · split at hh
        · have hq := rdm_same (a := a) (b := b) hb (by omega); exact fin _ _ _ _ hh hb hq
        · have hq := rdm_same (a := a) (b := b) hb (by omega); exact fin _ _ _ _ hh hb hq

end Go.Proofs.Ytdleiiboffkidaa
end

/- ---- Rate ---- -/
section
/-
  Products, sums and negatives of rational numbers.
-/
set_option maxRecDepth 100000
namespace Go.Proofs.Ytdleiiboffkidaa
open Go.RowKit

theorem gcd_pos_right (x : Int) (n : Nat) (h : 0 < n) : 0 < Nat.gcd x.natAbs n := Nat.gcd_pos_of_pos_right _ h
theorem dq_cast (x : Int) {n : Nat} (h : 0 < n) : dq x (n : Int) = x / (n : Int) := dq_pos (by omega)
theorem dq_cast2 (m : Nat) {n : Nat} (h : 0 < n) : dq (m : Int) (n : Int) = ((m / n : Nat) : Int) := by rw [dq_cast _ h]; exact (Int.natCast_ediv m n).symm
theorem mul_dq (a b : Rat) : dq a.num ((Nat.gcd a.num.natAbs (b.den : Int).natAbs : Nat) : Int) * dq b.num ((Nat.gcd b.num.natAbs (a.den : Int).natAbs : Nat) : Int) = (a * b).num ∧
    dq (a.den : Int) ((Nat.gcd b.num.natAbs (a.den : Int).natAbs : Nat) : Int) * dq (b.den : Int) ((Nat.gcd a.num.natAbs (b.den : Int).natAbs : Nat) : Int) = ((a * b).den : Int) := by
  obtain ⟨h1, h2⟩ := mul_parts a b
  simp only [Int.natAbs_natCast]
  have p1 := gcd_pos_right a.num b.den b.den_pos
  have p2 := gcd_pos_right b.num a.den a.den_pos
  rw [h1, h2, dq_cast _ p1, dq_cast _ p2, dq_cast2 _ p1, dq_cast2 _ p2, Int.natCast_mul]
  exact ⟨rfl, rfl⟩

theorem sum_dq (a b : Rat) (N : Int) (hN : N = a.num * dq (b.den : Int) ((Nat.gcd (a.den : Int).natAbs (b.den : Int).natAbs : Nat) : Int) + b.num * dq (a.den : Int) ((Nat.gcd (a.den : Int).natAbs (b.den : Int).natAbs : Nat) : Int)) :
    dq N ((Nat.gcd N.natAbs ((Nat.gcd (a.den : Int).natAbs (b.den : Int).natAbs : Nat) : Int).natAbs : Nat) : Int) = (a + b).num ∧
    dq (a.den : Int) ((Nat.gcd (a.den : Int).natAbs (b.den : Int).natAbs : Nat) : Int) * dq (b.den : Int) ((Nat.gcd N.natAbs ((Nat.gcd (a.den : Int).natAbs (b.den : Int).natAbs : Nat) : Int).natAbs : Nat) : Int) = ((a + b).den : Int) := by
  obtain ⟨h1, h2⟩ := add_parts a b
  simp only [Int.natAbs_natCast] at hN ⊢
  have p0 : 0 < a.den.gcd b.den := Nat.gcd_pos_of_pos_right _ b.den_pos
  rw [dq_cast2 _ p0, dq_cast2 _ p0] at hN
  rw [← hN] at h1 h2
  have p1 := gcd_pos_right N (a.den.gcd b.den) p0
  have d1 : N.natAbs.gcd (a.den.gcd b.den) ∣ b.den := Nat.dvd_trans (Nat.gcd_dvd_right _ _) (Nat.gcd_dvd_right _ _)
  rw [dq_cast _ p1, dq_cast2 _ p1, dq_cast2 _ p0, h1, h2, Nat.mul_div_assoc _ d1, Int.natCast_mul]
  exact ⟨rfl, rfl⟩
theorem sum_ones (a b : Rat) (h1 : (a.den : Int) = 1) (h2 : (b.den : Int) = 1) : a.num + b.num = (a + b).num ∧ (1 : Int) = ((a + b).den : Int) := by
  obtain ⟨k1, k2⟩ := add_parts a b
  have e1 : a.den = 1 := by omega
  have e2 : b.den = 1 := by omega
  rw [e1, e2] at k1 k2
  rw [k1, k2]
  simp
end Go.Proofs.Ytdleiiboffkidaa
end

/- ---- Ratf ---- -/
section
/-
  How long the parts of sums and products are, and what the walker knows of rational numbers.
-/
set_option maxRecDepth 100000
namespace Go.Proofs.Ytdleiiboffkidaa
open Go.RowKit

theorem lim_cast {l n m : Nat} (h : Lim l (n : Int)) (k : m ≤ n) : Lim l (m : Int) := h.natAbs_le (by simpa using k)
theorem LimQ.mul {l m k j : Nat} {a b : Rat} (h1 : Lim l a.num) (h2 : Lim m (a.den : Int)) (h3 : Lim k b.num) (h4 : Lim j (b.den : Int)) : Lim (l + m + k + j + 1) (a * b).num ∧ Lim (l + m + k + j + 1) ((a * b).den : Int) := by
  obtain ⟨m1, m2⟩ := mul_dq a b
  rw [← m1, ← m2]
  exact ⟨((h1.natAbs_le (dq_abs _ _)).mul (h3.natAbs_le (dq_abs _ _))).mono (by omega), ((h2.natAbs_le (dq_abs _ _)).mul (h4.natAbs_le (dq_abs _ _))).mono (by omega)⟩
theorem LimQ.add {l m k j : Nat} {a b : Rat} (h1 : Lim l a.num) (h2 : Lim m (a.den : Int)) (h3 : Lim k b.num) (h4 : Lim j (b.den : Int)) : Lim (l + m + k + j + 1) (a + b).num ∧ Lim (l + m + k + j + 1) ((a + b).den : Int) := by
  obtain ⟨m1, m2⟩ := sum_dq a b _ rfl
  rw [← m1, ← m2]
  refine ⟨Lim.natAbs_le ?_ (dq_abs _ _), ((h2.natAbs_le (dq_abs _ _)).mul (h4.natAbs_le (dq_abs _ _))).mono (by omega)⟩
  exact ((h1.mul (h4.natAbs_le (dq_abs _ _))).add2 (h3.mul (h2.natAbs_le (dq_abs _ _)))).mono (by omega)
theorem LimQ.sub {l m k j : Nat} {a b : Rat} (h1 : Lim l a.num) (h2 : Lim m (a.den : Int)) (h3 : Lim k b.num) (h4 : Lim j (b.den : Int)) : Lim (l + m + k + j + 1) (a - b).num ∧ Lim (l + m + k + j + 1) ((a - b).den : Int) := by
  rw [Rat.sub_eq_add_neg]
  exact LimQ.add (b := -b) h1 h2 (by rw [Rat.neg_num]; exact h3.neg) h4

/-- Where terms are the parts of a rational number. -/
def QEnv (E : Env) : Prop := ∀ i, i % 2 = 0 → ∃ q : Rat, E.i i = q.num ∧ E.i (i + 1) = (q.den : Int)
def canon0 : IT → IT → Bool
  | .var i, .var j => i % 2 == 0 && j == i + 1
  | .lit z, .lit d => decide (0 < d) && Nat.gcd z.natAbs d.natAbs == 1
  | .a1 f x, t => f == 0 && canon0 x t
  | .a2 f x y, .a2 g z t => f == 7 && (g == 8 && (x.beq z && y.beq t))
  | .a4 f x y z t, .a4 g x' y' z' t' => f % 2 == 0 && (g == f + 1 && (f != 8 && (x.beq x' && (y.beq y' && (z.beq z' && t.beq t')))))
  | _, _ => false
theorem canon0_spec {E : Env} (hE : QEnv E) : ∀ {s t : IT}, canon0 s t = true → ∃ q : Rat, s.den E = q.num ∧ t.den E = (q.den : Int) := by
  intro s
  induction s with
  | var i =>
    intro t h
    cases t <;> simp only [canon0, Bool.false_eq_true, Bool.and_eq_true, beq_iff_eq] at h
    obtain ⟨h1, rfl⟩ := h
    exact hE i h1
  | lit z =>
    intro t h
    cases t with
    | lit d =>
      simp only [canon0, Bool.and_eq_true, beq_iff_eq, decide_eq_true_iff] at h
      obtain ⟨h1, h2⟩ := h
      exact ⟨⟨z, d.natAbs, by omega, h2⟩, rfl, (by show d = (d.natAbs : Int); omega)⟩
    | _ => simp [canon0] at h
  | rlen i => intro t h; cases t <;> simp [canon0] at h
  | slen i => intro t h; cases t <;> simp [canon0] at h
  | a1 f x ih =>
    intro t h
    simp only [canon0, Bool.and_eq_true, beq_iff_eq] at h
    obtain ⟨rfl, h⟩ := h
    obtain ⟨q, h1, h2⟩ := ih h
    exact ⟨-q, by rw [Rat.neg_num, ← h1]; rfl, h2⟩
  | a2 f x y _ _ =>
    intro t h
    cases t <;> simp only [canon0, Bool.false_eq_true, Bool.and_eq_true, beq_iff_eq] at h
    obtain ⟨rfl, rfl, h1, h2⟩ := h
    rw [← IT.eq_of_beq h1, ← IT.eq_of_beq h2]
    exact ⟨_, rfl, rfl⟩
  | a4 f x y z t _ _ _ _ =>
    intro u h
    cases u <;> simp only [canon0, Bool.false_eq_true, Bool.and_eq_true, beq_iff_eq] at h
    obtain ⟨h0, rfl, h8, h1, h2, h3, h4⟩ := h
    have h8' : f ≠ 8 := by simpa using h8
    rw [← IT.eq_of_beq h1, ← IT.eq_of_beq h2, ← IT.eq_of_beq h3, ← IT.eq_of_beq h4]
    refine ⟨_, if_pos h0, ?_⟩
    show fn4 (f + 1) _ _ _ _ = _
    unfold fn4
    rw [if_neg (by omega), if_neg (by omega), show (f + 1) / 2 = f / 2 by omega]
def canon (s t : IT) : Bool := t.beq (.lit 1) || canon0 s t
theorem canon_spec {E : Env} (hE : QEnv E) {s t : IT} (h : canon s t = true) : ∃ q : Rat, s.den E = q.num ∧ t.den E = (q.den : Int) := by
  unfold canon at h
  rw [Bool.or_eq_true] at h
  rcases h with h | h
  · rw [IT.eq_of_beq h]
    exact ⟨⟨s.den E, 1, by omega, Nat.gcd_one_right _⟩, rfl, rfl⟩
  · exact canon0_spec hE h
theorem divInt_parts (q : Rat) : Rat.divInt q.num (q.den : Int) = q := Rat.num_divInt_den q
theorem one_ratQ {E : Env} {w : World} {s t : IT} {l m : Nat} {v : Value} (hE : QEnv E) (hc : canon s t = true) (h : one E w (true, [.int s l, .int t m]) v) : ∃ q : Rat, q = Rat.divInt (s.den E) (t.den E) ∧ s.den E = q.num ∧ t.den E = (q.den : Int) ∧ IsRat w v q ∧ Lim l q.num ∧ Lim m (q.den : Int) := by
  obtain ⟨q, e1, e2⟩ := canon_spec hE hc
  obtain ⟨a, b, c, d, rfl, h1, h2, h3, h4⟩ := one_rat.1 h
  rw [e1] at h1 h2
  rw [e2] at h3 h4
  refine ⟨q, ?_, e1, e2, ⟨a, b, c, d, rfl, h1, h3⟩, h2, h4⟩
  rw [e1, e2, divInt_parts]
def ql (l : Nat) : Bool := decide (l ≤ 100000)
/-- An operation on two rational numbers. -/
def kQQ (f : Nat) : Con
  | [.val true [.int x l, .int y m], .val true [.int z k, .int t j]], _ => if canon x y && (canon z t && (ql l && (ql m && (ql k && ql j)))) then
      some (.val true [.int (.a4 (2 * f) x y z t) (l + m + k + j + 1), .int (.a4 (2 * f + 1) x y z t) (l + m + k + j + 1)]) else none
  | _, _ => none
theorem kQQ_ok {E : Env} (hE : QEnv E) {f i : Nat} (hf : f < 4)
    (hc : ∀ (w : World) (v1 v2 : Value) (a b : Rat), IsRat w v1 a → IsRat w v2 b → LimQ 100000 a → LimQ 100000 b → Calls Try.prog i #[v1, v2] w (Ret (fun v w' => IsRat w' v (ratF f a b)) w))
    (hl : ∀ {l m k j : Nat} {a b : Rat}, Lim l a.num → Lim m (a.den : Int) → Lim k b.num → Lim j (b.den : Int) → Lim (l + m + k + j + 1) (ratF f a b).num ∧ Lim (l + m + k + j + 1) ((ratF f a b).den : Int))
    (hb : ∃ fn, Try.prog.funcs[i]? = some fn ∧ fn.name ≠ "runtime.NumGoroutine" ∧ fn.body.isNone = false) : ConOK Try.prog E i (kQQ f) := by
  refine ⟨?_, ?_, hb⟩
  · intro args As r h hG β w vs hv hlen
    unfold kQQ at h
    split at h
    · rename_i x l y m z k t j
      split at h
      · rename_i hlo
        injection h with h
        subst h
        simp only [ql, Bool.and_eq_true, decide_eq_true_iff] at hlo
        obtain ⟨c1, c2, b1, b2, b3, b4⟩ := hlo
        obtain ⟨v, u, rfl, h1, h2⟩ := args2 hv hlen
        obtain ⟨p, ep, ex1, ex2, hp, lp1, lp2⟩ := one_ratQ hE c1 h1
        obtain ⟨q, eq, ey1, ey2, hq, lq1, lq2⟩ := one_ratQ hE c2 h2
        obtain ⟨n1, n2⟩ := hl lp1 lp2 lq1 lq2
        refine (hc w v u p q hp hq ⟨lp1.mono (by omega), lp2.mono (by omega)⟩ ⟨lq1.mono (by omega), lq2.mono (by omega)⟩).mono ?_
        rintro e w' ⟨v', rfl, ⟨a, b, c, d, rfl, r1, r2⟩, ex⟩
        have d1 : (IT.a4 (2 * f) x y z t).den E = (ratF f p q).num := by
          show fn4 (2 * f) _ _ _ _ = _
          unfold fn4
          rw [if_pos (by omega), show 2 * f / 2 = f by omega, ← ep, ← eq]
        have d2 : (IT.a4 (2 * f + 1) x y z t).den E = ((ratF f p q).den : Int) := by
          show fn4 (2 * f + 1) _ _ _ _ = _
          unfold fn4
          rw [if_neg (by omega), if_neg (by omega), show (2 * f + 1) / 2 = f by omega, ← ep, ← eq]
        refine ⟨_, rfl, one_rat.2 ⟨a, b, c, d, rfl, ?_, ?_, ?_, ?_⟩, ex⟩
        · rw [d1]; exact r1
        · rw [d1]; exact n1
        · rw [d2]; exact r2
        · rw [d2]; exact n2
      · cases h
    · cases h
  · intro args As r h x off
    unfold kQQ at h
    split at h
    · split at h
      · injection h with h; subst h; intro e; cases e
      · cases h
    · cases h
end Go.Proofs.Ytdleiiboffkidaa
end

/- ---- Rdr ---- -/
section
/-
  Quotients in lowest terms, the reference's and the program's.
-/
set_option maxRecDepth 100000
namespace Go.Proofs.Ytdleiiboffkidaa
open Go.RowKit

def tabR2 : List (Nat × Con) := (79, kDM) :: tabR1
theorem tabR2_ok {E : Env} : TabOK Try.prog E tabR2 := .cons (kDMg_ok (fun w v u a b h k l1 l2 => rdivMod_fn w v u a b h k l1 l2) ⟨_, Try.func79, by decide +kernel, by kernel_rfl⟩) tabR1_ok

theorem red_pos (a : Int) {b : Int} (hb : 0 < b) : dq a ((Nat.gcd a.natAbs b.natAbs : Nat) : Int) = (Rat.divInt a b).num ∧ dq b ((Nat.gcd a.natAbs b.natAbs : Nat) : Int) = ((Rat.divInt a b).den : Int) := by
  have hg : 0 < Nat.gcd a.natAbs b.natAbs := Nat.gcd_pos_of_pos_right _ (by omega)
  have hgc : b.gcd a = Nat.gcd a.natAbs b.natAbs := Nat.gcd_comm _ _
  rw [Rat.num_divInt, Rat.den_divInt, if_neg (by omega), hgc, Int.sign_eq_one_of_pos hb, Int.one_mul, dq_cast _ hg]
  refine ⟨rfl, ?_⟩
  have hbn : b = (b.natAbs : Int) := by omega
  generalize Nat.gcd a.natAbs b.natAbs = g at *
  rw [hbn, dq_cast2 _ hg, ← hbn]
theorem divInt_negs (a b : Int) : Rat.divInt (-a) (-b) = Rat.divInt a b := by
  have := Rat.divInt_mul_right (n := a) (d := b) (a := -1) (by omega)
  rw [← this]
  congr 1 <;> omega
theorem red_neg (a : Int) {b : Int} (hb : b < 0) : dq (-a) ((Nat.gcd (-a).natAbs (-b).natAbs : Nat) : Int) = (Rat.divInt a b).num ∧ dq (-b) ((Nat.gcd (-a).natAbs (-b).natAbs : Nat) : Int) = ((Rat.divInt a b).den : Int) := by
  rw [← divInt_negs a b]
  exact red_pos (-a) (by omega)
theorem cmp_lt0 (b : Int) : (cmpZ b 0 < 0) ↔ b < 0 := by
  rcases cmpZ_cases b 0 with ⟨h, e⟩ | ⟨h, e⟩ | ⟨h, e⟩ <;> rw [e] <;> omega
theorem cmp_eq0 (b : Int) : (cmpZ b 0 = 0) ↔ b = 0 := by
  rcases cmpZ_cases b 0 with ⟨h, e⟩ | ⟨h, e⟩ | ⟨h, e⟩ <;> rw [e] <;> omega
theorem cmp_eqm (b : Int) : (cmpZ b 0 = -1) ↔ b < 0 := by
  rcases cmpZ_cases b 0 with ⟨h, e⟩ | ⟨h, e⟩ | ⟨h, e⟩ <;> rw [e] <;> omega
theorem divInt_lim {l m : Nat} {a b : Int} (h : Lim l a) (k : Lim m b) (hb : b ≠ 0) : Lim l (Rat.divInt a b).num ∧ Lim m ((Rat.divInt a b).den : Int) := by
  rcases Int.lt_or_gt_of_ne hb with h1 | h1
  · obtain ⟨e1, e2⟩ := red_neg a h1
    rw [← e1, ← e2]
    exact ⟨h.neg.natAbs_le (dq_abs _ _), k.neg.natAbs_le (dq_abs _ _)⟩
  · obtain ⟨e1, e2⟩ := red_pos a h1
    rw [← e1, ← e2]
    exact ⟨h.natAbs_le (dq_abs _ _), k.natAbs_le (dq_abs _ _)⟩

theorem of_calls (w : World) (v1 v2 : Value) (a b : Int) (hb : b ≠ 0) (h : IsInt w v1 a) (k : IsInt w v2 b) (l1 : Lim 400000 a) (l2 : Lim 400000 b) :
    Calls Try.prog 52 #[v1, v2] w (Ret (fun v w' => IsRat w' v (Rat.divInt a b)) w) := by
  refine (walkZ2 (T := .ite (.lt (.a2 3 (.var 1) (.lit 0)) (.lit 0))
    (.leaf [(true, [.int (.a2 4 (.a1 0 (.var 0)) (.a2 6 (.a1 0 (.var 0)) (.a1 0 (.var 1)))) 400000, .int (.a2 4 (.a1 0 (.var 1)) (.a2 6 (.a1 0 (.var 0)) (.a1 0 (.var 1)))) 400000])])
    (.leaf [(true, [.int (.a2 4 (.var 0) (.a2 6 (.var 0) (.var 1))) 400000, .int (.a2 4 (.var 1) (.a2 6 (.var 0) (.var 1))) 400000])]))
    tabR2_ok Try.func52 (by kernel_rfl) (by decide +kernel) (by decide +kernel) h k l1 l2).mono ?_
  rintro e w' ⟨β, v, rfl, hh, ex⟩
  simp only [Tree.pick] at hh
  split at hh
  · rename_i hz
    have hz' : b < 0 := (cmp_lt0 b).1 (of_decide_eq_true hz)
    obtain ⟨x, y, z, t, rfl, k1, _, k2, _⟩ := one_rat.1 hh
    obtain ⟨m1, m2⟩ := red_neg a hz'
    refine ⟨_, rfl, ⟨x, y, z, t, rfl, ?_, ?_⟩, ex⟩
    · rw [← m1]; exact k1
    · rw [← m2]; exact k2
  · rename_i hz
    have hz' : ¬ b < 0 := fun hb => hz (decide_eq_true ((cmp_lt0 b).2 hb))
    obtain ⟨x, y, z, t, rfl, k1, _, k2, _⟩ := one_rat.1 hh
    obtain ⟨m1, m2⟩ := red_pos a (show 0 < b by omega)
    refine ⟨_, rfl, ⟨x, y, z, t, rfl, ?_, ?_⟩, ex⟩
    · rw [← m1]; exact k1
    · rw [← m2]; exact k2
theorem unit_calls (w : World) : Calls Try.prog 72 #[] w (Ret (fun v w' => IsInt w' v 1) w) := by
  refine (walk0 (T := .leaf [(true, [.int (.lit 1) 3])]) tabR2_ok Try.func72 (by kernel_rfl) (by decide +kernel)).mono ?_
  rintro e w' ⟨β, v, rfl, hh, ex⟩
  exact ⟨v, rfl, (one_int.1 hh).1, ex⟩

/-- What Make returns, for every divisor. -/
def denZ (a b : Int) : Int := if b = 0 then 0 else ((Rat.divInt a b).den : Int)
def RetMake (a b : Int) (w : World) (e : Ending) (w' : World) : Prop :=
  ∃ x y z t, e = .returned (.tuple #[.agg #[x, y, z, t], .int .i64 (de b)]) ∧ IsInt w' (.agg #[x, y]) (Rat.divInt a b).num ∧ IsInt w' (.agg #[z, t]) (denZ a b) ∧ Ext w w'
theorem divInt_zero' (a : Int) : (Rat.divInt a 0).num = 0 := by rw [Rat.num_divInt]; simp
end Go.Proofs.Ytdleiiboffkidaa
end

/- ---- Rds ---- -/
section
/-
  Quotients of rational numbers, the reference's and the program's; sums and products of the reference.
-/
set_option maxRecDepth 100000
namespace Go.Proofs.Ytdleiiboffkidaa
open Go.RowKit

/-- Two integers in a rational number's place. -/
def IsPair (w : World) (v : Value) (n d : Int) : Prop := ∃ a b c e, v = .agg #[a, b, c, e] ∧ IsInt w (.agg #[a, b]) n ∧ IsInt w (.agg #[c, e]) d
theorem IsPair.ext {w w' : World} {v : Value} {n d : Int} (h : IsPair w v n d) (e : Ext w w') : IsPair w' v n d := by
  obtain ⟨a, b, c, f, h1, h2, h3⟩ := h
  exact ⟨a, b, c, f, h1, h2.ext e, h3.ext e⟩
theorem IsRat.pair {w : World} {v : Value} {q : Rat} (h : IsRat w v q) : IsPair w v q.num (q.den : Int) := h
theorem argP_holds {E : Env} {β : Nat → Nat} {w : World} {v : Value} {n d : Int} {i : Nat} (h : IsPair w v n d) (l1 : Lim 100000 n) (l2 : Lim 100000 d) (e1 : E.i (2 * i) = n) (e2 : E.i (2 * i + 1) = d) : (argQ i).holds E β w v := by
  obtain ⟨a, b, c, f, rfl, h1, h2⟩ := h
  refine one_rat.2 ⟨a, b, c, f, rfl, ?_, ?_, ?_, ?_⟩
  · show IsInt w _ (E.i (2 * i)); rw [e1]; exact h1
  · show Lim 100000 (E.i (2 * i)); rw [e1]; exact l1
  · show IsInt w _ (E.i (2 * i + 1)); rw [e2]; exact h2
  · show Lim 100000 (E.i (2 * i + 1)); rw [e2]; exact l2
theorem walkP2 {tab : List (Nat × Con)} {f : Nat} {fn : Func} {T : Tree} {w : World} {n1 d1 n2 d2 : Int} {v1 v2 : Value} (ht : TabOK Try.prog (zE [n1, d1, n2, d2]) tab) (hf : Try.prog.funcs[f]? = some fn) (hT : funE (cfgOf tab) fn [] [argQ 0, argQ 1] = some T) (h4 : fn.results.toList.length ≤ 4) (hn : 2 ≤ fn.ntmps)
    (h1 : IsPair w v1 n1 d1) (h2 : IsPair w v2 n2 d2) (l1 : Lim 100000 n1) (l1' : Lim 100000 d1) (l2 : Lim 100000 n2) (l2' : Lim 100000 d2) :
    Calls Try.prog f #[v1, v2] w fun e w' => ∃ β v, e = .returned v ∧ (toAV (T.pick (zE [n1, d1, n2, d2]))).holds (zE [n1, d1, n2, d2]) β w' v ∧ Ext w w' := by
  refine fun_sound mixed (cfg_ok ht) no_asm hf h4 hT hn rfl w [v1, v2] rfl ?_
  intro i x hx
  match i, hx with
  | 0, hx => injection hx with hx; subst hx; exact ⟨fun _ => 0, v1, rfl, argP_holds h1 l1 l1' rfl rfl⟩
  | 1, hx => injection hx with hx; subst hx; exact ⟨fun _ => 0, v2, rfl, argP_holds h2 l2 l2' rfl rfl⟩
theorem one_pair {E : Env} {w : World} {s t : IT} {l m : Nat} {v : Value} : one E w (true, [.int s l, .int t m]) v ↔ IsPair w v (s.den E) (t.den E) ∧ Lim l (s.den E) ∧ Lim m (t.den E) := by
  rw [one_rat]
  constructor
  · rintro ⟨a, b, c, d, rfl, h1, h2, h3, h4⟩
    exact ⟨⟨a, b, c, d, rfl, h1, h3⟩, h2, h4⟩
  · rintro ⟨⟨a, b, c, d, rfl, h1, h3⟩, h2, h4⟩
    exact ⟨a, b, c, d, rfl, h1, h2, h3, h4⟩

def kMulRaw : Con
  | [.val true [.int x l, .int y m], .val true [.int z k, .int t j]], _ => if ql l && (ql m && (ql k && ql j)) || decide (l ≤ 100000) && (decide (m ≤ 100000) && (decide (k ≤ 100000) && decide (j ≤ 100000))) then
      some (.val true [.int (.a2 2 (.a2 4 x (.a2 6 x t)) (.a2 4 z (.a2 6 z y))) (l + k), .int (.a2 2 (.a2 4 y (.a2 6 z y)) (.a2 4 t (.a2 6 x t))) (m + j)]) else none
  | _, _ => none
def kSg : Con
  | [.val true [.int x l, .int _ m]], _ => if decide (l ≤ 100000) && decide (m ≤ 100000) then some (.val false [.n .i64 (.a2 3 x (.lit 0))]) else none
  | _, _ => none
/-- What Div returns, for every divisor. -/
def divD (a b : Rat) : Int := if b = 0 then 0 else ((a / b).den : Int)
def RetDiv (a b : Rat) (w : World) (e : Ending) (w' : World) : Prop :=
  ∃ v, e = .returned (.tuple #[v, .int .i64 (de b.num)]) ∧ IsPair w' v (a / b).num (divD a b) ∧ Ext w w'
theorem open_quot {E : Env} {β : Nat → Nat} {w' : World} {v : Value} {s t u : IT} {l m : Nat} (hx : (AV.tup [(true, [.int s l, .int t m]), (false, [.n .i64 u])]).holds E β w' v) :
    ∃ p, v = .tuple #[p, .int .i64 (u.den E)] ∧ IsPair w' p (s.den E) (t.den E) := by
  obtain ⟨vs, rfl, u1, r1, rfl, k1, u2, r2, rfl, k2, hn⟩ := hx
  simp only [tupAll] at hn
  subst hn
  have k2' := one_num.1 k2
  subst k2'
  exact ⟨u1, rfl, (one_pair.1 k1).1⟩
end Go.Proofs.Ytdleiiboffkidaa
end

/- ---- Rdt ---- -/
section
/-
  The reference's rational numbers.
-/
set_option maxRecDepth 100000
namespace Go.Proofs.Ytdleiiboffkidaa
open Go.RowKit

/-- Terms that are not 0. -/
def nz (q : Bool) : IT → Bool
  | .var i => q && i % 2 == 1
  | .lit z => z != 0
  | .a2 f x y => f == 2 && (nz q x && nz q y) || f == 8
  | .a4 f _ _ _ _ => f % 2 == 1 && f != 9
  | _ => false
theorem nz_spec {E : Env} {q : Bool} (hE : q = true → QEnv E) : ∀ {t : IT}, nz q t = true → t.den E ≠ 0 := by
  intro t
  induction t with
  | var i =>
    intro h
    simp only [nz, Bool.and_eq_true, beq_iff_eq] at h
    obtain ⟨q', _, h2⟩ := hE h.1 (i - 1) (by omega)
    rw [show i - 1 + 1 = i by omega] at h2
    show E.i i ≠ 0
    rw [h2]
    have := q'.den_pos
    omega
  | lit z => intro h; simpa [nz, IT.den] using h
  | a2 f x y ihx ihy =>
    intro h
    simp only [nz, Bool.or_eq_true, Bool.and_eq_true, beq_iff_eq] at h
    rcases h with ⟨rfl, h1, h2⟩ | rfl
    · exact Int.mul_ne_zero (ihx h1) (ihy h2)
    · show ((Rat.divInt _ _).den : Int) ≠ 0
      have := (Rat.divInt (x.den E) (y.den E)).den_pos
      omega
  | a4 f x y z t _ _ _ _ =>
    intro h
    simp only [nz, Bool.and_eq_true, beq_iff_eq, bne_iff_ne] at h
    show fn4 f _ _ _ _ ≠ 0
    unfold fn4
    rw [if_neg (by omega), if_neg (fun e => h.2 e.1)]
    have := (ratF (f / 2) (Rat.divInt (x.den E) (y.den E)) (Rat.divInt (z.den E) (t.den E))).den_pos
    omega
  | _ => intro h; cases h
def kOf (q : Bool) : Con
  | [.val true [.int x l], .val true [.int y m]], G => if lo l && (lo m && (nz q y || (G.find (.eq (.a2 3 y (.lit 0)) (.lit 0)) == some false || G.find (.eq y (.lit 0)) == some false))) then some (.val true [.int (.a2 7 x y) l, .int (.a2 8 x y) m]) else none
  | _, _ => none
theorem kOf_ok {E : Env} {q : Bool} (hE : q = true → QEnv E) : ConOK Try.prog E 52 (kOf q) := by
  refine ⟨?_, ?_, ⟨_, Try.func52, by decide +kernel, by kernel_rfl⟩⟩
  · intro args As r h hG β w vs hv hlen
    unfold kOf at h
    split at h
    · rename_i x l y m
      split at h
      · rename_i hlo
        injection h with h
        subst h
        simp only [lo, Bool.and_eq_true, Bool.or_eq_true, decide_eq_true_iff, beq_iff_eq] at hlo
        obtain ⟨b1, b2, b3⟩ := hlo
        have hy : y.den E ≠ 0 := by
          rcases b3 with b3 | b3 | b3
          · exact nz_spec hE b3
          · have := Asm.find_spec hG b3
            intro e
            have h2 : (cmpZ (y.den E) 0 == 0) = false := this
            rw [e] at h2
            cases h2
          · have := Asm.find_spec hG b3
            intro e
            have h2 : (y.den E == 0) = false := this
            rw [e] at h2
            cases h2
        obtain ⟨v, u, rfl, h1, h2⟩ := args2 hv hlen
        obtain ⟨i1, l1⟩ := one_int.1 h1
        obtain ⟨i2, l2⟩ := one_int.1 h2
        refine (of_calls w v u _ _ hy i1 i2 (l1.mono b1) (l2.mono b2)).mono ?_
        rintro e w' ⟨v', rfl, hp, ex⟩
        obtain ⟨n1, n2⟩ := divInt_lim l1 l2 hy
        exact ⟨v', rfl, one_pair.2 ⟨hp, n1, n2⟩, ex⟩
      · cases h
    · cases h
  · intro args As r h x off
    unfold kOf at h
    split at h
    · split at h
      · injection h with h; subst h; intro e; cases e
      · cases h
    · cases h
def kMake : Con
  | [.val true [.int x l], .val true [.int y m]], _ => if lo l && lo m then some (.tup [(true, [.int (.a2 7 x y) l, .int (.a2 11 x y) m]), (false, [.n .i64 (.a1 1 y)])]) else none
  | _, _ => none
theorem lim_zero {l : Nat} : Lim l 0 := by unfold Lim; rw [Int.natAbs_zero, limbs_zero]; exact Nat.zero_le _
theorem kMake_ok {E : Env} {f : Nat} (hc : ∀ (w : World) (v u : Value) (a b : Int), IsInt w v a → IsInt w u b → Lim 400000 a → Lim 400000 b → Calls Try.prog f #[v, u] w (RetMake a b w))
    (hb : ∃ fn, Try.prog.funcs[f]? = some fn ∧ fn.name ≠ "runtime.NumGoroutine" ∧ fn.body.isNone = false) : ConOK Try.prog E f kMake := by
  refine ⟨?_, ?_, hb⟩
  · intro args As r h hG β w vs hv hlen
    unfold kMake at h
    split at h
    · rename_i x l y m
      split at h
      · rename_i hlo
        injection h with h
        subst h
        simp only [lo, Bool.and_eq_true, decide_eq_true_iff] at hlo
        obtain ⟨v, u, rfl, h1, h2⟩ := args2 hv hlen
        obtain ⟨i1, l1⟩ := one_int.1 h1
        obtain ⟨i2, l2⟩ := one_int.1 h2
        refine (hc w v u _ _ i1 i2 (l1.mono (by omega)) (l2.mono (by omega))).mono ?_
        rintro e w' ⟨a, b, c, d, rfl, k1, k2, ex⟩
        have hlim : Lim l (Rat.divInt (x.den E) (y.den E)).num ∧ Lim m (denZ (x.den E) (y.den E)) := by
          unfold denZ
          by_cases hy : y.den E = 0
          · rw [if_pos hy, hy, divInt_zero']
            exact ⟨lim_zero, lim_zero⟩
          · rw [if_neg hy]
            exact divInt_lim l1 l2 hy
        exact ⟨_, rfl, ⟨[.agg #[a, b, c, d], .int .i64 (de (y.den E))], rfl, _, _, rfl, one_pair.2 ⟨⟨a, b, c, d, rfl, k1, k2⟩, hlim.1, hlim.2⟩, _, _, rfl, one_num.2 rfl, rfl⟩, ex⟩
      · cases h
    · cases h
  · intro args As r h x off
    unfold kMake at h
    split at h
    · split at h
      · injection h with h; subst h; intro e; cases e
      · cases h
    · cases h
def tabR3 (q : Bool) : List (Nat × Con) := (52, kOf q) :: (72, k0 (.lit 1) 3) :: tabR2
theorem tabR3_ok {E : Env} {q : Bool} (hE : q = true → QEnv E) : TabOK Try.prog E (tabR3 q) :=
  .cons (kOf_ok hE) (.cons (k0_ok 1 rfl (fun w => unit_calls w) (lim3 (by decide) (by decide)) ⟨_, Try.func72, by decide +kernel, by kernel_rfl⟩) tabR2_ok)
theorem qE_ok (l : List Rat) : QEnv (qE l) := by
  intro i hi
  refine ⟨l.getD (i / 2) 0, ?_, ?_⟩
  · show (if i % 2 = 0 then _ else _) = _
    rw [if_pos hi]
  · show (if (i + 1) % 2 = 0 then _ else _) = _
    rw [if_neg (by omega), show (i + 1) / 2 = i / 2 by omega]
theorem den_ne (q : Rat) : (q.den : Int) ≠ 0 := by have := q.den_pos; omega
theorem radd_rat_calls (w : World) (v1 v2 : Value) (a b : Rat) (h1 : IsRat w v1 a) (h2 : IsRat w v2 b) (l1 : LimQ 100000 a) (l2 : LimQ 100000 b) :
    Calls Try.prog 33 #[v1, v2] w (Ret (fun v w' => IsRat w' v (a + b)) w) := by
  refine (walkQ2 (T := .leaf [(true, [.int (.a2 7 (.a2 0 (.a2 2 (.var 0) (.var 3)) (.a2 2 (.var 2) (.var 1))) (.a2 2 (.var 1) (.var 3))) 200001, .int (.a2 8 (.a2 0 (.a2 2 (.var 0) (.var 3)) (.a2 2 (.var 2) (.var 1))) (.a2 2 (.var 1) (.var 3))) 200000])])
    (tabR3_ok (q := true) (fun _ => qE_ok _)) Try.func33 (by kernel_rfl) (by decide +kernel) (by decide +kernel) h1 h2 l1 l2).mono ?_
  rintro e w' ⟨β, v, rfl, hh, ex⟩
  have e1 : a + b = Rat.divInt (a.num * (b.den : Int) + b.num * (a.den : Int)) ((a.den : Int) * (b.den : Int)) := by
    rw [← Rat.divInt_add_divInt _ _ (den_ne a) (den_ne b), divInt_parts, divInt_parts]
  exact ⟨v, rfl, by rw [e1]; exact (one_pair.1 hh).1, ex⟩
theorem rmul_rat_calls (w : World) (v1 v2 : Value) (a b : Rat) (h1 : IsRat w v1 a) (h2 : IsRat w v2 b) (l1 : LimQ 100000 a) (l2 : LimQ 100000 b) :
    Calls Try.prog 19 #[v1, v2] w (Ret (fun v w' => IsRat w' v (a * b)) w) := by
  refine (walkQ2 (T := .leaf [(true, [.int (.a2 7 (.a2 2 (.var 0) (.var 2)) (.a2 2 (.var 1) (.var 3))) 200000, .int (.a2 8 (.a2 2 (.var 0) (.var 2)) (.a2 2 (.var 1) (.var 3))) 200000])])
    (tabR3_ok (q := true) (fun _ => qE_ok _)) Try.func19 (by kernel_rfl) (by decide +kernel) (by decide +kernel) h1 h2 l1 l2).mono ?_
  rintro e w' ⟨β, v, rfl, hh, ex⟩
  have e1 : a * b = Rat.divInt (a.num * b.num) ((a.den : Int) * (b.den : Int)) := by
    rw [← Rat.divInt_mul_divInt, divInt_parts, divInt_parts]
  exact ⟨v, rfl, by rw [e1]; exact (one_pair.1 hh).1, ex⟩
theorem rneg_rat_calls (w : World) (v1 : Value) (a : Rat) (h1 : IsRat w v1 a) (l1 : LimQ 100000 a) :
    Calls Try.prog 67 #[v1] w (Ret (fun v w' => IsRat w' v (-a)) w) := by
  refine (walkQ1 (T := .leaf [(true, [.int (.a1 0 (.var 0)) 100000, .int (.var 1) 100000])])
    (tabR3_ok (q := true) (fun _ => qE_ok _)) Try.func67 (by kernel_rfl) (by decide +kernel) (by decide +kernel) h1 l1).mono ?_
  rintro e w' ⟨β, v, rfl, hh, ex⟩
  exact ⟨v, rfl, (one_pair.1 hh).1, ex⟩
end Go.Proofs.Ytdleiiboffkidaa
end

/- ---- Rdu ---- -/
section
/-
  What the walker knows of rational numbers, the program's and the reference's.
-/
set_option maxRecDepth 100000
namespace Go.Proofs.Ytdleiiboffkidaa
open Go.RowKit

theorem fn4_num {f : Nat} (hf : f % 2 = 0) (a b : Rat) : fn4 f a.num (a.den : Int) b.num (b.den : Int) = (ratF (f / 2) a b).num := by
  unfold fn4
  rw [if_pos hf, divInt_parts, divInt_parts]
theorem fn4_den {f : Nat} (hf : f % 2 = 1) (h9 : f ≠ 9) (a b : Rat) : fn4 f a.num (a.den : Int) b.num (b.den : Int) = ((ratF (f / 2) a b).den : Int) := by
  unfold fn4
  rw [if_neg (by omega), if_neg (fun e => h9 e.1), divInt_parts, divInt_parts]
theorem args3 {E : Env} {β : Nat → Nat} {w : World} {x y z : AV} {vs : List Value} (hv : ∀ (i : Nat) (a : AV), [x, y, z][i]? = some a → ∃ v, vs[i]? = some v ∧ a.holds E β w v) (hl : vs.length = [x, y, z].length) :
    ∃ v u t, vs = [v, u, t] ∧ x.holds E β w v ∧ y.holds E β w u ∧ z.holds E β w t := by
  match vs, hl with
  | [v, u, t], _ =>
    obtain ⟨v', e1, h1⟩ := hv 0 x rfl
    obtain ⟨u', e2, h2⟩ := hv 1 y rfl
    obtain ⟨t', e3, h3⟩ := hv 2 z rfl
    injection e1 with e1
    injection e2 with e2
    injection e3 with e3
    subst e1 e2 e3
    exact ⟨_, _, _, rfl, h1, h2, h3⟩
/-- The sum, which is told how to combine. -/
def kSum (f g : Nat) : Con
  | [.val true [.int x l, .int y m], .val true [.int z k, .int t j], .val false [.fn h]], _ => if h == g && (canon x y && (canon z t && (decide (l ≤ 100000) && (decide (m ≤ 100000) && (decide (k ≤ 100000) && decide (j ≤ 100000)))))) then
      some (.val true [.int (.a4 (2 * f) x y z t) (l + m + k + j + 1), .int (.a4 (2 * f + 1) x y z t) (l + m + k + j + 1)]) else none
  | _, _ => none
/-- A rational number, with its sign turned. -/
def kNegQ : Con
  | [.val true [.int x l, .int y m]], _ => if canon x y && (decide (l ≤ 100000) && decide (m ≤ 100000)) then some (.val true [.int (.a1 0 x) l, .int y m]) else none
  | _, _ => none
theorem kNegQ_ok {E : Env} (hE : QEnv E) {f : Nat} (hc : ∀ (w : World) (v1 : Value) (a : Rat), IsRat w v1 a → LimQ 100000 a → Calls Try.prog f #[v1] w (Ret (fun v w' => IsRat w' v (-a)) w))
    (hb : ∃ fn, Try.prog.funcs[f]? = some fn ∧ fn.name ≠ "runtime.NumGoroutine" ∧ fn.body.isNone = false) : ConOK Try.prog E f kNegQ := by
  refine ⟨?_, ?_, hb⟩
  · intro args As r h hG β w vs hv hlen
    unfold kNegQ at h
    split at h
    · rename_i x l y m
      split at h
      · rename_i hlo
        injection h with h
        subst h
        simp only [Bool.and_eq_true, decide_eq_true_iff] at hlo
        obtain ⟨c1, b1, b2⟩ := hlo
        obtain ⟨v, rfl, h1⟩ := args1 hv hlen
        obtain ⟨p, ep, ex1, ex2, hp, lp1, lp2⟩ := one_ratQ hE c1 h1
        refine (hc w v p hp ⟨lp1.mono b1, lp2.mono b2⟩).mono ?_
        rintro e w' ⟨v', rfl, hr, ex⟩
        have d1 : (IT.a1 0 x).den E = (-p).num := by rw [Rat.neg_num, ← ex1]; rfl
        exact ⟨_, rfl, one_pair.2 ⟨by rw [d1, ex2]; exact hr, by rw [d1]; exact lp1.neg, by rw [ex2]; exact lp2⟩, ex⟩
      · cases h
    · cases h
  · intro args As r h x off
    unfold kNegQ at h
    split at h
    · split at h
      · injection h with h; subst h; intro e; cases e
      · cases h
    · cases h
def tabR5 : List (Nat × Con) := [(67, kNegQ), (33, kQQ 0)]
theorem tabR5_ok {E : Env} (hE : QEnv E) : TabOK Try.prog E tabR5 :=
  .cons (kNegQ_ok hE (fun w v a h l => rneg_rat_calls w v a h l) ⟨_, Try.func67, by decide +kernel, by kernel_rfl⟩)
    (.cons (kQQ_ok hE (by omega) (fun w v1 v2 a b h1 h2 l1 l2 => radd_rat_calls w v1 v2 a b h1 h2 l1 l2) (fun h1 h2 h3 h4 => LimQ.add h1 h2 h3 h4) ⟨_, Try.func33, by decide +kernel, by kernel_rfl⟩) .nil)

end Go.Proofs.Ytdleiiboffkidaa
end

/- ---- Rdv ---- -/
section
/-
  The other functions of rational numbers.
-/
set_option maxRecDepth 100000
namespace Go.Proofs.Ytdleiiboffkidaa
open Go.RowKit

theorem rsub_rat_calls (w : World) (v1 v2 : Value) (a b : Rat) (h1 : IsRat w v1 a) (h2 : IsRat w v2 b) (l1 : LimQ 100000 a) (l2 : LimQ 100000 b) :
    Calls Try.prog 32 #[v1, v2] w (Ret (fun v w' => IsRat w' v (a - b)) w) := by
  refine (walkQ2 (T := .leaf [(true, [.int (.a4 0 (.var 0) (.var 1) (.a1 0 (.var 2)) (.var 3)) 400001, .int (.a4 1 (.var 0) (.var 1) (.a1 0 (.var 2)) (.var 3)) 400001])])
    (tabR5_ok (qE_ok _)) Try.func32 (by kernel_rfl) (by decide +kernel) (by decide +kernel) h1 h2 l1 l2).mono ?_
  rintro e w' ⟨β, v, rfl, hh, ex⟩
  have hp := (one_pair.1 hh).1
  have d1 : (IT.a4 0 (.var 0) (.var 1) (.a1 0 (.var 2)) (.var 3)).den (qE [a, b]) = (a - b).num := by rw [Rat.sub_eq_add_neg]; exact fn4_num rfl a (-b)
  have d2 : (IT.a4 1 (.var 0) (.var 1) (.a1 0 (.var 2)) (.var 3)).den (qE [a, b]) = ((a - b).den : Int) := by rw [Rat.sub_eq_add_neg]; exact fn4_den rfl (by omega) a (-b)
  rw [d1, d2] at hp
  exact ⟨v, rfl, hp, ex⟩

/-- Numbers that came as int64. -/
def bnd (i : Nat) : Asm := [(.le (.lit (-9223372036854775808)) (.var i), true), (.le (.var i) (.lit 9223372036854775807), true)]
def argN (i : Nat) : AV := .val false [.n .i64 (.var i)]
def I64 (n : Int) : Prop := -9223372036854775808 ≤ n ∧ n ≤ 9223372036854775807
theorem bnd_holds {E : Env} {i : Nat} (h : I64 (E.i i)) : (bnd i).holds E := by
  intro p hp
  simp only [bnd, List.mem_cons, List.not_mem_nil, or_false] at hp
  rcases hp with rfl | rfl
  · exact decide_eq_true h.1
  · exact decide_eq_true h.2
theorem walkN1 {tab : List (Nat × Con)} {f : Nat} {fn : Func} {T : Tree} {w : World} {n : Int} (ht : TabOK Try.prog (zE [n]) tab) (hf : Try.prog.funcs[f]? = some fn) (hT : funE (cfgOf tab) fn (bnd 0) [argN 0] = some T) (h4 : fn.results.toList.length ≤ 4) (hn : 1 ≤ fn.ntmps) (h : I64 n) :
    Calls Try.prog f #[.int .i64 n] w fun e w' => ∃ β v, e = .returned v ∧ (toAV (T.pick (zE [n]))).holds (zE [n]) β w' v ∧ Ext w w' := by
  refine fun_sound mixed (cfg_ok ht) (bnd_holds (E := zE [n]) (i := 0) h) hf h4 hT hn rfl w [.int .i64 n] rfl ?_
  intro i x hx
  match i, hx with
  | 0, hx => injection hx with hx; subst hx; exact ⟨fun _ => 0, _, rfl, one_num.2 rfl⟩
theorem walkN2 {tab : List (Nat × Con)} {f : Nat} {fn : Func} {T : Tree} {w : World} {n d : Int} (ht : TabOK Try.prog (zE [n, d]) tab) (hf : Try.prog.funcs[f]? = some fn) (hT : funE (cfgOf tab) fn (bnd 0 ++ bnd 1) [argN 0, argN 1] = some T) (h4 : fn.results.toList.length ≤ 4) (hn : 2 ≤ fn.ntmps) (h : I64 n) (k : I64 d) :
    Calls Try.prog f #[.int .i64 n, .int .i64 d] w fun e w' => ∃ β v, e = .returned v ∧ (toAV (T.pick (zE [n, d]))).holds (zE [n, d]) β w' v ∧ Ext w w' := by
  have hG : (bnd 0 ++ bnd 1).holds (zE [n, d]) := by
    intro p hp
    rcases List.mem_append.1 hp with hp | hp
    · exact bnd_holds (E := zE [n, d]) (i := 0) h p hp
    · exact bnd_holds (E := zE [n, d]) (i := 1) k p hp
  refine fun_sound mixed (cfg_ok ht) hG hf h4 hT hn rfl w [.int .i64 n, .int .i64 d] rfl ?_
  intro i x hx
  match i, hx with
  | 0, hx => injection hx with hx; subst hx; exact ⟨fun _ => 0, _, rfl, one_num.2 rfl⟩
  | 1, hx => injection hx with hx; subst hx; exact ⟨fun _ => 0, _, rfl, one_num.2 rfl⟩
theorem rfrom_rat_calls (w : World) (n : Int) (h : I64 n) : Calls Try.prog 46 #[.int .i64 n] w (Ret (fun v w' => IsPair w' v n 1) w) := by
  refine (walkN1 (T := .leaf [(true, [.int (.var 0) 3, .int (.lit 1) 3])]) (tabR3_ok (q := false) (fun h => by cases h)) Try.func46 (by kernel_rfl) (by decide +kernel) (by decide +kernel) h).mono ?_
  rintro e w' ⟨β, v, rfl, hh, ex⟩
  exact ⟨v, rfl, (one_pair.1 hh).1, ex⟩
/-- Terms that are int64. -/
def inR (G : Asm) : IT → Bool
  | .lit z => decide (-9223372036854775808 ≤ z) && decide (z ≤ 9223372036854775807)
  | t => G.find (.le (.lit (-9223372036854775808)) t) == some true && G.find (.le t (.lit 9223372036854775807)) == some true
theorem inR_spec {E : Env} {G : Asm} (hG : G.holds E) {t : IT} (h : inR G t = true) : I64 (t.den E) := by
  unfold inR at h
  split at h
  · simpa [I64, IT.den] using h
  · rw [Bool.and_eq_true, beq_iff_eq, beq_iff_eq] at h
    have b1 := Asm.find_spec hG h.1
    have b2 := Asm.find_spec hG h.2
    simp only [BT.den, IT.den] at b1 b2
    exact ⟨of_decide_eq_true b1, of_decide_eq_true b2⟩
def kFromQ : Con
  | [.val false [.n .i64 t]], G => if inR G t then some (.val true [.int t 3, .int (.lit 1) 3]) else none
  | _, _ => none
theorem kFromQ_ok {E : Env} {f : Nat} (hc : ∀ (w : World) (n : Int), I64 n → Calls Try.prog f #[.int .i64 n] w (Ret (fun v w' => IsPair w' v n 1) w))
    (hb : ∃ fn, Try.prog.funcs[f]? = some fn ∧ fn.name ≠ "runtime.NumGoroutine" ∧ fn.body.isNone = false) : ConOK Try.prog E f kFromQ := by
  refine ⟨?_, ?_, hb⟩
  · intro args As r h hG β w vs hv hlen
    unfold kFromQ at h
    split at h
    · rename_i t
      split at h
      · rename_i hr
        injection h with h
        subst h
        have hi := inR_spec hG hr
        obtain ⟨v, rfl, h1⟩ := args1 hv hlen
        have h1' := one_num.1 h1
        subst h1'
        refine (hc w _ hi).mono ?_
        rintro e w' ⟨v', rfl, hp, ex⟩
        exact ⟨v', rfl, one_pair.2 ⟨hp, lim3 hi.1 hi.2, lim3 (z := 1) (by decide) (by decide)⟩, ex⟩
      · cases h
    · cases h
  · intro args As r h x off
    unfold kFromQ at h
    split at h
    · split at h
      · injection h with h; subst h; intro e; cases e
      · cases h
    · cases h
theorem divInt_0 (n : Int) : Rat.divInt n 0 = 0 := by
  have := divInt_zero' n
  exact Rat.num_eq_zero.1 this
theorem rfrac_rat_calls (w : World) (n d : Int) (h : I64 n) (k : I64 d) : Calls Try.prog 37 #[.int .i64 n, .int .i64 d] w (Ret (fun v w' => IsRat w' v (Rat.divInt n d)) w) := by
  refine (walkN2 (T := .ite (.eq (.var 1) (.lit 0)) (.leaf [(true, [.int (.a2 7 (.lit 0) (.lit 1)) 3, .int (.a2 8 (.lit 0) (.lit 1)) 3])]) (.leaf [(true, [.int (.a2 7 (.var 0) (.var 1)) 3, .int (.a2 8 (.var 0) (.var 1)) 3])]))
    (tabR3_ok (q := false) (fun h => by cases h)) Try.func37 (by kernel_rfl) (by decide +kernel) (by decide +kernel) h k).mono ?_
  rintro e w' ⟨β, v, rfl, hh, ex⟩
  simp only [Tree.pick] at hh
  split at hh
  · rename_i hz
    have hd : d = 0 := eq_of_beq hz
    have hp := (one_pair.1 hh).1
    subst hd
    have e0 : Rat.divInt 0 1 = 0 := by rw [← Rat.num_eq_zero, Rat.num_divInt]; simp
    refine ⟨v, rfl, ?_, ex⟩
    rw [divInt_0, ← e0]
    exact hp
  · exact ⟨v, rfl, (one_pair.1 hh).1, ex⟩
end Go.Proofs.Ytdleiiboffkidaa
end

/- ---- Rdw ---- -/
section
/-
  The order of rational numbers, sameness, and quotients for the walker.
-/
set_option maxRecDepth 100000
namespace Go.Proofs.Ytdleiiboffkidaa
open Go.RowKit

theorem cmp_cross {n1 n2 d1 d2 : Int} (h1 : 0 < d1) (h2 : 0 < d2) (hs : cmpZ n1 0 ≠ cmpZ n2 0) : cmpZ n1 n2 = cmpZ (n1 * d2) (n2 * d1) := by
  have p1 : n1 < 0 → n1 * d2 < 0 := fun h => Int.mul_neg_of_neg_of_pos h h2
  have p2 : 0 < n1 → 0 < n1 * d2 := fun h => Int.mul_pos h h2
  have p3 : n1 = 0 → n1 * d2 = 0 := fun h => by rw [h, Int.zero_mul]
  have q1 : n2 < 0 → n2 * d1 < 0 := fun h => Int.mul_neg_of_neg_of_pos h h1
  have q2 : 0 < n2 → 0 < n2 * d1 := fun h => Int.mul_pos h h1
  have q3 : n2 = 0 → n2 * d1 = 0 := fun h => by rw [h, Int.zero_mul]
  generalize n1 * d2 = X at *
  generalize n2 * d1 = Y at *
  rcases cmpZ_cases n1 0 with ⟨a1, e1⟩ | ⟨a1, e1⟩ | ⟨a1, e1⟩ <;> rcases cmpZ_cases n2 0 with ⟨a2, e2⟩ | ⟨a2, e2⟩ | ⟨a2, e2⟩ <;> rcases cmpZ_cases n1 n2 with ⟨a3, e3⟩ | ⟨a3, e3⟩ | ⟨a3, e3⟩ <;> rcases cmpZ_cases X Y with ⟨a4, e4⟩ | ⟨a4, e4⟩ | ⟨a4, e4⟩ <;> omega
def kCmpQ : Con
  | [.val true [.int x l, .int y m], .val true [.int z k, .int t j]], _ => if canon x y && (canon z t && (ql l && (ql m && (ql k && ql j)))) then some (.val false [.n .i64 (.a2 3 (.a2 2 x t) (.a2 2 z y))]) else none
  | _, _ => none
theorem kCmpQ_ok {E : Env} (hE : QEnv E) {f : Nat} (hc : ∀ (w : World) (v1 v2 : Value) (a b : Rat), IsRat w v1 a → IsRat w v2 b → LimQ 100000 a → LimQ 100000 b → Calls Try.prog f #[v1, v2] w fun e w' => e = .returned (.int .i64 (cmpZ (a.num * (b.den : Int)) (b.num * (a.den : Int)))) ∧ Ext w w')
    (hb : ∃ fn, Try.prog.funcs[f]? = some fn ∧ fn.name ≠ "runtime.NumGoroutine" ∧ fn.body.isNone = false) : ConOK Try.prog E f kCmpQ := by
  refine ⟨?_, ?_, hb⟩
  · intro args As r h hG β w vs hv hlen
    unfold kCmpQ at h
    split at h
    · rename_i x l y m z k t j
      split at h
      · rename_i hlo
        injection h with h
        subst h
        simp only [ql, Bool.and_eq_true, decide_eq_true_iff] at hlo
        obtain ⟨c1, c2, b1, b2, b3, b4⟩ := hlo
        obtain ⟨v, u, rfl, h1, h2⟩ := args2 hv hlen
        obtain ⟨p, ep, ex1, ex2, hp, lp1, lp2⟩ := one_ratQ hE c1 h1
        obtain ⟨q, eq, ey1, ey2, hq, lq1, lq2⟩ := one_ratQ hE c2 h2
        refine (hc w v u p q hp hq ⟨lp1.mono b1, lp2.mono b2⟩ ⟨lq1.mono b3, lq2.mono b4⟩).mono ?_
        rintro e w' ⟨rfl, ex⟩
        refine ⟨_, rfl, one_num.2 ?_, ex⟩
        show Value.int .i64 _ = .int .i64 (cmpZ (x.den E * t.den E) (z.den E * y.den E))
        rw [ex1, ex2, ey1, ey2]
      · cases h
    · cases h
  · intro args As r h x off
    unfold kCmpQ at h
    split at h
    · split at h
      · injection h with h; subst h; intro e; cases e
      · cases h
    · cases h

def kIIb (g : IT → IT → BT) : Con
  | [.val true [.int x _], .val true [.int y _]], _ => some (.val false [.b (g x y)])
  | _, _ => none
theorem kIIb_ok {P : Program} {E : Env} {f : Nat} {g : IT → IT → BT} (G : Int → Int → Bool) (hg : ∀ x y, (g x y).den E = G (x.den E) (y.den E))
    (hc : ∀ (w : World) (v1 v2 : Value) (z1 z2 : Int), IsInt w v1 z1 → IsInt w v2 z2 → Calls P f #[v1, v2] w (fun e w' => e = .returned (.bool (G z1 z2)) ∧ Ext w w'))
    (hb : ∃ fn, P.funcs[f]? = some fn ∧ fn.name ≠ "runtime.NumGoroutine" ∧ fn.body.isNone = false) : ConOK P E f (kIIb g) := by
  refine ⟨?_, ?_, hb⟩
  · intro args As r h hG β w vs hv hlen
    unfold kIIb at h
    split at h
    · injection h with h
      subst h
      obtain ⟨v, u, rfl, h1, h2⟩ := args2 hv hlen
      refine (hc w v u _ _ (one_int.1 h1).1 (one_int.1 h2).1).mono ?_
      rintro e w' ⟨rfl, ex⟩
      exact ⟨_, rfl, one_bool.2 (by rw [hg]), ex⟩
    · cases h
  · intro args As r h x off
    unfold kIIb at h
    split at h
    · injection h with h; subst h; intro e; cases e
    · cases h
def kSame : Con
  | [.val true [.int x l, .int y m], .val true [.int z k, .int t j]], _ => if ql l && (ql m && (ql k && ql j)) then some (.val false [.b (if x.beq z && y.beq t then .lit true else .and (.eq x z) (.eq y t))]) else none
  | _, _ => none
def kDiv : Con
  | [.val true [.int x l, .int y m], .val true [.int z k, .int t j]], _ => if canon x y && (canon z t && (ql l && (ql m && (ql k && ql j)))) then
      some (.tup [(true, [.int (.a4 8 x y z t) (l + m + k + j + 1), .int (.a4 9 x y z t) (l + m + k + j + 1)]), (false, [.n .i64 (.a1 1 z)])]) else none
  | _, _ => none
theorem LimQ.div {l m k j : Nat} {a b : Rat} (h1 : Lim l a.num) (h2 : Lim m (a.den : Int)) (h3 : Lim k b.num) (h4 : Lim j (b.den : Int)) : Lim (l + m + k + j + 1) (a / b).num ∧ Lim (l + m + k + j + 1) (divD a b) := by
  unfold divD
  by_cases hb : b = 0
  · rw [if_pos hb, hb, Rat.div_def, Rat.inv_zero, Rat.mul_zero]
    exact ⟨lim_zero, lim_zero⟩
  · have hn : b.num ≠ 0 := fun e => hb (Rat.num_eq_zero.1 e)
    rw [if_neg hb, Rat.div_def]
    have e1 : Lim j b⁻¹.num := by
      refine h4.natAbs_le ?_
      rw [Rat.num_inv, Int.natAbs_mul, Int.natAbs_sign_of_ne_zero hn, Nat.one_mul]
      exact Nat.le_refl _
    have e2 : Lim k (b⁻¹.den : Int) := by
      refine h3.natAbs_le ?_
      rw [Rat.den_inv, if_neg hn]
      exact Nat.le_refl _
    obtain ⟨r1, r2⟩ := LimQ.mul h1 h2 e1 e2
    exact ⟨r1.mono (by omega), r2.mono (by omega)⟩
theorem kDiv_ok {E : Env} (hE : QEnv E) {f : Nat} (hc : ∀ (w : World) (v1 v2 : Value) (a b : Rat), IsRat w v1 a → IsRat w v2 b → LimQ 100000 a → LimQ 100000 b → Calls Try.prog f #[v1, v2] w (RetDiv a b w))
    (hb : ∃ fn, Try.prog.funcs[f]? = some fn ∧ fn.name ≠ "runtime.NumGoroutine" ∧ fn.body.isNone = false) : ConOK Try.prog E f kDiv := by
  refine ⟨?_, ?_, hb⟩
  · intro args As r h hG β w vs hv hlen
    unfold kDiv at h
    split at h
    · rename_i x l y m z k t j
      split at h
      · rename_i hlo
        injection h with h
        subst h
        simp only [ql, Bool.and_eq_true, decide_eq_true_iff] at hlo
        obtain ⟨c1, c2, b1, b2, b3, b4⟩ := hlo
        obtain ⟨v, u, rfl, h1, h2⟩ := args2 hv hlen
        obtain ⟨p, ep, ex1, ex2, hp, lp1, lp2⟩ := one_ratQ hE c1 h1
        obtain ⟨q, eq, ey1, ey2, hq, lq1, lq2⟩ := one_ratQ hE c2 h2
        obtain ⟨n1, n2⟩ := LimQ.div lp1 lp2 lq1 lq2
        refine (hc w v u p q hp hq ⟨lp1.mono b1, lp2.mono b2⟩ ⟨lq1.mono b3, lq2.mono b4⟩).mono ?_
        rintro e w' ⟨v', rfl, hr, ex⟩
        have d1 : (IT.a4 8 x y z t).den E = (p / q).num := by
          show fn4 8 (x.den E) (y.den E) (z.den E) (t.den E) = _
          rw [ex1, ex2, ey1, ey2]
          exact fn4_num rfl p q
        have d2 : (IT.a4 9 x y z t).den E = divD p q := by
          show fn4 9 (x.den E) (y.den E) (z.den E) (t.den E) = _
          rw [ex1, ex2, ey1, ey2]
          unfold fn4 divD
          rw [if_neg (by decide), divInt_parts, divInt_parts]
          by_cases hq : q = 0
          · rw [if_pos ⟨rfl, hq⟩, if_pos hq]
          · rw [if_neg (fun h => hq h.2), if_neg hq]; rfl
        refine ⟨_, rfl, ⟨[v', .int .i64 (de q.num)], rfl, _, _, rfl, one_pair.2 ⟨by rw [d1, d2]; exact hr, by rw [d1]; exact n1, by rw [d2]; exact n2⟩, _, _, rfl, one_num.2 ?_, rfl⟩, ex⟩
        show Value.int .i64 (de q.num) = .int .i64 (de (z.den E))
        rw [ey1]
      · cases h
    · cases h
  · intro args As r h x off
    unfold kDiv at h
    split at h
    · split at h
      · injection h with h; subst h; intro e; cases e
      · cases h
    · cases h

end Go.Proofs.Ytdleiiboffkidaa
end

/- ---- Rdx ---- -/
section
/-
  Zero of the reference, and all that the walker knows of rational numbers.
-/
set_option maxRecDepth 100000
namespace Go.Proofs.Ytdleiiboffkidaa
open Go.RowKit

theorem len_eq0 (z : Int) : ((((limbs z.natAbs).length : Int) == 0) = true) ↔ z = 0 := by
  have := len_pos_iff z.natAbs
  rw [beq_iff_eq]
  omega
def kZero : Con
  | [.val true [.int x l, .int y m]], _ => if decide (l ≤ 100000) && decide (m ≤ 100000) then some (.val false [.b (.and (.eq x (.lit 0)) (.eq y (.lit 0)))]) else none
  | _, _ => none
/-- Integers from numbers, and quotients of numbers. -/
def kFrac : Con
  | [.val false [.n .i64 x], .val false [.n .i64 y]], G => if inR G x && inR G y then some (.val true [.int (.a2 7 x y) 3, .int (.a2 8 x y) 3]) else none
  | _, _ => none
theorem frac_lim {n d : Int} (h : I64 n) (k : I64 d) : Lim 3 (Rat.divInt n d).num ∧ Lim 3 ((Rat.divInt n d).den : Int) := by
  by_cases hd : d = 0
  · subst hd
    rw [divInt_0]
    exact ⟨lim_zero, lim3 (z := 1) (by decide) (by decide)⟩
  · exact divInt_lim (lim3 h.1 h.2) (lim3 k.1 k.2) hd
theorem kFrac_ok {E : Env} {f : Nat} (hc : ∀ (w : World) (n d : Int), I64 n → I64 d → Calls Try.prog f #[.int .i64 n, .int .i64 d] w (Ret (fun v w' => IsRat w' v (Rat.divInt n d)) w))
    (hb : ∃ fn, Try.prog.funcs[f]? = some fn ∧ fn.name ≠ "runtime.NumGoroutine" ∧ fn.body.isNone = false) : ConOK Try.prog E f kFrac := by
  refine ⟨?_, ?_, hb⟩
  · intro args As r h hG β w vs hv hlen
    unfold kFrac at h
    split at h
    · split at h
      · rename_i hr
        injection h with h
        subst h
        rw [Bool.and_eq_true] at hr
        have i1 := inR_spec hG hr.1
        have i2 := inR_spec hG hr.2
        obtain ⟨v, u, rfl, h1, h2⟩ := args2 hv hlen
        have h1' := one_num.1 h1
        have h2' := one_num.1 h2
        subst h1' h2'
        refine (hc w _ _ i1 i2).mono ?_
        rintro e w' ⟨v', rfl, hp, ex⟩
        obtain ⟨m1, m2⟩ := frac_lim i1 i2
        exact ⟨v', rfl, one_pair.2 ⟨hp, m1, m2⟩, ex⟩
      · cases h
    · cases h
  · intro args As r h x off
    unfold kFrac at h
    split at h
    · split at h
      · injection h with h; subst h; intro e; cases e
      · cases h
    · cases h
def tabQ : List (Nat × Con) :=
  
  
  
  (33, kQQ 0)  ::
  
  (32, kQQ 1)  ::
  
  (19, kQQ 2)  ::
  
  (67, kNegQ)  ::
  
  
  
  
  
  (46, kFromQ)  ::
  
  (37, kFrac)  ::
  []
theorem tabQ_ok {E : Env} (hE : QEnv E) : TabOK Try.prog E tabQ := by
  
  
  
  refine .cons (kQQ_ok hE (by omega) (fun w v1 v2 a b h1 h2 l1 l2 => radd_rat_calls w v1 v2 a b h1 h2 l1 l2) (fun h1 h2 h3 h4 => LimQ.add h1 h2 h3 h4) ⟨_, Try.func33, by decide +kernel, by kernel_rfl⟩) ?_ 
  
  refine .cons (kQQ_ok hE (by omega) (fun w v1 v2 a b h1 h2 l1 l2 => rsub_rat_calls w v1 v2 a b h1 h2 l1 l2) (fun h1 h2 h3 h4 => LimQ.sub h1 h2 h3 h4) ⟨_, Try.func32, by decide +kernel, by kernel_rfl⟩) ?_ 
  
  refine .cons (kQQ_ok hE (by omega) (fun w v1 v2 a b h1 h2 l1 l2 => rmul_rat_calls w v1 v2 a b h1 h2 l1 l2) (fun h1 h2 h3 h4 => LimQ.mul h1 h2 h3 h4) ⟨_, Try.func19, by decide +kernel, by kernel_rfl⟩) ?_ 
  
  refine .cons (kNegQ_ok hE (fun w v a h l => rneg_rat_calls w v a h l) ⟨_, Try.func67, by decide +kernel, by kernel_rfl⟩) ?_ 
  
  
  
  
  
  refine .cons (kFromQ_ok (fun w n h => rfrom_rat_calls w n h) ⟨_, Try.func46, by decide +kernel, by kernel_rfl⟩) ?_ 
  
  refine .cons (kFrac_ok (fun w n d h k => rfrac_rat_calls w n d h k) ⟨_, Try.func37, by decide +kernel, by kernel_rfl⟩) ?_ 
  exact .nil

end Go.Proofs.Ytdleiiboffkidaa
end

/- ---- LawMul ---- -/
section
/-
  What the statement on products does when it is called.
-/
set_option maxRecDepth 100000
namespace Go.Proofs.Ytdleiiboffkidaa
open Go.RowKit

theorem item_new2 {w : World} {b1 b2 : Bool} {a1 a2 : Option Addr} {x1 x2 : List Nat} {c1 c2 : Nat} (k1 : x1.length ≤ c1) (k2 : x2.length ≤ c2) (l1 : c1 ≤ 9223372036854775807) (l2 : c2 ≤ 9223372036854775807) (h1 : Cells w a1 x1) (h2 : Cells w a2 x2) :
    ∀ k, k < [(b1, x1), (b2, x2)].length → Item (w.alloc (.cells #[.bool b1, .slice a1 x1.length c1, .bool b2, .slice a2 x2.length c2] 24)) w.heap.size k ([(b1, x1), (b2, x2)].getD k (false, [])) := by
  have e := (Ext.refl w).alloc (.cells #[.bool b1, .slice a1 x1.length c1, .bool b2, .slice a2 x2.length c2] 24)
  intro k hk
  match k, hk with
  | 0, _ => exact ⟨a1, c1, by simp, by simp, k1, l1, h1.ext e⟩
  | 1, _ => exact ⟨a2, c2, by simp, by simp, k2, l2, h2.ext e⟩
theorem smB_int {w : World} {v : Value} {neg : Bool} {xs : List Nat} (h : Raw w v neg xs) (hs : smB (neg, xs) = true) : IsInt w v (sgn neg (val xs)) ∧ xs.length ≤ 16 ∧ Sm (sgn neg (val xs)) := by
  unfold smB at hs
  rw [Bool.and_eq_true, decide_eq_true_iff] at hs
  obtain ⟨h1, h2⟩ := okB_int h hs.2
  exact ⟨h1, hs.1, by unfold Sm; rw [natAbs_sgn, h2]; have := hs.1; simp at this; omega⟩

end Go.Proofs.Ytdleiiboffkidaa
end

/- ---- LawRing ---- -/
section
/-
  What the statement on sums, products and the order does when it is called.
-/
set_option maxRecDepth 100000
namespace Go.Proofs.Ytdleiiboffkidaa
open Go.RowKit

theorem item_new3 {w : World} {b1 b2 b3 : Bool} {a1 a2 a3 : Option Addr} {x1 x2 x3 : List Nat} {c1 c2 c3 : Nat} (k1 : x1.length ≤ c1) (k2 : x2.length ≤ c2) (k3 : x3.length ≤ c3) (l1 : c1 ≤ 9223372036854775807) (l2 : c2 ≤ 9223372036854775807) (l3 : c3 ≤ 9223372036854775807) (h1 : Cells w a1 x1) (h2 : Cells w a2 x2) (h3 : Cells w a3 x3) :
    ∀ k, k < [(b1, x1), (b2, x2), (b3, x3)].length → Item (w.alloc (.cells #[.bool b1, .slice a1 x1.length c1, .bool b2, .slice a2 x2.length c2, .bool b3, .slice a3 x3.length c3] 24)) w.heap.size k ([(b1, x1), (b2, x2), (b3, x3)].getD k (false, [])) := by
  have e := (Ext.refl w).alloc (.cells #[.bool b1, .slice a1 x1.length c1, .bool b2, .slice a2 x2.length c2, .bool b3, .slice a3 x3.length c3] 24)
  intro k hk
  match k, hk with
  | 0, _ => exact ⟨a1, c1, by simp, by simp, k1, l1, h1.ext e⟩
  | 1, _ => exact ⟨a2, c2, by simp, by simp, k2, l2, h2.ext e⟩
  | 2, _ => exact ⟨a3, c3, by simp, by simp, k3, l3, h3.ext e⟩
/-- Three structs, boxed one behind the other: their cells. -/
theorem boxes3 (w : World) (u0 u1 v0 v1 x0 x1 : Value) (t : TypeId) : ∃ W, (((w.alloc (.cells #[u0, u1] t)).alloc (.cells #[v0, v1] t)).alloc (.cells #[x0, x1] t)) = W ∧ Ext w W ∧
    W.cell? ⟨w.heap.size, 0, none⟩ = some u0 ∧ W.cell? ⟨w.heap.size, 1, none⟩ = some u1 ∧ W.cell? ⟨w.heap.size + 1, 0, none⟩ = some v0 ∧ W.cell? ⟨w.heap.size + 1, 1, none⟩ = some v1 ∧ W.cell? ⟨w.heap.size + 2, 0, none⟩ = some x0 ∧ W.cell? ⟨w.heap.size + 2, 1, none⟩ = some x1 := by
  obtain ⟨V, hV, eV, hz, c0, c1, d0, d1⟩ := boxes2 w u0 u1 v0 v1 t
  have e := (Ext.refl V).alloc (.cells #[x0, x1] t)
  refine ⟨_, rfl, ?_, ?_, ?_, ?_, ?_, ?_, ?_⟩
  all_goals rw [hV]
  · exact eV.trans e
  · exact e.cell c0
  · exact e.cell c1
  · exact e.cell d0
  · exact e.cell d1
  · rw [← hz]; simp
  · rw [← hz]; simp
theorem smB_lim {w : World} {v : Value} {neg : Bool} {xs : List Nat} (h : Raw w v neg xs) (hs : smB (neg, xs) = true) : Lim 16 (sgn neg (val xs)) := by
  have h0 := hs
  unfold smB at hs
  rw [Bool.and_eq_true, decide_eq_true_iff] at hs
  unfold Lim
  rw [natAbs_sgn, (okB_int h hs.2).2]
  exact hs.1
theorem cmpZ_add (a b c : Int) : cmpZ (a + c) (b + c) = cmpZ a b := by
  have := cmpZ_cases (a + c) (b + c)
  have := cmpZ_cases a b
  omega
theorem cmpZ_mul (a b c : Int) : cmpZ (a * c) (b * c) = cmpZ a b * cmpZ c 0 := by
  rcases Int.lt_trichotomy c 0 with h | h | h
  · rw [cmpZ_lt h]
    rcases Int.lt_trichotomy a b with h1 | h1 | h1
    · rw [cmpZ_lt h1, cmpZ_gt (Int.mul_lt_mul_of_neg_right h1 h)]; rfl
    · subst h1; rw [cmpZ_eq rfl, cmpZ_eq rfl]; rfl
    · rw [cmpZ_gt h1, cmpZ_lt (Int.mul_lt_mul_of_neg_right h1 h)]; rfl
  · subst h; rw [Int.mul_zero, Int.mul_zero, cmpZ_eq rfl, Int.mul_zero]
  · rw [cmpZ_gt h]
    rcases Int.lt_trichotomy a b with h1 | h1 | h1
    · rw [cmpZ_lt h1, cmpZ_lt (Int.mul_lt_mul_of_pos_right h1 h)]; rfl
    · subst h1; rw [cmpZ_eq rfl, cmpZ_eq rfl]; rfl
    · rw [cmpZ_gt h1, cmpZ_gt (Int.mul_lt_mul_of_pos_right h1 h)]; rfl
theorem wrap_small (a b c d : Int) : (cmpZ a b * cmpZ c d == IntKind.i64.wrap (cmpZ a b * cmpZ c d)) = true := by
  have h : -1 ≤ cmpZ a b * cmpZ c d ∧ cmpZ a b * cmpZ c d ≤ 1 := by
    rcases cmpZ_cases a b with ⟨_, h1⟩ | ⟨_, h1⟩ | ⟨_, h1⟩ <;> rcases cmpZ_cases c d with ⟨_, h2⟩ | ⟨_, h2⟩ | ⟨_, h2⟩ <;> rw [h1, h2] <;> decide
  rw [IntKind.wrap_i64, beq_iff_eq]
  omega
theorem cmpZ_range (a b : Int) : -1 ≤ cmpZ a b ∧ cmpZ a b ≤ 1 := by have := cmpZ_cases a b; omega
/-- The cells of the three arguments. -/
abbrev C6 (h : Nat) (a b c d e f : Value) (w : World) : Prop :=
  w.cell? ⟨h, 0, none⟩ = some a ∧ w.cell? ⟨h, 1, none⟩ = some b ∧ w.cell? ⟨h + 1, 0, none⟩ = some c ∧ w.cell? ⟨h + 1, 1, none⟩ = some d ∧ w.cell? ⟨h + 2, 0, none⟩ = some e ∧ w.cell? ⟨h + 2, 1, none⟩ = some f
theorem C6.ext {h : Nat} {a b c d e f : Value} {w w' : World} (k : C6 h a b c d e f w) (x : Ext w w') : C6 h a b c d e f w' :=
  ⟨x.cell k.1, x.cell k.2.1, x.cell k.2.2.1, x.cell k.2.2.2.1, x.cell k.2.2.2.2.1, x.cell k.2.2.2.2.2⟩

end Go.Proofs.Ytdleiiboffkidaa
end

/- ---- LawValid ---- -/
section
/-
  What the statement on valid integers does when it is called.
-/
set_option maxRecDepth 100000
namespace Go.Proofs.Ytdleiiboffkidaa
open Go.RowKit

end Go.Proofs.Ytdleiiboffkidaa
end
