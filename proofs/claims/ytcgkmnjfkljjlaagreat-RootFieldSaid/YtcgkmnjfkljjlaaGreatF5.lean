/-
  Texts of this seat, joined.
-/
import Derived.Test.YtcgkmnjfkljjlaaGreatF4
import Derived.Laws.AppendOwn
import Derived.Laws.CopyOwn
section
set_option maxRecDepth 100000
namespace Go.Proofs.YtcgkmnjfkljjlaaGreat
open Go.RowKit
end Go.Proofs.YtcgkmnjfkljjlaaGreat
end

section
set_option maxRecDepth 100000
namespace Go.Proofs.YtcgkmnjfkljjlaaGreat
open Go.RowKit
end Go.Proofs.YtcgkmnjfkljjlaaGreat
end

section
set_option maxRecDepth 100000
namespace Go.Proofs.YtcgkmnjfkljjlaaGreat
open Go.RowKit
def ivV (o : Option (Int × Int)) : Value := match o with
  | some (x, y) => .tuple #[.agg #[.int .i64 x, .int .i64 y], .bool true]
  | none => .tuple #[.agg #[.int .i64 0, .int .i64 0], .bool false]
end Go.Proofs.YtcgkmnjfkljjlaaGreat
end

section
set_option maxRecDepth 100000
namespace Go.Proofs.YtcgkmnjfkljjlaaGreat
open Go.RowKit
def RetIv (o : Option (Int × Int)) (w : World) (e : Ending) (w' : World) : Prop := e = .returned (ivV o) ∧ Ext w w'
end Go.Proofs.YtcgkmnjfkljjlaaGreat
end

section
set_option maxRecDepth 100000
namespace Go.Proofs.YtcgkmnjfkljjlaaGreat
open Go.RowKit
end Go.Proofs.YtcgkmnjfkljjlaaGreat
end

section
set_option maxRecDepth 100000
namespace Go.Proofs.YtcgkmnjfkljjlaaGreat
open Go.RowKit
end Go.Proofs.YtcgkmnjfkljjlaaGreat
end

section
set_option maxRecDepth 100000
namespace Go.Proofs.YtcgkmnjfkljjlaaGreat
open Go.RowKit
end Go.Proofs.YtcgkmnjfkljjlaaGreat
end

section
set_option maxRecDepth 100000
namespace Go.Proofs.YtcgkmnjfkljjlaaGreat
open Go.RowKit
end Go.Proofs.YtcgkmnjfkljjlaaGreat
end

section
set_option maxRecDepth 100000
namespace Go.Proofs.YtcgkmnjfkljjlaaGreat
open Go.RowKit
end Go.Proofs.YtcgkmnjfkljjlaaGreat
end

section
set_option maxRecDepth 100000
namespace Go.Proofs.YtcgkmnjfkljjlaaGreat
open Go.RowKit
end Go.Proofs.YtcgkmnjfkljjlaaGreat
end

section
set_option maxRecDepth 100000
namespace Go.Proofs.YtcgkmnjfkljjlaaGreat
open Go.RowKit
end Go.Proofs.YtcgkmnjfkljjlaaGreat
end

section
set_option maxRecDepth 100000
namespace Go.Proofs.YtcgkmnjfkljjlaaGreat
open Go.RowKit
end Go.Proofs.YtcgkmnjfkljjlaaGreat
end

section
set_option maxRecDepth 100000
namespace Go.Proofs.YtcgkmnjfkljjlaaGreat
open Go.RowKit
end Go.Proofs.YtcgkmnjfkljjlaaGreat
end

section
set_option maxRecDepth 100000
namespace Go.Proofs.YtcgkmnjfkljjlaaGreat
open Go.RowKit
end Go.Proofs.YtcgkmnjfkljjlaaGreat
end

section
set_option maxRecDepth 100000
namespace Go.Proofs.YtcgkmnjfkljjlaaGreat
open Go.RowKit
def cfgAr (C : Cfg) (l : List (TypeId × Nat × TypeId)) : Cfg := { C with arr := fun t => match findR l t with | some e => some e | none => C.arr t }
theorem cfgAr_ok {E : Env} {C : Cfg} {l : List (TypeId × Nat × TypeId)} (h : CfgOK Tryz.prog E C) (hl : ArrOK Tryz.prog l) : CfgOK Tryz.prog E (cfgAr C l) := by
  refine ⟨h.zero, h.ag, h.fld, h.flds, h.bool, h.row, ?_, h.calls, h.nptr, h.body, h.slc, h.strT, h.cnv, h.apd, h.eq2⟩
  intro t n e ht
  simp only [cfgAr] at ht
  split at ht
  · rename_i e' he
    injection ht with ht
    subst ht
    exact hl.all _ (findR_spec he)
  · exact h.arr t n e ht
end Go.Proofs.YtcgkmnjfkljjlaaGreat
end

section
set_option maxRecDepth 100000
namespace Go.Proofs.YtcgkmnjfkljjlaaGreat
open Go.RowKit
end Go.Proofs.YtcgkmnjfkljjlaaGreat
end

section
set_option maxRecDepth 100000
namespace Go.Proofs.YtcgkmnjfkljjlaaGreat
open Go.RowKit
end Go.Proofs.YtcgkmnjfkljjlaaGreat
end

section
set_option maxRecDepth 100000
namespace Go.Proofs.YtcgkmnjfkljjlaaGreat
open Go.RowKit
end Go.Proofs.YtcgkmnjfkljjlaaGreat
end

section
set_option maxRecDepth 100000
namespace Go.Proofs.YtcgkmnjfkljjlaaGreat
open Go.RowKit
end Go.Proofs.YtcgkmnjfkljjlaaGreat
end

section
set_option maxRecDepth 100000
namespace Go.Proofs.YtcgkmnjfkljjlaaGreat
open Go.RowKit
end Go.Proofs.YtcgkmnjfkljjlaaGreat
end

section
set_option maxRecDepth 100000
namespace Go.Proofs.YtcgkmnjfkljjlaaGreat
open Go.RowKit
end Go.Proofs.YtcgkmnjfkljjlaaGreat
end

section
set_option maxRecDepth 100000
namespace Go.Proofs.YtcgkmnjfkljjlaaGreat
open Go.RowKit
def qI (i : Nat) : IT2 := (.var i, .var (i + 1))
end Go.Proofs.YtcgkmnjfkljjlaaGreat
end

section
set_option maxRecDepth 100000
namespace Go.Proofs.YtcgkmnjfkljjlaaGreat
open Go.RowKit
end Go.Proofs.YtcgkmnjfkljjlaaGreat
end

section
set_option maxRecDepth 100000
namespace Go.Proofs.YtcgkmnjfkljjlaaGreat
open Go.RowKit
end Go.Proofs.YtcgkmnjfkljjlaaGreat
end

section
set_option maxRecDepth 100000
namespace Go.Proofs.YtcgkmnjfkljjlaaGreat
open Go.RowKit
end Go.Proofs.YtcgkmnjfkljjlaaGreat
end

section
set_option maxRecDepth 100000
namespace Go.Proofs.YtcgkmnjfkljjlaaGreat
open Go.RowKit
end Go.Proofs.YtcgkmnjfkljjlaaGreat
end

section
set_option maxRecDepth 100000
namespace Go.Proofs.YtcgkmnjfkljjlaaGreat
open Go.RowKit
def RatsQ (w : World) : List Value → List Rat → Prop
  | vs, [] => vs = []
  | vs, q :: l => ∃ x r, vs = x ++ r ∧ IsRat w (.agg x.toArray) q ∧ RatsQ w r l
def IsQs (w : World) (v : Value) (l : List Rat) : Prop := ∃ vs : List Value, v = .agg vs.toArray ∧ RatsQ w vs l
def LimQs (k : Nat) (l : List Rat) : Prop := ∀ q ∈ l, LimQ k q
end Go.Proofs.YtcgkmnjfkljjlaaGreat
end

section
set_option maxRecDepth 100000
namespace Go.Proofs.YtcgkmnjfkljjlaaGreat
open Go.RowKit
end Go.Proofs.YtcgkmnjfkljjlaaGreat
end

section
set_option maxRecDepth 100000
namespace Go.Proofs.YtcgkmnjfkljjlaaGreat
open Go.RowKit
structure RootQ (a b c : Rat) (o : Option (Int × Int)) : Prop where
  prog : ∀ (w : World) (v : Value), IsRoot w v a b c → LimR 40 a b c → Calls Tryz.prog 121 #[v] w (RetIv o w)
  holds : ∀ L H, o = some (L, H) → Prp L H ∧ ∀ m, 0 ≤ c → IsRt c m → IvIn L H fun k => a + b * m k
end Go.Proofs.YtcgkmnjfkljjlaaGreat
end

section
set_option maxRecDepth 100000
namespace Go.Proofs.YtcgkmnjfkljjlaaGreat
open Go.RowKit
def kKq (chk : List AV → Bool) (r : AV) (k : Con) : Con := fun args G => if chk args then some r else k args G
structure KnownQ (E : Env) (f : Nat) (chk : List AV → Bool) (r : AV) : Prop where
  calls : ∀ args, chk args = true → ∀ (β : Nat → Nat) (w : World) (vs : List Value), (∀ (i : Nat) (x : AV), args[i]? = some x → ∃ v, vs[i]? = some v ∧ x.holds E β w v) → vs.length = args.length → Calls Tryz.prog f vs.toArray w fun e w' => ∃ v, e = .returned v ∧ (∀ β w', r.holds E β w' v) ∧ Ext w w'
  np : ∀ x off, r ≠ .ptr x off
def kNoQ : Con := fun _ _ => none
theorem kNoQ_ok {E : Env} {f : Nat} (hb : ∃ fn, Tryz.prog.funcs[f]? = some fn ∧ fn.name ≠ "runtime.NumGoroutine" ∧ fn.body.isNone = false) : ConOK Tryz.prog E f kNoQ := by
  refine ⟨?_, ?_, hb⟩
  · intro args G r h
    cases h
  · intro args G r h
    cases h
end Go.Proofs.YtcgkmnjfkljjlaaGreat
end

section
set_option maxRecDepth 100000
namespace Go.Proofs.YtcgkmnjfkljjlaaGreat
open Go.RowKit
def RetIB (z : Int) (b : Bool) (w : World) (e : Ending) (w' : World) : Prop := e = .returned (.tuple #[.int .i64 z, .bool b]) ∧ Ext w w'
structure FastQ (A B C D M N : Rat) (z : Int) (b : Bool) : Prop where
  calls : ∀ (w : World) (v : Value), IsQs w v [A, B, C, D, M, N] → LimQs 40 [A, B, C, D, M, N] → Calls Tryz.prog 64 #[v] w (RetIB z b w)
  right : b = true → 0 ≤ M → 0 ≤ N → z = sg4 A B C D M N
  zero : b = false → z = 0
def qsg (A B C D M N : Rat) : Int := if M.num < 0 ∨ N.num < 0 then 0 else sg4 A B C D M N
theorem FastQ.range {A B C D M N : Rat} {z : Int} {b : Bool} (h : FastQ A B C D M N z b) (hb : b = true) (hM : 0 ≤ M) (hN : 0 ≤ N) : z = 1 ∨ z = 0 ∨ z = -1 := by
  rw [h.right hb hM hN]; exact sg4_range _ _ _ _ _ _
end Go.Proofs.YtcgkmnjfkljjlaaGreat
end

section
set_option maxRecDepth 100000
namespace Go.Proofs.YtcgkmnjfkljjlaaGreat
open Go.RowKit
end Go.Proofs.YtcgkmnjfkljjlaaGreat
end

section
set_option maxRecDepth 100000
namespace Go.Proofs.YtcgkmnjfkljjlaaGreat
open Go.RowKit
end Go.Proofs.YtcgkmnjfkljjlaaGreat
end

section
set_option maxRecDepth 100000
namespace Go.Proofs.YtcgkmnjfkljjlaaGreat
open Go.RowKit
def t6 : List IT2 → List Chunk → Bool
  | [], [] => true
  | t :: ts, .int x _ :: .int y _ :: cs => x.beq t.1 && (y.beq t.2 && t6 ts cs)
  | _, _ => false
def c6 (ts : List IT2) : List AV → Bool
  | [.val true cs] => t6 ts cs
  | _ => false
def Reps (E : Env) : List IT2 → List Rat → Prop
  | [], [] => True
  | t :: ts, q :: qs => RepQ E t q ∧ Reps E ts qs
  | _, _ => False
theorem t6_holds {E : Env} {w : World} : ∀ {ts : List IT2} {cs : List Chunk} {qs : List Rat} {vs : List Value}, Reps E ts qs → t6 ts cs = true → chunks E w cs vs → RatsQ w vs qs
  | [], cs, [], vs, _, h, hc => by
    unfold t6 at h
    split at h
    · exact hc
    · contradiction
    · cases h
  | [], _, _ :: _, _, hr, _, _ => hr.elim
  | _ :: _, _, [], _, hr, _, _ => hr.elim
  | t :: ts, cs, q :: qs, vs, hr, h, hc => by
    unfold t6 at h
    split at h
    · contradiction
    · rename_i t' ts' x l y m cs' e
      cases e
      simp only [Bool.and_eq_true] at h
      obtain ⟨h1, h2, h3⟩ := h
      have e1 := IT.eq_of_beq h1
      have e2 := IT.eq_of_beq h2
      subst e1 e2
      obtain ⟨x, r, rfl, k1, k2⟩ := (two_chunks hr.1).1 hc
      exact ⟨x, r, rfl, k1.1, t6_holds hr.2 h3 k2⟩
    · cases h
theorem LimQ.mul' {l m k j : Nat} {a b : Rat} (h1 : Lim l a.num) (h2 : Lim m (a.den : Int)) (h3 : Lim k b.num) (h4 : Lim j (b.den : Int)) : Lim (l + k) (a * b).num ∧ Lim (m + j) ((a * b).den : Int) := by
  obtain ⟨m1, m2⟩ := mul_dq a b
  rw [← m1, ← m2]
  exact ⟨(h1.natAbs_le (dq_abs _ _)).mul (h3.natAbs_le (dq_abs _ _)), (h2.natAbs_le (dq_abs _ _)).mul (h4.natAbs_le (dq_abs _ _))⟩
theorem LimQ.sub' {l m k j n : Nat} {a b : Rat} (h1 : Lim l a.num) (h2 : Lim m (a.den : Int)) (h3 : Lim k b.num) (h4 : Lim j (b.den : Int)) (e1 : l + j < n) (e2 : k + m < n) : Lim n (a - b).num ∧ Lim (m + j) ((a - b).den : Int) := by
  rw [Rat.sub_eq_add_neg]
  have h3' : Lim k (-b).num := by rw [Rat.neg_num]; exact h3.neg
  have h4' : Lim j ((-b).den : Int) := h4
  obtain ⟨m1, m2⟩ := sum_dq a (-b) _ rfl
  rw [← m1, ← m2]
  refine ⟨Lim.natAbs_le ?_ (dq_abs _ _), (h2.natAbs_le (dq_abs _ _)).mul (h4'.natAbs_le (dq_abs _ _))⟩
  exact ((h1.mul (h4'.natAbs_le (dq_abs _ _))).add2 (h3'.mul (h2.natAbs_le (dq_abs _ _)))).mono (by omega)
end Go.Proofs.YtcgkmnjfkljjlaaGreat
end

section
set_option maxRecDepth 100000
namespace Go.Proofs.YtcgkmnjfkljjlaaGreat
open Go.RowKit
end Go.Proofs.YtcgkmnjfkljjlaaGreat
end

section
set_option maxRecDepth 100000
namespace Go.Proofs.YtcgkmnjfkljjlaaGreat
open Go.RowKit
def cmR (a b c a' b' c' : Rat) : Int := qsg (a - a') b (-b') 0 c c'
end Go.Proofs.YtcgkmnjfkljjlaaGreat
end

section
set_option maxRecDepth 100000
namespace Go.Proofs.YtcgkmnjfkljjlaaGreat
open Go.RowKit
structure FastC (a b c a' b' c' : Rat) (z : Int) (t : Bool) : Prop where
  calls : ∀ (w : World) (v u : Value), IsRoot w v a b c → IsRoot w u a' b' c' → LimR 9 a b c → LimR 9 a' b' c' → Calls Tryz.prog 78 #[v, u] w (RetIB z t w)
  right : t = true → 0 ≤ c → 0 ≤ c' → z = cmR a b c a' b' c'
  zero : t = false → z = 0
end Go.Proofs.YtcgkmnjfkljjlaaGreat
end

section
set_option maxRecDepth 100000
namespace Go.Proofs.YtcgkmnjfkljjlaaGreat
open Go.RowKit
structure KnownR (E : Env) (f : Nat) (chk : List AV → Bool) (r : AV) : Prop where
  calls : ∀ args, chk args = true → ∀ (β : Nat → Nat) (w : World) (vs : List Value), (∀ (i : Nat) (x : AV), args[i]? = some x → ∃ v, vs[i]? = some v ∧ x.holds E β w v) → vs.length = args.length → Calls Tryz.prog f vs.toArray w fun e w' => ∃ v, e = .returned v ∧ (∀ β, r.holds E β w' v) ∧ Ext w w'
  np : ∀ x off, r ≠ .ptr x off
theorem kKr_ok {E : Env} {f : Nat} {chk : List AV → Bool} {r : AV} {k : Con} (h : KnownR E f chk r) (hk : ConOK Tryz.prog E f k) : ConOK Tryz.prog E f (kKq chk r k) := by
  refine ⟨?_, ?_, hk.body⟩
  · intro args G s hs hG β w vs hv hl
    unfold kKq at hs
    split at hs
    · rename_i hc
      injection hs with hs
      subst hs
      refine (h.calls args hc β w vs hv hl).mono ?_
      rintro e w' ⟨v, rfl, h1, h2⟩
      exact ⟨v, rfl, h1 _, h2⟩
    · exact hk.calls args G s hs hG β w vs hv hl
  · intro args G s hs x off
    unfold kKq at hs
    split at hs
    · injection hs with hs
      subst hs
      exact h.np x off
    · exact hk.nptr args G s hs x off
end Go.Proofs.YtcgkmnjfkljjlaaGreat
end

section
set_option maxRecDepth 100000
namespace Go.Proofs.YtcgkmnjfkljjlaaGreat
open Go.RowKit
end Go.Proofs.YtcgkmnjfkljjlaaGreat
end

section
set_option maxRecDepth 100000
namespace Go.Proofs.YtcgkmnjfkljjlaaGreat
open Go.RowKit
end Go.Proofs.YtcgkmnjfkljjlaaGreat
end

section
set_option maxRecDepth 100000
namespace Go.Proofs.YtcgkmnjfkljjlaaGreat
open Go.RowKit
end Go.Proofs.YtcgkmnjfkljjlaaGreat
end

section
set_option maxRecDepth 100000
namespace Go.Proofs.YtcgkmnjfkljjlaaGreat
open Go.RowKit
theorem rats3 {w : World} {vs : List Value} {a b c : Rat} (h : RatsQ w vs [a, b, c]) : IsRoot w (.agg vs.toArray) a b c := by
  obtain ⟨x, r, rfl, h1, y, s, rfl, h2, z, t, rfl, h3, rfl⟩ := h
  exact ⟨x, y, z, by rw [List.append_nil], h1, h2, h3⟩
end Go.Proofs.YtcgkmnjfkljjlaaGreat
end

section
set_option maxRecDepth 100000
namespace Go.Proofs.YtcgkmnjfkljjlaaGreat
open Go.RowKit
structure Rts (E : Env) (a b c a' b' c' : Rat) : Prop where
  r1 : RepQ E (qI 0) a
  r2 : RepQ E (qI 2) b
  r3 : RepQ E (qI 4) c
  r4 : RepQ E (qI 6) a'
  r5 : RepQ E (qI 8) b'
  r6 : RepQ E (qI 10) c'
end Go.Proofs.YtcgkmnjfkljjlaaGreat
end

section
set_option maxRecDepth 100000
namespace Go.Proofs.YtcgkmnjfkljjlaaGreat
open Go.RowKit
theorem lim_le {m : Nat} {x y : Int} (h : Lim m y) (h1 : 0 ≤ x) (h2 : x ≤ y) : Lim m x := h.natAbs_le (by omega)
theorem SimOK.lim {ln ld hn hd : Int} {r : Int × Int} (h : SimOK ln ld hn hd r) (h1 : 0 ≤ ln) (h2 : 0 < ld) (h3 : 0 < hn) (h4 : 0 ≤ hd) (hlt : ln * hd < hn * ld) (a1 : Lim 6 ln) (a2 : Lim 6 ld) (a3 : Lim 6 hn) (a4 : Lim 6 hd) : Lim 7 r.1 ∧ Lim 7 r.2 := by
  obtain ⟨j1, j2⟩ := h.least (ln + hn) (ld + hd) (by omega) (by rw [Int.mul_add, Int.add_mul]; omega) (by rw [Int.mul_add, Int.add_mul]; omega)
  have p1 := h.p1
  have p2 := h.p2
  exact ⟨lim_le (a1.add2 a3) (by omega) j1, lim_le (a2.add2 a4) (by omega) j2⟩
structure SmEnv (a b F T y G H : Rat) : Prop where
  hF : F = 1 / (b - (a.floor : Rat))
  hB : b - (a.floor : Rat) ≠ 0
  hG : G = 1 / ((F.floor : Rat) + 1)
  hG0 : (F.floor : Rat) + 1 ≠ 0
  lF : LimQ 8 F
  lG : LimQ 8 G
  ne : ¬ ((a.floor : Rat) + 1 < b) → a ≠ (a.floor : Rat) → T = 1 / (a - (a.floor : Rat)) ∧ LimQ 8 T ∧ H = 1 / y ∧ y ≠ 0 ∧ LimQ 8 H ∧ LimQ 8 y
end Go.Proofs.YtcgkmnjfkljjlaaGreat
end

section
set_option maxRecDepth 100000
namespace Go.Proofs.YtcgkmnjfkljjlaaGreat
open Go.RowKit
end Go.Proofs.YtcgkmnjfkljjlaaGreat
end

section
set_option maxRecDepth 100000
namespace Go.Proofs.YtcgkmnjfkljjlaaGreat
open Go.RowKit
end Go.Proofs.YtcgkmnjfkljjlaaGreat
end

section
set_option maxRecDepth 100000
namespace Go.Proofs.YtcgkmnjfkljjlaaGreat
open Go.RowKit
end Go.Proofs.YtcgkmnjfkljjlaaGreat
end

section
set_option maxRecDepth 100000
namespace Go.Proofs.YtcgkmnjfkljjlaaGreat
open Go.RowKit
end Go.Proofs.YtcgkmnjfkljjlaaGreat
end

section
set_option maxRecDepth 100000
namespace Go.Proofs.YtcgkmnjfkljjlaaGreat
open Go.RowKit
def ArgsQ (w : World) : List Value → List (List Rat) → Prop
  | [], [] => True
  | v :: vs, l :: ls => IsQs w v l ∧ ArgsQ w vs ls
  | _, _ => False
theorem qs_rat {w : World} {v : Value} {q : Rat} (h : IsQs w v [q]) : IsRat w v q := by
  obtain ⟨vs, rfl, x, r, rfl, h1, rfl⟩ := h
  rw [List.append_nil]
  exact h1
theorem qs_root {w : World} {v : Value} {a b c : Rat} (h : IsQs w v [a, b, c]) : IsRoot w v a b c := by
  obtain ⟨vs, rfl, h⟩ := h
  exact rats3 h
def limB (n : Nat) (q : Rat) : Bool := decide ((limbs q.num.natAbs).length ≤ n) && decide ((limbs (q.den : Int).natAbs).length ≤ n)
theorem limB_ok {n : Nat} {q : Rat} (h : limB n q = true) : LimQ n q := by
  unfold limB at h
  rw [Bool.and_eq_true, decide_eq_true_iff, decide_eq_true_iff] at h
  exact h
def lq (q : Rat) : IT2 := (.lit q.num, .lit (q.den : Int))
end Go.Proofs.YtcgkmnjfkljjlaaGreat
end

section
set_option maxRecDepth 100000
namespace Go.Proofs.YtcgkmnjfkljjlaaGreat
open Go.RowKit
end Go.Proofs.YtcgkmnjfkljjlaaGreat
end

section
set_option maxRecDepth 100000
namespace Go.Proofs.YtcgkmnjfkljjlaaGreat
open Go.RowKit
end Go.Proofs.YtcgkmnjfkljjlaaGreat
end

section
set_option maxRecDepth 100000
namespace Go.Proofs.YtcgkmnjfkljjlaaGreat
open Go.RowKit
def cts : List (List IT2) → List AV → Bool
  | [], [] => true
  | l :: ls, .val true cs :: xs => t6 l cs && cts ls xs
  | _, _ => false
def RepsL (E : Env) : List (List IT2) → List (List Rat) → Prop
  | [], [] => True
  | t :: ts, q :: qs => Reps E t q ∧ RepsL E ts qs
  | _, _ => False
theorem cts_holds {E : Env} {β : Nat → Nat} {w : World} : ∀ {ts : List (List IT2)} {ls : List (List Rat)} {args : List AV} {vs : List Value}, RepsL E ts ls → cts ts args = true → (∀ (i : Nat) (x : AV), args[i]? = some x → ∃ v, vs[i]? = some v ∧ x.holds E β w v) → vs.length = args.length → ArgsQ w vs ls
  | [], [], args, vs, _, h, hv, hl => by
    unfold cts at h
    split at h
    · match vs, hl with
      | [], _ => exact trivial
    · contradiction
    · cases h
  | [], _ :: _, _, _, hr, _, _, _ => hr.elim
  | _ :: _, [], _, _, hr, _, _, _ => hr.elim
  | t :: ts, l :: ls, args, vs, hr, h, hv, hl => by
    unfold cts at h
    split at h
    · contradiction
    · rename_i l' ls' cs xs e
      cases e
      rw [Bool.and_eq_true] at h
      obtain ⟨v, h1, h2⟩ := hv 0 _ rfl
      match vs, hl, h1 with
      | u :: us, hl, h1 =>
        injection h1 with h1
        subst h1
        obtain ⟨ys, rfl, hy⟩ := h2
        exact ⟨⟨ys, rfl, t6_holds hr.1 h.1 hy⟩, cts_holds hr.2 h.2 (fun i x hx => hv (i + 1) x hx) (by simpa using hl)⟩
    · cases h
theorem knownT {E : Env} {f : Nat} {ts : List (List IT2)} {ls : List (List Rat)} {r : AV} (hr : RepsL E ts ls) (np : ∀ x off, r ≠ .ptr x off) (h : ∀ (w : World) (vs : List Value), ArgsQ w vs ls → Calls Tryz.prog f vs.toArray w fun e w' => ∃ x, e = .returned x ∧ (∀ β, r.holds E β w' x) ∧ Ext w w') : KnownR E f (cts ts) r :=
  ⟨fun _ hc _ w vs hv hl => h w vs (cts_holds hr hc hv hl), np⟩
end Go.Proofs.YtcgkmnjfkljjlaaGreat
end

section
set_option maxRecDepth 100000
namespace Go.Proofs.YtcgkmnjfkljjlaaGreat
open Go.RowKit
def kSqX (b : Bool) : Con
  | [x], _ => match qOf x with
    | some (C, m) => if (C.1.beq (qv 2).1 && C.2.beq (qv 2).2) && decide (m ≤ 4) then some (if b then .tup [(true, [.int (qv 3).1 4, .int (qv 3).2 4]), (false, [.b (.lit true)])] else .tup [(true, [.int (.lit 0) 0, .int (.lit 0) 0]), (false, [.b (.lit false)])]) else none
    | none => none
  | _, _ => none
theorem kSqX_ok {a b c s : Rat} {x : Bool} (lc : LimQ 4 c) (hx : (sqB c.num && sqB (c.den : Int)) = x) (hs : x = true → s.num = isq c.num ∧ (s.den : Int) = isq (c.den : Int)) {f : Nat}
    (hc : ∀ (w : World) (v : Value) (n d : Int), IsPair w v n d → Lim 100000 n → Lim 100000 d → Calls Tryz.prog f #[v] w (RetSqQ n d w))
    (hb : ∃ fn, Tryz.prog.funcs[f]? = some fn ∧ fn.name ≠ "runtime.NumGoroutine" ∧ fn.body.isNone = false) : ConOK Tryz.prog (qE [a, b, c, s]) f (kSqX x) := by
  have rc : RepQ (qE [a, b, c, s]) (qv 2) c := rep_v (i := 2)
  have rs : RepQ (qE [a, b, c, s]) (qv 3) s := rep_v (i := 3)
  refine ⟨?_, ?_, hb⟩
  · intro args G r h hG β w vs hv hlen
    unfold kSqX at h
    split at h
    · split at h
      · rename_i y C m hy
        split at h
        · rename_i hcd
          simp only [Bool.and_eq_true, decide_eq_true_iff] at hcd
          injection h with h
          subst h
          obtain ⟨v, rfl, h1⟩ := args1 hv hlen
          obtain ⟨q, rq', iq, lq⟩ := qOf_spec (qE_ok _) hy h1
          have e1 : q.num = c.num := by rw [← rq'.1, ← rc.1, IT.eq_of_beq hcd.1.1]
          have e2 : (q.den : Int) = (c.den : Int) := by rw [← rq'.2, ← rc.2, IT.eq_of_beq hcd.1.2]
          have hp : IsPair w v c.num (c.den : Int) := by
            have h0 : IsPair w v q.num (q.den : Int) := iq
            rw [e1, e2] at h0
            exact h0
          refine (hc w v _ _ hp (lc.1.mono (by omega)) (lc.2.mono (by omega))).mono ?_
          rintro e w' ⟨u, rfl, hr, ex⟩
          unfold sqN at hr
          rw [hx] at hr ⊢
          cases x with
          | true =>
            obtain ⟨s1, s2⟩ := hs rfl
            rw [if_pos rfl, if_pos rfl, ← s1, ← s2] at hr
            exact ⟨_, rfl, ⟨[u, .bool true], rfl, u, _, rfl, (one_q rs).2 ⟨hr, by rw [s1]; exact isq_lim lc.1, by rw [s2]; exact isq_lim lc.2⟩, _, _, rfl, one_bool.2 rfl, rfl⟩, ex⟩
          | false =>
            rw [if_neg (by decide), if_neg (by decide)] at hr
            exact ⟨_, rfl, ⟨[u, .bool false], rfl, u, _, rfl, one_pair.2 ⟨hr, lim_zero, lim_zero⟩, _, _, rfl, one_bool.2 rfl, rfl⟩, ex⟩
        · cases h
      · cases h
    · cases h
  · intro args G r h y off
    unfold kSqX at h
    split at h
    · split at h
      · split at h
        · injection h with h; subst h; cases x <;> (intro e; cases e)
        · cases h
      · cases h
    · cases h
def mkA : IT2 := qop 0 (qv 0) (qop 2 (qv 1) (qv 3))
end Go.Proofs.YtcgkmnjfkljjlaaGreat
end

section
set_option maxRecDepth 100000
namespace Go.Proofs.YtcgkmnjfkljjlaaGreat
open Go.RowKit Go.Shelf
theorem LimQ.add6 {l m k j n : Nat} {a b : Rat} (h1 : Lim l a.num) (h2 : Lim m (a.den : Int)) (h3 : Lim k b.num) (h4 : Lim j (b.den : Int)) (e1 : l + j < n) (e2 : k + m < n) : Lim n (a + b).num ∧ Lim (m + j) ((a + b).den : Int) := by
  have e : a + b = a - (-b) := by grind
  rw [e]
  exact LimQ.sub' h1 h2 (by rw [Rat.neg_num]; exact h3.neg) (show Lim j ((-b).den : Int) from h4) e1 e2
def isRt2 (A B C : IT2) : Option Tree → Bool
  | some (.leaf [(true, [.int a _, .int a' _, .int b _, .int b' _, .int c _, .int c' _]), (false, [.n .i64 (.lit z)])]) => (a.beq A.1 && a'.beq A.2) && ((b.beq B.1 && b'.beq B.2) && ((c.beq C.1 && c'.beq C.2) && z == 0))
  | _ => false
theorem isRt2_spec {A B C : IT2} {o : Option Tree} (h : isRt2 A B C o = true) : ∃ l1 l2 l3 l4 l5 l6, o = some (.leaf [(true, [.int A.1 l1, .int A.2 l2, .int B.1 l3, .int B.2 l4, .int C.1 l5, .int C.2 l6]), (false, [.n .i64 (.lit 0)])]) := by
  unfold isRt2 at h
  split at h
  · simp only [Bool.and_eq_true, beq_iff_eq] at h
    obtain ⟨⟨h1, h2⟩, ⟨h3, h4⟩, ⟨h5, h6⟩, rfl⟩ := h
    rw [IT.eq_of_beq h1, IT.eq_of_beq h2, IT.eq_of_beq h3, IT.eq_of_beq h4, IT.eq_of_beq h5, IT.eq_of_beq h6]
    exact ⟨_, _, _, _, _, _, rfl⟩
  · cases h
noncomputable def tabMk6 (x : Bool) : List (Nat × Con) := [(70, kSqX x)]
noncomputable def mkW (x : Bool) (G : Asm) : Option Tree := funE (cR (tabMk6 x)) Tryz.f55 G [aQl 0 8, aQl 1 3, aQl 2 3]
def gNn : BT × Bool := (.lt (sgt (qv 2)) (.lit 0), false)
theorem mk_sq : isRt2 mkA q0 q0 (mkW true [gNn]) = true := by kernel_rfl
theorem mk_b0 : isRt2 (qv 0) q0 q0 (mkW false [gNn, (zt (qv 1), true)]) = true := by kernel_rfl
theorem mk_rt : isRt2 (qv 0) (qv 1) (qv 2) (mkW false [gNn, (zt (qv 1), false), (zt (qv 2), false)]) = true := by kernel_rfl
theorem make_ex {a b c : Rat} (hc : 0 ≤ c) (la : LimQ 8 a) (lb : LimQ 3 b) (lc : LimQ 3 c) : ∃ a' b' c' : Rat, Rd b' c' ∧ LimR 20 a' b' c' ∧ (b' ≠ 0 → c' = c) ∧ ∀ (w : World) (v1 v2 v3 : Value), IsRat w v1 a → IsRat w v2 b → IsRat w v3 c →
    Calls Tryz.prog 55 #[v1, v2, v3] w fun e w' => ∃ x, e = .returned (.tuple #[x, .int .i64 0]) ∧ IsRoot w' x a' b' c' ∧ Ext w w' := by
  have up : ∀ {n m : Nat} {q : Rat}, n ≤ m → LimQ n q → LimQ m q := fun h l => ⟨l.1.mono h, l.2.mono h⟩
  have lz : LimQ 20 (0 : Rat) := limB_ok (by decide +kernel)
  have run : ∀ (x : Bool) (s : Rat) (G : Asm) (A B C : IT2) (a' b' c' : Rat), (sqB c.num && sqB (c.den : Int)) = x → (x = true → s.num = isq c.num ∧ (s.den : Int) = isq (c.den : Int)) → G.holds (qE [a, b, c, s]) → isRt2 A B C (mkW x G) = true → RepQ (qE [a, b, c, s]) A a' → RepQ (qE [a, b, c, s]) B b' → RepQ (qE [a, b, c, s]) C c' →
      ∀ (w : World) (v1 v2 v3 : Value), IsRat w v1 a → IsRat w v2 b → IsRat w v3 c → Calls Tryz.prog 55 #[v1, v2, v3] w fun e w' => ∃ x, e = .returned (.tuple #[x, .int .i64 0]) ∧ IsRoot w' x a' b' c' ∧ Ext w w' := by
    intro x s G A B C a' b' c' hx hs hG hT rA rB rC w v1 v2 v3 h1 h2 h3
    obtain ⟨l1, l2, l3, l4, l5, l6, hT⟩ := isRt2_spec hT
    have hC : CfgOK Tryz.prog (qE [a, b, c, s]) (cR (tabMk6 x)) := cR_ok (qE_ok _) (.cons (kSqX_ok (up (by omega) lc) hx hs (fun w v n d h l m => rsqrtQ_calls w v n d h l m) ⟨_, Tryz.func70, by decide +kernel, by kernel_rfl⟩) .nil)
    refine (fun_sound mixed hC hG Tryz.func55 (by decide +kernel) hT (by decide +kernel) rfl w [v1, v2, v3] rfl ?_).mono ?_
    · intro i t ht
      match i, ht with
      | 0, ht => injection ht with ht; subst ht; exact ⟨fun _ => 0, v1, rfl, aQl_holds (i := 0) h1 la⟩
      | 1, ht => injection ht with ht; subst ht; exact ⟨fun _ => 0, v2, rfl, aQl_holds (i := 1) h2 lb⟩
      | 2, ht => injection ht with ht; subst ht; exact ⟨fun _ => 0, v3, rfl, aQl_holds (i := 2) h3 lc⟩
    · rintro e w' ⟨β, y, rfl, ⟨vs, rfl, u1, r1, rfl, k1, u2, r2, rfl, k2, hn⟩, ex⟩
      simp only [tupAll] at hn
      subst hn
      have k2' : u2 = .int .i64 0 := one_num.1 k2
      subst k2'
      exact ⟨u1, rfl, ((one_root rA rB rC).1 k1).1, ex⟩
  have gn : ∀ s, (gNn).1.den (qE [a, b, c, s]) = false := fun s => by
    have rc : RepQ (qE [a, b, c, s]) (qv 2) c := rep_v (i := 2)
    show decide ((sgt (qv 2)).den _ < 0) = false
    rw [sgt_den rc]
    rcases sgQ_cases c with ⟨k, e⟩ | ⟨k, e⟩ | ⟨k, e⟩ <;> rw [e] <;> first | rfl | exact absurd k (by grind)
  have zq : ∀ (s : Rat), (zt (qv 1)).den (qE [a, b, c, s]) = decide (b = 0) ∧ (zt (qv 2)).den (qE [a, b, c, s]) = decide (c = 0) := fun s => ⟨zt_den (rep_v (i := 1)), zt_den (rep_v (i := 2))⟩
  cases hx : (sqB c.num && sqB (c.den : Int)) with
  | true =>
    have hx' := hx
    rw [Bool.and_eq_true] at hx'
    obtain ⟨s, s1, s2⟩ := root_rat hx'.1 hx'.2
    have ls : LimQ 3 s := ⟨by rw [s1]; exact isq_lim lc.1, by rw [s2]; exact isq_lim lc.2⟩
    have m1 := LimQ.mul' lb.1 lb.2 ls.1 ls.2
    have m2 := LimQ.add6 (n := 20) la.1 la.2 m1.1 m1.2 (by omega) (by omega)
    refine ⟨a + b * s, 0, 0, .inl ⟨rfl, rfl⟩, ⟨⟨m2.1, m2.2.mono (by omega)⟩, lz, lz⟩, fun h => absurd rfl h, run true s [gNn] mkA q0 q0 _ _ _ hx (fun _ => ⟨s1, s2⟩) (asm_and (gn s) asm_nil) mk_sq ?_ rep_0 rep_0⟩
    exact rep_add (rep_v (i := 0)) (rep_mul (rep_v (i := 1)) (rep_v (i := 3)))
  | false =>
    by_cases hb : b = 0
    · exact ⟨a, 0, 0, .inl ⟨rfl, rfl⟩, ⟨up (by omega) la, lz, lz⟩, fun h => absurd rfl h, run false 0 [gNn, (zt (qv 1), true)] (qv 0) q0 q0 _ _ _ hx (fun h => by cases h) (asm_and (gn 0) (asm_and (by rw [(zq 0).1, decide_eq_true hb]) asm_nil)) mk_b0 (rep_v (i := 0)) rep_0 rep_0⟩
    · have hc0 : c ≠ 0 := by
        intro h
        rw [h] at hx
        revert hx
        decide +kernel
      have hcp : 0 < c := by grind
      exact ⟨a, b, c, Rdb_iff.1 (by rw [Rdb_cases, if_neg hb, if_pos hcp, hx]; rfl), ⟨up (by omega) la, up (by omega) lb, up (by omega) lc⟩, fun _ => rfl, run false 0 [gNn, (zt (qv 1), false), (zt (qv 2), false)] (qv 0) (qv 1) (qv 2) _ _ _ hx (fun h => by cases h) (asm_and (gn 0) (asm_and (by rw [(zq 0).1, decide_eq_false hb]) (asm_and (by rw [(zq 0).2, decide_eq_false hc0]) asm_nil))) mk_rt (rep_v (i := 0)) (rep_v (i := 1)) (rep_v (i := 2))⟩
end Go.Proofs.YtcgkmnjfkljjlaaGreat
end

section
set_option maxRecDepth 100000
namespace Go.Proofs.YtcgkmnjfkljjlaaGreat
open Go.RowKit Go.Shelf
def cfr (t u : IT) : List AV → Bool
  | [.val false [.n .i64 x], .val false [.n .i64 y]] => x.beq t && y.beq u
  | _ => false
theorem frac_known {E : Env} {t u : IT} {q : IT2} {n d : Int} (ht : t.den E = n) (hu : u.den E = d) (hn : I64 n) (hd : I64 d) (hq : RepQ E q (Rat.divInt n d)) : KnownR E 48 (cfr t u) (.val true [.int q.1 3, .int q.2 3]) := by
  refine ⟨?_, fun x off e => by cases e⟩
  intro args hc β w vs hv hl
  unfold cfr at hc
  split at hc
  · rw [Bool.and_eq_true] at hc
    have e1 := IT.eq_of_beq hc.1
    have e2 := IT.eq_of_beq hc.2
    subst e1 e2
    obtain ⟨v, x, rfl, h1, h2⟩ := args2 hv hl
    have h1' := one_num.1 h1
    have h2' := one_num.1 h2
    subst h1' h2'
    rw [ht, hu]
    refine (rfrac_rat_calls w n d hn hd).mono ?_
    rintro e w' ⟨y, rfl, hy, ex⟩
    have l := frac_lim hn hd
    exact ⟨y, rfl, fun β => (one_q hq).2 ⟨hy, l.1, l.2⟩, ex⟩
  · cases hc
def surdV (A B C D E F : Int) : Value := .agg #[.int .i16 A, .int .i16 B, .int .u16 C, .int .u8 D, .int .u8 E, .int .u8 F]
def surdA : AV := .val true [.n .i16 (.var 6), .n .i16 (.var 8), .n .u16 (.var 10), .n .u8 (.var 12), .n .u8 (.var 14), .n .u8 (.var 16)]
def nT (i : Nat) : IT := .a1 20 (.var i)
def dT6 (i : Nat) : IT := .a1 20 (.a2 0 (.a1 20 (.var i)) (.lit 1))
def aQ3 (i : Nat) : AV := .val true [.int (.var i) 3, .int (.var (i + 1)) 3]
def tMk6 : List (List IT2) := [[qI 0], [qI 2], [qI 4]]
def rtX : List Chunk := rt (qI 18) (qI 20) (qI 22) 20
noncomputable def tabOf6 : List (Nat × Con) :=
  (48, kKq (cfr (nT 6) (dT6 12)) (aQ3 0) (kKq (cfr (nT 8) (dT6 14)) (aQ3 2) (kKq (cfr (nT 10) (dT6 16)) (aQ3 4) kNoQ))) ::
  (55, kKq (cts tMk6) (.tup [(true, rtX), (false, [.n .i64 (.lit 0)])]) kNoQ) :: []
theorem of6_walk : funE (cfgOf tabOf6) Tryz.f13 [] [surdA] = some (.leaf [(true, rtX)]) := by kernel_rfl
structure SurdOK (A B C D E F : Int) : Prop where
  a : -32768 ≤ A ∧ A ≤ 32767
  b : -32768 ≤ B ∧ B ≤ 32767
  c : 0 ≤ C ∧ C ≤ 65535
  d : 0 ≤ D ∧ D ≤ 255
  e : 0 ≤ E ∧ E ≤ 255
  f : 0 ≤ F ∧ F ≤ 255
theorem surd_holds {E : Env} {β : Nat → Nat} {w : World} {a b c d e f : Int} (h1 : E.i 6 = a) (h2 : E.i 8 = b) (h3 : E.i 10 = c) (h4 : E.i 12 = d) (h5 : E.i 14 = e) (h6 : E.i 16 = f) : surdA.holds E β w (surdV a b c d e f) := by
  subst h1 h2 h3 h4 h5 h6
  exact ⟨[_, _, _, _, _, _], rfl, [_], _, rfl, rfl, [_], _, rfl, rfl, [_], _, rfl, rfl, [_], _, rfl, rfl, [_], _, rfl, rfl, [_], [], rfl, rfl, rfl⟩
theorem argsQ3 {w : World} {vs : List Value} {l m n : List Rat} (h : ArgsQ w vs [l, m, n]) : ∃ v u x, vs = [v, u, x] ∧ IsQs w v l ∧ IsQs w u m ∧ IsQs w x n := by
  match vs, h with
  | [v, u, x], h => exact ⟨v, u, x, rfl, h.1, h.2.1, h.2.2.1⟩
theorem divInt_nn {n d : Int} (hn : 0 ≤ n) (hd : 0 < d) : 0 ≤ Rat.divInt n d := Rat.divInt_nonneg hn (by omega)
theorem of_ex' (A B C D E F : Int) (h : SurdOK A B C D E F) : ∃ a b c : Rat, Rd b c ∧ LimR 20 a b c ∧ (b ≠ 0 → c = Rat.divInt C (F + 1)) ∧ ∀ w : World, Calls Tryz.prog 13 #[surdV A B C D E F] w (Ret (fun x w' => IsRoot w' x a b c) w) := by
  obtain ⟨⟨a1, a2⟩, ⟨b1, b2⟩, ⟨c1, c2⟩, ⟨d1, d2⟩, ⟨e1, e2⟩, ⟨f1, f2⟩⟩ := h
  have i64 : ∀ z : Int, -32768 ≤ z → z ≤ 65536 → I64 z := fun z h1 h2 => ⟨by omega, by omega⟩
  obtain ⟨qa, hqa⟩ : ∃ q, q = Rat.divInt A (D + 1) := ⟨_, rfl⟩
  obtain ⟨qb, hqb⟩ : ∃ q, q = Rat.divInt B (E + 1) := ⟨_, rfl⟩
  obtain ⟨qc, hqc⟩ : ∃ q, q = Rat.divInt C (F + 1) := ⟨_, rfl⟩
  have la := frac_lim (n := A) (d := D + 1) (i64 _ (by omega) (by omega)) (i64 _ (by omega) (by omega))
  have lb := frac_lim (n := B) (d := E + 1) (i64 _ (by omega) (by omega)) (i64 _ (by omega) (by omega))
  have lc := frac_lim (n := C) (d := F + 1) (i64 _ (by omega) (by omega)) (i64 _ (by omega) (by omega))
  rw [← hqa] at la
  rw [← hqb] at lb
  rw [← hqc] at lc
  obtain ⟨a', b', c', R, lr, hcc, hm⟩ := make_ex (a := qa) (b := qb) (c := qc) (by rw [hqc]; exact divInt_nn c1 (by omega)) ⟨la.1.mono (by omega), la.2.mono (by omega)⟩ lb lc
  refine ⟨a', b', c', R, lr, fun k => (hcc k).trans hqc, fun w => ?_⟩
  obtain ⟨V, hV⟩ : ∃ V, V = qE [qa, qb, qc, (A : Rat), (B : Rat), (C : Rat), (D : Rat), (E : Rat), (F : Rat), a', b', c'] := ⟨_, rfl⟩
  have ra : RepQ V (qI 0) qa := by rw [hV]; exact ⟨rfl, rfl⟩
  have rb : RepQ V (qI 2) qb := by rw [hV]; exact ⟨rfl, rfl⟩
  have rc : RepQ V (qI 4) qc := by rw [hV]; exact ⟨rfl, rfl⟩
  have rx : RepQ V (qI 18) a' := by rw [hV]; exact ⟨rfl, rfl⟩
  have ry : RepQ V (qI 20) b' := by rw [hV]; exact ⟨rfl, rfl⟩
  have rz : RepQ V (qI 22) c' := by rw [hV]; exact ⟨rfl, rfl⟩
  have vA : V.i 6 = A := by rw [hV]; exact qE_int (i := 3) rfl
  have vB : V.i 8 = B := by rw [hV]; exact qE_int (i := 4) rfl
  have vC : V.i 10 = C := by rw [hV]; exact qE_int (i := 5) rfl
  have vD : V.i 12 = D := by rw [hV]; exact qE_int (i := 6) rfl
  have vE : V.i 14 = E := by rw [hV]; exact qE_int (i := 7) rfl
  have vF : V.i 16 = F := by rw [hV]; exact qE_int (i := 8) rfl
  have nt : ∀ {i : Nat} {z : Int}, V.i i = z → -32768 ≤ z → z ≤ 65536 → (nT i).den V = z := by
    intro i z hi h1 h2
    show IntKind.i64.wrap (V.i i) = z
    rw [hi]; exact IntWalk.i64_in _ (by omega)
  have dt : ∀ {i : Nat} {z : Int}, V.i i = z → 0 ≤ z → z ≤ 255 → (dT6 i).den V = z + 1 := by
    intro i z hi h1 h2
    show IntKind.i64.wrap (IntKind.i64.wrap (V.i i) + 1) = z + 1
    rw [hi, IntWalk.i64_in z (by omega)]; exact IntWalk.i64_in _ (by omega)
  have hT : TabOK Tryz.prog V tabOf6 := by
    refine .cons (kKr_ok (frac_known (q := qI 0) (nt vA (by omega) (by omega)) (dt vD (by omega) (by omega)) (i64 _ (by omega) (by omega)) (i64 _ (by omega) (by omega)) (by rw [← hqa]; exact ra)) <|
      kKr_ok (frac_known (q := qI 2) (nt vB (by omega) (by omega)) (dt vE (by omega) (by omega)) (i64 _ (by omega) (by omega)) (i64 _ (by omega) (by omega)) (by rw [← hqb]; exact rb)) <|
      kKr_ok (frac_known (q := qI 4) (nt vC (by omega) (by omega)) (dt vF (by omega) (by omega)) (i64 _ (by omega) (by omega)) (i64 _ (by omega) (by omega)) (by rw [← hqc]; exact rc)) (kNoQ_ok ⟨_, Tryz.func48, by decide +kernel, by kernel_rfl⟩)) <|
      .cons (kKr_ok (knownT (ls := [[qa], [qb], [qc]]) ⟨⟨ra, trivial⟩, ⟨rb, trivial⟩, ⟨rc, trivial⟩, trivial⟩ (fun x off e => by cases e) fun w vs hv => ?_) (kNoQ_ok ⟨_, Tryz.func55, by decide +kernel, by kernel_rfl⟩)) .nil
    obtain ⟨v1, v2, v3, rfl, k1, k2, k3⟩ := argsQ3 hv
    refine (hm w v1 v2 v3 (qs_rat k1) (qs_rat k2) (qs_rat k3)).mono ?_
    rintro e w' ⟨x, rfl, hx, ex⟩
    exact ⟨_, rfl, fun β => ⟨[x, .int .i64 0], rfl, _, _, rfl, (one_root rx ry rz).2 ⟨hx, lr⟩, _, _, rfl, one_num.2 rfl, rfl⟩, ex⟩
  refine (fun_sound mixed (cfg_ok hT) no_asm Tryz.func13 (by decide +kernel) of6_walk (by decide +kernel) rfl w [_] rfl ?_).mono ?_
  · intro i x hx
    match i, hx with
    | 0, hx => injection hx with hx; subst hx; exact ⟨fun _ => 0, _, rfl, surd_holds vA vB vC vD vE vF⟩
  · rintro e w' ⟨β, y, rfl, hh, ex⟩
    exact ⟨y, rfl, ((one_root rx ry rz).1 hh).1, ex⟩
end Go.Proofs.YtcgkmnjfkljjlaaGreat
end

section
set_option maxRecDepth 100000
namespace Go.Proofs.YtcgkmnjfkljjlaaGreat
open Go.RowKit
def rX (j : Nat) : List IT2 := [qI (6 * j), qI (6 * j + 2), qI (6 * j + 4)]
def rXc (j : Nat) : List Chunk := rt (qI (6 * j)) (qI (6 * j + 2)) (qI (6 * j + 4)) 90000
def rXo (j : Nat) : AV := .tup [(true, rXc j), (false, [.n .i64 (.lit 0)])]
def kX2 (l : List (Nat × Nat × Nat)) : Con :=
  match l with
  | [] => kNoQ
  | p :: l => kKq (cts [rX p.1, rX p.2.1]) (rXo p.2.2) (kX2 l)
def kXs (l : List (Nat × Nat)) : Con :=
  match l with
  | [] => kNoQ
  | p :: l => kKq (cts [rX p.1, rX p.2]) (.val false [.b (.lit true)]) (kXs l)
def lAdd : List (Nat × Nat × Nat) := [(0, 1, 3), (3, 2, 4), (1, 2, 5), (0, 5, 6), (7, 12, 13)]
def lMul : List (Nat × Nat × Nat) := [(0, 1, 7), (7, 2, 8), (1, 2, 9), (0, 9, 10), (0, 5, 11), (0, 2, 12)]
def lSame : List (Nat × Nat) := [(4, 6), (8, 10), (11, 13)]
noncomputable def tabRF : List (Nat × Con) := [(14, kX2 lAdd), (16, kX2 lMul), (15, kXs lSame)]
def seqL : Code → Code
  | .seq a _ => a
  | c => c
def seqR : Code → Code
  | .seq _ b => b
  | c => c
noncomputable def rfB : Code := (Tryz.f3.body).getD .skip
noncomputable def rf0 : Code := seqL rfB
noncomputable def rf1 : Code := seqL (seqR rfB)
noncomputable def rf2 : Code := seqL (seqR (seqR rfB))
noncomputable def rf3 : Code := seqL (seqR (seqR (seqR rfB)))
noncomputable def rf4 : Code := seqR (seqR (seqR (seqR rfB)))
theorem rf_body : Tryz.f3.body = some (.seq rf0 (.seq rf1 (.seq rf2 (.seq rf3 rf4)))) := by kernel_rfl
def rowX (n : Nat) : List Chunk := (List.range n).flatMap rXc
def sRest : St := ⟨fun t => if t = 3 then some (.ptr (ro + 3) (big2 + 3)) else none, fun x => if x = ro + 3 then some (rowX 3) else none⟩
def isTru1 : Option AV → Bool
  | some (.val false [.b t]) => t.ev [] == some true
  | _ => false
noncomputable def restW : Option Tree := exec (cfgOf tabRF) 190 rf4 (fun _ S e => match e with
    | .ret => if isTru1 (S.look 2) then some (.leaf [(false, [.b (.lit true)])]) else none
    | _ => none) [] sRest
def isSm : Option Tree → Bool
  | some _ => true
  | none => false
theorem rest_walk : isSm restW = true := by kernel_rfl
end Go.Proofs.YtcgkmnjfkljjlaaGreat
end

section
set_option maxRecDepth 100000
namespace Go.Proofs.YtcgkmnjfkljjlaaGreat
open Go.RowKit
theorem argsQ2r {w : World} {vs : List Value} {l m : List Rat} (h : ArgsQ w vs [l, m]) : ∃ v u, vs = [v, u] ∧ IsQs w v l ∧ IsQs w u m := by
  match vs, h with
  | [v, u], h => exact ⟨v, u, rfl, h.1, h.2.1⟩
def LimP (m : Nat) (a b : Rat) : Prop := LimQ m a ∧ LimQ m b
theorem LimP.mono {l m : Nat} {a b : Rat} (h : LimP l a b) (k : l ≤ m) : LimP m a b := ⟨h.1.mono k, h.2.mono k⟩
theorem LimP.add {m : Nat} {a b a' b' : Rat} (h : LimP m a b) (k : LimP m a' b') : LimP (4 * m + 1) (a + a') (b + b') := ⟨h.1.addQ k.1, h.2.addQ k.2⟩
theorem LimP.mul {m : Nat} {a b a' b' C : Rat} (h : LimP m a b) (k : LimP m a' b') (hC : LimQ m C) : LimP (64 * m + 21) (a * a' + b * b' * C) (a * b' + b * a') := by
  have h1 : LimQ (16 * m + 5) (a * a') := (h.1.mulQ k.1).mono (by omega)
  have h2 : LimQ (16 * m + 5) (b * b' * C) := ((h.2.mulQ k.2).mulQ (hC.mono (by omega))).mono (by omega)
  have h3 : LimQ (16 * m + 5) (a * b') := (h.1.mulQ k.2).mono (by omega)
  have h4 : LimQ (16 * m + 5) (b * a') := (h.2.mulQ k.1).mono (by omega)
  exact ⟨(h1.addQ h2).mono (by omega), (h3.addQ h4).mono (by omega)⟩
theorem LimP.root {m : Nat} {a b C : Rat} (h : LimP m a b) (hC : LimQ m C) (hm : 1 ≤ m) : LimR m a b (rC b C) := ⟨h.1, h.2, LimQ.rC hC hm⟩
def RX (E : Env) (j : Nat) (a b C : Rat) : Prop := RepQ E (qI (6 * j)) a ∧ RepQ E (qI (6 * j + 2)) b ∧ RepQ E (qI (6 * j + 4)) (rC b C)
theorem RX.reps {E : Env} {j : Nat} {a b C : Rat} (h : RX E j a b C) : Reps E (rX j) [a, b, rC b C] := ⟨h.1, h.2.1, h.2.2, trivial⟩
theorem cm_rC {b b' C : Rat} : rC (b + b') (cm b (rC b C) (rC b' C)) = rC (b + b') C := by
  by_cases hb : b = 0
  · subst hb
    rw [cm_zero, show (0 : Rat) + b' = b' by grind]
    by_cases hb' : b' = 0
    · subst hb'; rw [rC_zero, rC_zero]
    · rw [rC_ne hb', rC_ne hb']
  · rw [cm_ne hb, rC_ne hb]
theorem ok_rC {b b' C : Rat} : Ok b (rC b C) b' (rC b' C) := by
  by_cases hb : b = 0
  · exact .inl hb
  · by_cases hb' : b' = 0
    · exact .inr (.inl hb')
    · exact .inr (.inr (by rw [rC_ne hb, rC_ne hb']))
theorem cm_mul {b b' C : Rat} : b * b' * cm b (rC b C) (rC b' C) = b * b' * C := by
  by_cases hb : b = 0
  · subst hb; grind
  · rw [cm_ne hb, rC_ne hb]
theorem cm_rC2 {a b a' b' C : Rat} : rC (a * b' + b * a') (cm b (rC b C) (rC b' C)) = rC (a * b' + b * a') C := by
  by_cases h0 : a * b' + b * a' = 0
  · rw [h0, rC_zero, rC_zero]
  · rw [rC_ne h0, rC_ne h0]
    by_cases hb : b = 0
    · subst hb
      rw [cm_zero]
      by_cases hb' : b' = 0
      · subst hb'; exact absurd (by grind) h0
      · exact rC_ne hb' C
    · rw [cm_ne hb, rC_ne hb]
theorem add_known {E : Env} {i j k : Nat} {a b a' b' C : Rat} (hi : RX E i a b C) (hj : RX E j a' b' C) (hk : RX E k (a + a') (b + b') C) (li : LimP 3000 a b) (lj : LimP 3000 a' b') (lk : LimP 90000 (a + a') (b + b')) (lC : LimQ 20 C) :
    KnownR E 14 (cts [rX i, rX j]) (rXo k) := by
  refine knownT (ls := [[a, b, rC b C], [a', b', rC b' C]]) ⟨hi.reps, hj.reps, trivial⟩ (fun x off e => by cases e) fun w vs hv => ?_
  obtain ⟨v, u, rfl, k1, k2⟩ := argsQ2r hv
  refine (p_add (qs_root k1) (qs_root k2) (li.root (lC.mono (by omega)) (by omega)) (lj.root (lC.mono (by omega)) (by omega))).mono ?_
  intro e w' h
  obtain ⟨x, rfl, hx, ex⟩ := h.1 ok_rC
  rw [cm_rC] at hx
  exact ⟨_, rfl, fun β => ⟨[x, .int .i64 0], rfl, _, _, rfl, (one_root hk.1 hk.2.1 hk.2.2).2 ⟨hx, lk.root (lC.mono (by omega)) (by omega)⟩, _, _, rfl, one_num.2 rfl, rfl⟩, ex⟩
theorem mul_known {E : Env} {i j k : Nat} {a b a' b' C : Rat} (hi : RX E i a b C) (hj : RX E j a' b' C) (hk : RX E k (a * a' + b * b' * C) (a * b' + b * a') C) (li : LimP 3000 a b) (lj : LimP 3000 a' b') (lk : LimP 90000 (a * a' + b * b' * C) (a * b' + b * a')) (lC : LimQ 20 C) :
    KnownR E 16 (cts [rX i, rX j]) (rXo k) := by
  refine knownT (ls := [[a, b, rC b C], [a', b', rC b' C]]) ⟨hi.reps, hj.reps, trivial⟩ (fun x off e => by cases e) fun w vs hv => ?_
  obtain ⟨v, u, rfl, k1, k2⟩ := argsQ2r hv
  refine (p_mul (qs_root k1) (qs_root k2) (li.root (lC.mono (by omega)) (by omega)) (lj.root (lC.mono (by omega)) (by omega))).mono ?_
  intro e w' h
  obtain ⟨x, rfl, hx, ex⟩ := h.1 ok_rC
  rw [cm_rC2, cm_mul] at hx
  exact ⟨_, rfl, fun β => ⟨[x, .int .i64 0], rfl, _, _, rfl, (one_root hk.1 hk.2.1 hk.2.2).2 ⟨hx, lk.root (lC.mono (by omega)) (by omega)⟩, _, _, rfl, one_num.2 rfl, rfl⟩, ex⟩
theorem same_known {E : Env} {i j : Nat} {a b C : Rat} (hi : RX E i a b C) (hj : RX E j a b C) (l : LimP 90000 a b) (lC : LimQ 20 C) :
    KnownR E 15 (cts [rX i, rX j]) (.val false [.b (.lit true)]) := by
  refine knownT (ls := [[a, b, rC b C], [a, b, rC b C]]) ⟨hi.reps, hj.reps, trivial⟩ (fun x off e => by cases e) fun w vs hv => ?_
  obtain ⟨v, u, rfl, k1, k2⟩ := argsQ2r hv
  have lr := l.root (C := C) (lC.mono (by omega)) (by omega)
  have h1 : one E w (true, rXc i) v := (one_root hi.1 hi.2.1 hi.2.2).2 ⟨qs_root k1, lr⟩
  have h2 : one E w (true, rXc j) u := (one_root hj.1 hj.2.1 hj.2.2).2 ⟨qs_root k2, lr⟩
  refine ((kRSm_ok (E := E)).calls [.val true (rXc i), .val true (rXc j)] [] _ rfl no_asm (fun _ => 0) w [v, u] ?_ rfl).mono ?_
  · intro n x hx
    match n, hx with
    | 0, hx => injection hx with hx; subst hx; exact ⟨v, rfl, h1⟩
    | 1, hx => injection hx with hx; subst hx; exact ⟨u, rfl, h2⟩
  · rintro e w' ⟨y, rfl, hy, ex⟩
    have hy' := one_bool.1 hy
    have e1 : (smT6 (qI (6 * i)).1 (qI (6 * i)).2 (qI (6 * i + 2)).1 (qI (6 * i + 2)).2 (qI (6 * i + 4)).1 (qI (6 * i + 4)).2 (qI (6 * j)).1 (qI (6 * j)).2 (qI (6 * j + 2)).1 (qI (6 * j + 2)).2 (qI (6 * j + 4)).1 (qI (6 * j + 4)).2).den E = true := by
      have q : ∀ {s t : IT} {z : Int}, s.den E = z → t.den E = z → (s.den E == t.den E) = true := fun h1 h2 => by rw [h1, h2]; exact beq_self_eq_true _
      show (((qI (6 * i)).1.den E == (qI (6 * j)).1.den E) && ((qI (6 * i)).2.den E == (qI (6 * j)).2.den E) && ((((qI (6 * i + 2)).1.den E == (qI (6 * j + 2)).1.den E) && ((qI (6 * i + 2)).2.den E == (qI (6 * j + 2)).2.den E)) && (((qI (6 * i + 4)).1.den E == (qI (6 * j + 4)).1.den E) && ((qI (6 * i + 4)).2.den E == (qI (6 * j + 4)).2.den E)))) = true
      rw [q hi.1.1 hj.1.1, q hi.1.2 hj.1.2, q hi.2.1.1 hj.2.1.1, q hi.2.1.2 hj.2.1.2, q hi.2.2.1 hj.2.2.1, q hi.2.2.2 hj.2.2.2]
      rfl
    rw [hy']
    exact ⟨_, rfl, fun β => one_bool.2 (congrArg Value.bool e1), ex⟩
end Go.Proofs.YtcgkmnjfkljjlaaGreat
end

section
set_option maxRecDepth 100000
namespace Go.Proofs.YtcgkmnjfkljjlaaGreat
open Go.RowKit
def sdC (k : Nat) : List Chunk := [.n .i16 (.var (84 + 12 * k)), .n .i16 (.var (86 + 12 * k)), .n .u16 (.var (88 + 12 * k)), .n .u8 (.var (90 + 12 * k)), .n .u8 (.var (92 + 12 * k)), .n .u8 (.var (94 + 12 * k))]
def sdF (k : Nat) : List Chunk := [.n .i16 (.var (84 + 12 * k)), .n .i16 (.var (86 + 12 * k)), .n .u16 (.var 88), .n .u8 (.var (90 + 12 * k)), .n .u8 (.var (92 + 12 * k)), .n .u8 (.var 94)]
def cs18 : List Chunk := sdC 0 ++ (sdC 1 ++ sdC 2)
def ceq : Chunk → Chunk → Bool
  | .n k (.var i), .n l (.var j) => decide (k = l) && i == j
  | .int (.var i) l, .int (.var j) m => i == j && l == m
  | _, _ => false
theorem ceq_eq {c d : Chunk} (h : ceq c d = true) : c = d := by
  unfold ceq at h
  split at h
  · simp only [Bool.and_eq_true, decide_eq_true_iff, beq_iff_eq] at h
    rw [h.1, h.2]
  · simp only [Bool.and_eq_true, beq_iff_eq] at h
    rw [h.1, h.2]
  · cases h
def lceq : List Chunk → List Chunk → Bool
  | [], [] => true
  | c :: cs, d :: ds => ceq c d && lceq cs ds
  | _, _ => false
theorem lceq_eq : ∀ {cs ds : List Chunk}, lceq cs ds = true → cs = ds
  | [], [], _ => rfl
  | [], _ :: _, h => by cases h
  | _ :: _, [], h => by cases h
  | c :: cs, d :: ds, h => by
    simp only [lceq, Bool.and_eq_true] at h
    rw [ceq_eq h.1, lceq_eq h.2]
def isAgV (ds : List Chunk) : Option AV → Bool
  | some (.val true cs) => lceq cs ds
  | _ => false
theorem isAgV_eq {ds : List Chunk} {o : Option AV} (h : isAgV ds o = true) : o = some (.val true ds) := by
  unfold isAgV at h
  split at h
  · rw [lceq_eq h]
  · cases h
def isPt1 (x off : Nat) : Option AV → Bool
  | some (.ptr y f) => y == x && f == off
  | _ => false
theorem isPt1_eq {x off : Nat} {o : Option AV} (h : isPt1 x off o = true) : o = some (.ptr x off) := by
  unfold isPt1 at h
  split at h
  · simp only [Bool.and_eq_true, beq_iff_eq] at h
    rw [h.1, h.2]
  · cases h
def isLt1 (z : Int) : Option AV → Bool
  | some (.val false [.n .i64 (.lit y)]) => y == z
  | _ => false
theorem isLt1_eq {z : Int} {o : Option AV} (h : isLt1 z o = true) : o = some (.val false [.n .i64 (.lit z)]) := by
  unfold isLt1 at h
  split at h
  · rw [beq_iff_eq] at h
    rw [h]
  · cases h
def isNil1 : Option AV → Bool
  | some (.val false [.nilSlice]) => true
  | _ => false
theorem isNil1_eq {o : Option AV} (h : isNil1 o = true) : o = some (.val false [.nilSlice]) := by
  unfold isNil1 at h
  split at h
  · rfl
  · cases h
def isVr (ds : List Chunk) : Option (List Chunk) → Bool
  | some cs => lceq cs ds
  | none => false
theorem isVr_eq {ds : List Chunk} {o : Option (List Chunk)} (h : isVr ds o = true) : o = some ds := by
  unfold isVr at h
  split at h
  · rw [lceq_eq h]
  · cases h
def isSd (k : Nat) : List AV → Bool
  | [.val true cs] => lceq cs (sdF k)
  | _ => false
def kOf3 : Con := kKq (isSd 0) (.val true (rXc 0)) (kKq (isSd 1) (.val true (rXc 1)) (kKq (isSd 2) (.val true (rXc 2)) kNoQ))
noncomputable def tabPre : List (Nat × Con) := [(12, kTru), (13, kOf3)]
def cfgAg3 (C : Cfg) : Cfg := { C with ag := fun t => if t = 26 then some (true, 18) else C.ag t }
theorem cfgAg3_ok {E : Env} {C : Cfg} (h : CfgOK Tryz.prog E C) : CfgOK Tryz.prog E (cfgAg3 C) := by
  refine ⟨h.zero, ?_, h.fld, h.flds, h.bool, h.row, h.arr, h.calls, h.nptr, h.body, h.slc, h.strT, h.cnv, h.apd, h.eq2⟩
  intro t b n ht w
  simp only [cfgAg3] at ht
  split at ht
  · rename_i e
    subst e
    injection ht with ht
    injection ht with e1 e2
    subst e1 e2
    exact ⟨Tryz.isAgg26 w, Tryz.sizeOf26 w, fun h => by cases h⟩
  · exact h.ag t b n ht w
def arrS3 : List (TypeId × Nat × TypeId) := [(26, 3, 25)]
theorem arrS3_ok : ArrOK Tryz.prog arrS3 := .cons Tryz.underlying26 .nil
noncomputable def cPre : Cfg := cfgAr (cfgAg3 (cfgOf tabPre)) arrS3
def cBk : Code → Code
  | .block _ c => c
  | .loop c => c
  | c => c
def cOps : Code → List Oper
  | .region _ ops _ => ops.toList
  | _ => []
noncomputable def rl4 : Code := seqL rf3
noncomputable def rlB : Code := cBk (cBk (seqR rf3))
noncomputable def rl5 : Code := seqL rlB
noncomputable def rlC : Code := seqL (seqR rlB)
noncomputable def rlI : Code := cBk (seqL (seqR (seqR rlB)))
noncomputable def rl6 : Code := seqL rlI
noncomputable def rl7 : Code := seqL (seqR rlI)
noncomputable def rl8 : Code := seqR (seqR rlI)
noncomputable def rl9 : Code := seqR (seqR (seqR rlB))
noncomputable def rlO : List Oper := cOps rl8
noncomputable def rlX : Code := .seq rl5 (.seq rlC (.seq (.block 1 (.seq rl6 (.seq rl7 rl8))) rl9))
theorem rl_eq : rf3 = .seq rl4 (.block 0 (.loop rlX)) := by kernel_rfl
theorem rl8_eq : rl8 = .region 8 rlO.toArray false := by kernel_rfl
def nxt (f : Asm → St → Option Tree) : Asm → St → Ex → Option Tree := fun G S e => match e with | .norm => f G S | _ => none
def fin1 (b : Bool) : Option Tree := if b then some (.leaf []) else none
def okRi (S : St) : Bool := isPt1 1 0 (S.look 1) && (isNil1 (S.look 3) && (isAgV cs18 (S.look 21) && (isLt1 0 (S.look 22) && isVr cs18 (S.var 1))))
def sRi : St := ⟨fun t => if t = 0 then some (.val true cs18) else none, fun _ => none⟩
noncomputable def wRi : Option Tree := exec cPre 190 rf0 (nxt fun G S => exec cPre 190 rf1 (nxt fun G S => exec cPre 190 rf2 (nxt fun G S => exec cPre 190 rl4 (nxt fun _ S => fin1 (okRi S)) G S) G S) G S) [] sRi
theorem wRi_ok : isSm wRi = true := by kernel_rfl
def l3 (k : Nat) : AV := if k = 0 then .val false [.nilSlice] else .ptr (ro + 3) (big2 + k)
def sRa (k : Nat) : St := ⟨fun t => if t = 1 then some (.ptr (ro + 1) 0) else if t = 3 then some (l3 k) else if t = 21 then some (.val true cs18) else if t = 22 then some (.val false [.n .i64 (.lit (k : Int))]) else none,
  fun x => if x = ro + 1 then some cs18 else if x = ro + 3 then (if k = 0 then none else some (rowX k)) else none⟩
def is3 (k : Nat) (o : Option AV) : Bool := if k = 0 then isNil1 o else isPt1 (ro + 3) (big2 + k) o
theorem is3_eq {k : Nat} {o : Option AV} (h : is3 k o = true) : o = some (l3 k) := by
  unfold is3 at h
  unfold l3
  split at h
  · rename_i e; rw [if_pos e]; exact isNil1_eq h
  · rename_i e; rw [if_neg e]; exact isPt1_eq h
def okRb (k : Nat) (S : St) : Bool := isPt1 (ro + 1) 0 (S.look 1) && (isAgV cs18 (S.look 21) && (isLt1 k (S.look 22) && (isVr cs18 (S.var (ro + 1)) && (if k = 0 then true else isVr (rowX k) (S.var (ro + 3))))))
def okRa (k : Nat) (S : St) : Bool := okRb k S && (is3 k (S.look 33) && (isPt1 36 (big + 1) (S.look 36) && isVr (rXc k) (S.var 36)))
noncomputable def wRa (k : Nat) : Option Tree := exec cPre 190 rl5 (nxt fun G S => exec cPre 190 rlC (nxt fun G S => exec cPre 190 rl6 (nxt fun G S => exec cPre 190 rl7 (nxt fun G S => match runE cPre G 190 rlO.toArray (rlO.take 4) S with | some S' => fin1 (okRa k S') | none => none) G S) G S) G S) [] (sRa k)
theorem wRa_ok : ([0, 1, 2].all fun k => isSm (wRa k)) = true := by kernel_rfl
def sRb (k : Nat) : St := ⟨fun t => if t = 1 then some (.ptr (ro + 1) 0) else if t = 37 then some (.ptr (ro + 3) (big2 + k)) else if t = 21 then some (.val true cs18) else if t = 22 then some (.val false [.n .i64 (.lit ((k - 1 : Nat) : Int))]) else none,
  fun x => if x = ro + 1 then some cs18 else if x = ro + 3 then some (rowX k) else none⟩
def okRc (k : Nat) (S : St) : Bool := okRb k S && is3 k (S.look 3)
noncomputable def wRb (k : Nat) : Option Tree := match runE cPre [] 190 rlO.toArray (rlO.drop 5) (sRb k) with | some S => exec cPre 190 rl9 (nxt fun _ S => fin1 (okRc k S)) [] S | none => none
theorem wRb_ok : ([1, 2, 3].all fun k => isSm (wRb k)) = true := by kernel_rfl
noncomputable def wRe : Option Tree := exec cPre 190 rl5 (nxt fun G S => exec cPre 190 rlC (fun _ S e => match e with | .exit 0 => fin1 (okRc 3 S) | _ => none) G S) [] (sRa 3)
theorem wRe_ok : isSm wRe = true := by kernel_rfl
end Go.Proofs.YtcgkmnjfkljjlaaGreat
end

section
set_option maxRecDepth 100000
namespace Go.Proofs.YtcgkmnjfkljjlaaGreat
open Go.RowKit
def nu : Value → Bool
  | .int .u32 _ => false
  | _ => true
structure RowAt (B : Nat) (E : Env) (k g cap : Nat) (cur : Array Value) (w : World) : Prop where
  hB : B ≤ g
  hg : w.heap[g]? = some (.cells cur 35 (0, 0))
  hk : k ≤ cap
  hc : cap ≤ maxLen
  hs : cur.size = cap * 12
  hx : chunks E w (rowX k) (cur.toList.take (k * 12))
  hn : ∀ u ∈ cur.toList, nu u = true
theorem info_root : ∃ i z, Tryz.prog.info? 35 = some i ∧ i.zero = some z ∧ i.size = 12 ∧ i.bytes ≤ 1000 ∧ z.cells.size = 12 ∧ (z.cells.toList.all nu) = true := by
  have h : (Tryz.prog.info? 35).map (fun i => (i.size, decide (i.bytes ≤ 1000), i.zero.map fun z => (z.cells.size, z.cells.toList.all nu))) = some (12, true, some (12, true)) := by kernel_rfl
  obtain ⟨i, hi, h2⟩ := Option.map_eq_some_iff.1 h
  injection h2 with h3 h4
  injection h4 with h5 h6
  obtain ⟨z, hz, h7⟩ := Option.map_eq_some_iff.1 h6
  injection h7 with h8 h9
  exact ⟨i, z, hi, hz, h3, of_decide_eq_true h5, h8, h9⟩
theorem nu_zeroCells {z : Array Value} (h0 : 0 < z.size) (h : (z.toList.all nu) = true) (n : Nat) : ∀ u ∈ (Builtin.zeroCells z n).toList, nu u = true := by
  intro u hu
  simp only [Builtin.zeroCells, Array.toList_map, List.mem_map] at hu
  obtain ⟨i, _, rfl⟩ := hu
  have hlt : i % z.size < z.size := Nat.mod_lt _ h0
  rw [getElem!_pos z _ hlt]
  exact List.all_eq_true.1 h _ (Array.getElem_mem_toList hlt)
def intCk : Chunk → Bool
  | .int _ _ => true
  | _ => false
theorem ints_ok {E : Env} {w : World} : ∀ {cs : List Chunk} {vs : List Value}, cs.all intCk = true → chunks E w cs vs → ∀ u ∈ vs, u.oneCell' = true ∧ nu u = true
  | [], vs, _, h, u, hu => by
    simp only [chunks] at h
    subst h
    cases hu
  | c :: cs, vs, hc, ⟨l, r, e, h1, h2⟩, u, hu => by
    subst e
    rw [List.all_cons, Bool.and_eq_true] at hc
    rcases List.mem_append.1 hu with hu | hu
    · cases c with
      | int t m =>
        obtain ⟨x, y, rfl, h3, _⟩ := h1
        obtain ⟨ao, cap, s, n, e, _⟩ := h3.open_
        injection e with e
        injection e with e
        injection e with e1 e2
        injection e2 with e2 _
        subst e1 e2
        simp only [List.mem_cons, List.not_mem_nil, or_false] at hu
        rcases hu with rfl | rfl <;> exact ⟨rfl, rfl⟩
      | _ => cases hc.1
    · exact ints_ok hc.2 h2 u hu
theorem rowX_succ (k : Nat) : rowX (k + 1) = rowX k ++ rXc k := by
  unfold rowX
  rw [List.range_succ, List.flatMap_append]
  simp
theorem rXc_ints (k : Nat) : (rXc k).all intCk = true := rfl
section
variable {B : Nat} {E : Env} {k : Nat} {w : World} {b36 : Nat} {news : List Value}
theorem append_nil (hBw : B ≤ w.heap.size) (hn : chunks E w (rXc 0) news) (hl : news.length = 12) (hcell : ∀ i u, news[i]? = some u → w.cell? ⟨b36, i, none⟩ = some u) (ty : TypeId) :
    ∃ g cap cur w', (Builtin.append_ #[28, 28] ty #[.slice none 0 0, .slice (some ⟨b36, 0, none⟩) 1 1]).run Tryz.prog w = .ok (.slice (some ⟨g, 0, none⟩) 1 cap) w' ∧ RowAt B E 1 g cap cur w' ∧ Ext w w' ∧ w.heap.size ≤ g := by
  obtain ⟨i, z, hi, hz, i1, i2, z1, z2⟩ := info_root
  have hadd : ∀ j, (⟨b36, 0, none⟩ : Addr).add j = ⟨b36, j, none⟩ := fun j => by rw [add_addr, Nat.zero_add]
  have hr := Go.run_append_nil (P := Tryz.prog) w 28 ty 35 i z Tryz.underlying28 hi hz ⟨b36, 0, none⟩ 1 1 news (by rw [hl, i1]) (fun j u hu => by rw [hadd]; exact hcell j u hu) (by omega) (by omega) (by omega)
  have ex : Ext w (w.drew.alloc (.cells (news.toArray ++ Builtin.zeroCells z.cells (grownCap w 1 0 35 - 1)) 35)) := ((Ext.refl w).drew).alloc _
  have hge := grownCap_ge w 1 0 35
  refine ⟨w.heap.size, _, _, _, hr, ⟨hBw, heap_alloc_new w.drew _, hge, grownCap_le_maxLen w 1 0 _ (by decide), ?_, ?_, ?_⟩, ex, Nat.le_refl _⟩
  · rw [Array.size_append, size_zeroCells, z1, List.size_toArray, hl]; omega
  · rw [Array.toList_append, List.toList_toArray, show 1 * 12 = news.length by rw [hl], List.take_left]
    exact chunks_keep (Kp.of ex (Nat.le_refl _)) hn
  · intro u hu
    rw [Array.toList_append, List.toList_toArray] at hu
    rcases List.mem_append.1 hu with hu | hu
    · exact (ints_ok (rXc_ints 0) hn u hu).2
    · exact nu_zeroCells (by omega) z2 _ u hu
theorem append_more (hBw : B ≤ w.heap.size) {g cap : Nat} {cur : Array Value} (hrow : RowAt B E k g cap cur w) (hk3 : k ≤ 10) (hn : chunks E w (rXc k) news) (hl : news.length = 12) (hcell : ∀ i u, news[i]? = some u → w.cell? ⟨b36, i, none⟩ = some u) (ty : TypeId) :
    ∃ g' cap' cur' w', (Builtin.append_ #[28, 28] ty #[.slice (some ⟨g, 0, none⟩) k cap, .slice (some ⟨b36, 0, none⟩) 1 1]).run Tryz.prog w = .ok (.slice (some ⟨g', 0, none⟩) (k + 1) cap') w' ∧ RowAt B E (k + 1) g' cap' cur' w' ∧ Kp B w w' ∧ w.heap.size ≤ w'.heap.size ∧ (g' = g ∨ w.heap.size ≤ g') ∧ ∀ b, b < w.heap.size → b ≠ g → w'.heap[b]? = w.heap[b]? := by
  obtain ⟨i, z, hi, hz, i1, i2, z1, z2⟩ := info_root
  have hadd : ∀ (b j : Nat), (⟨b, 0, none⟩ : Addr).add j = ⟨b, j, none⟩ := fun b j => by rw [add_addr, Nat.zero_add]
  have htl : (cur.toList.take (k * 12)).length = k * 12 := by
    rw [List.length_take, Array.length_toList, hrow.hs]
    have := Nat.mul_le_mul_right 12 hrow.hk
    omega
  have hnn : ∀ u ∈ news, u.oneCell' = true ∧ nu u = true := ints_ok (rXc_ints k) hn
  have hlen : (cur.toList.take (k * 12) ++ news).length = (k + 1) * 12 := by rw [List.length_append, htl, hl]; omega
  have hmem : ∀ u ∈ cur.toList.take (k * 12), nu u = true := fun u hu => hrow.hn u (List.mem_of_mem_take hu)
  by_cases hroom : k + 1 ≤ cap
  · have hr := run_append_room (P := Tryz.prog) w 28 ty 35 i Tryz.underlying28 hi g k cap cur hrow.hg ⟨b36, 0, none⟩ 1 1 news (by rw [hl, i1]) (fun j u hu => by rw [hadd]; exact hcell j u hu) (fun u hu => (hnn u hu).1) hroom (by rw [hl, i1, hrow.hs]; have := Nat.mul_le_mul_right 12 hroom; omega)
    rw [i1] at hr
    have kp : Kp B w (w.setRow g (cur.toList.take (k * 12) ++ news ++ cur.toList.drop (k * 12 + news.length)).toArray) := by
      refine ⟨below_setRow (Below.refl _ _) hrow.hB _, fun p x hp => ?_⟩
      by_cases hpg : p.block = g
      · exfalso
        have h1 := hp
        simp only [World.cell?, hpg, hrow.hg] at h1
        split at h1
        · cases h1
        · have := hrow.hn _ (List.mem_of_getElem? (by rwa [← Array.getElem?_toList] at h1))
          cases this
      · rw [cell_setRow_other w g _ p hpg]; exact hp
    refine ⟨g, cap, _, _, hr, ⟨hrow.hB, setRow_heap w g cur _ _ _ hrow.hg, hroom, hrow.hc, ?_, ?_, ?_⟩, kp, by simp, .inl rfl, fun b _ hb => setRow_other w g b _ hb⟩
    · rw [List.size_toArray, List.length_append, hlen, List.length_drop, Array.length_toList, hrow.hs, hl]
      have := Nat.mul_le_mul_right 12 hroom
      omega
    · rw [List.toList_toArray, ← hlen, List.take_left, rowX_succ]
      exact chunks_append (chunks_keep kp hrow.hx) (chunks_keep kp hn)
    · intro u hu
      rw [List.toList_toArray] at hu
      rcases List.mem_append.1 hu with hu | hu
      · rcases List.mem_append.1 hu with hu | hu
        · exact hmem u hu
        · exact (hnn u hu).2
      · exact hrow.hn u (List.mem_of_mem_drop hu)
  · have hcells : ∀ j u, (cur.toList.take (k * 12))[j]? = some u → w.cell? ((⟨g, 0, none⟩ : Addr).add j) = some u := by
      intro j u hu
      rw [hadd, cell_of_row w g j cur _ _ hrow.hg]
      rw [List.getElem?_take] at hu
      split at hu
      · rwa [Array.getElem?_toList] at hu
      · cases hu
    have hr := run_append_grow (P := Tryz.prog) w 28 ty 35 i z Tryz.underlying28 hi hz ⟨g, 0, none⟩ k cap (cur.toList.take (k * 12)) (by rw [htl, i1]) hcells ⟨b36, 0, none⟩ 1 1 news (by rw [hl, i1]) (fun j u hu => by rw [hadd]; exact hcell j u hu) (by omega) (by omega) (growslice_fits (by omega) (by have : (k + 1) * i.bytes ≤ 11 * 1000 := Nat.mul_le_mul (by omega) i2; omega))
    have ex : Ext w (w.drew.alloc (.cells ((cur.toList.take (k * 12)).toArray ++ news.toArray ++ Builtin.zeroCells z.cells (grownCap w (k + 1) cap 35 - (k + 1))) 35)) := ((Ext.refl w).drew).alloc _
    have kp := Kp.of ex hBw
    have hge := grownCap_ge w (k + 1) cap 35
    refine ⟨w.heap.size, _, _, _, hr, ⟨hBw, heap_alloc_new w.drew _, hge, grownCap_le_maxLen w (k + 1) cap _ (by simp only [maxLen]; omega), ?_, ?_, ?_⟩, kp, ex.size, .inr (Nat.le_refl _), fun b hb _ => ex.block b hb⟩
    · rw [Array.size_append, Array.size_append, size_zeroCells, z1, List.size_toArray, List.size_toArray, htl, hl]; omega
    · rw [Array.toList_append, Array.toList_append, List.toList_toArray, List.toList_toArray, ← hlen, List.take_left, rowX_succ]
      exact chunks_append (chunks_keep kp hrow.hx) (chunks_keep kp hn)
    · intro u hu
      rw [Array.toList_append, Array.toList_append, List.toList_toArray, List.toList_toArray] at hu
      rcases List.mem_append.1 hu with hu | hu
      · rcases List.mem_append.1 hu with hu | hu
        · exact hmem u hu
        · exact (hnn u hu).2
      · exact nu_zeroCells (by omega) z2 _ u hu
end
end Go.Proofs.YtcgkmnjfkljjlaaGreat
end

section
set_option maxRecDepth 100000
namespace Go.Proofs.YtcgkmnjfkljjlaaGreat
open Go.RowKit
def atE (E : Env) (g cap : Nat) : Env := { E with r := fun j => (false, [if j = 1000001 then g else cap]) }
def varC : Chunk → Bool
  | .n _ (.var _) => true
  | .int (.var _) _ => true
  | _ => false
theorem chunks_r {E : Env} {w : World} {g cap : Nat} : ∀ {cs : List Chunk} {vs : List Value}, cs.all varC = true → (chunks (atE E g cap) w cs vs ↔ chunks E w cs vs)
  | [], vs, _ => Iff.rfl
  | c :: cs, vs, h => by
    rw [List.all_cons, Bool.and_eq_true] at h
    have hc : ∀ l, c.holds (atE E g cap) w l ↔ c.holds E w l := by
      intro l
      cases c with
      | n k t => cases t with
        | var i => exact Iff.rfl
        | _ => cases h.1
      | int t m => cases t with
        | var i => exact Iff.rfl
        | _ => cases h.1
      | _ => cases h.1
    constructor
    · rintro ⟨l, r, e, h1, h2⟩
      exact ⟨l, r, e, (hc l).1 h1, (chunks_r h.2).1 h2⟩
    · rintro ⟨l, r, e, h1, h2⟩
      exact ⟨l, r, e, (hc l).2 h1, (chunks_r h.2).2 h2⟩
theorem rowX_var : ∀ k, (rowX k).all varC = true
  | 0 => rfl
  | k + 1 => by rw [rowX_succ, List.all_append, rowX_var k]; rfl
theorem varAt_r {E : Env} {w : World} {g cap b : Nat} {cs : List Chunk} (hc : cs.all varC = true) : VarAt (atE E g cap) w b cs ↔ VarAt E w b cs :=
  ⟨fun ⟨vs, h1, h2⟩ => ⟨vs, (chunks_r hc).1 h1, h2⟩, fun ⟨vs, h1, h2⟩ => ⟨vs, (chunks_r hc).2 h1, h2⟩⟩
theorem rowX_size : ∀ k, sizes (rowX k) = k * 12
  | 0 => rfl
  | k + 1 => by
    rw [rowX_succ, sizes_append, rowX_size k]
    show k * 12 + 12 = _
    omega
theorem RowAt.lt {B : Nat} {E : Env} {k g cap : Nat} {cur : Array Value} {w : World} (h : RowAt B E k g cap cur w) : g < w.heap.size := (Array.getElem?_eq_some_iff.1 h.hg).1
theorem RowAt.var {B : Nat} {E : Env} {k g cap : Nat} {cur : Array Value} {w : World} (h : RowAt B E k g cap cur w) : VarAt E w g (rowX k) := by
  refine ⟨_, h.hx, fun i v hv => ⟨?_, ?_⟩⟩
  · rw [cell_of_row w g i cur _ _ h.hg]
    rw [List.getElem?_take] at hv
    split at hv
    · rwa [Array.getElem?_toList] at hv
    · cases hv
  · simp [World.frozen?, h.hg]
theorem RowAt.keep {B : Nat} {E : Env} {k g cap : Nat} {cur : Array Value} {w w' : World} (h : RowAt B E k g cap cur w) (hh : w'.heap[g]? = w.heap[g]?) (hv : VarAt E w' g (rowX k)) : RowAt B E k g cap cur w' := by
  have hg' : w'.heap[g]? = some (.cells cur 35 (0, 0)) := hh.trans h.hg
  refine ⟨h.hB, hg', h.hk, h.hc, h.hs, ?_, h.hn⟩
  obtain ⟨vs, h1, h2⟩ := hv
  have hl := chunks_len h1
  rw [rowX_size] at hl
  have htl : (cur.toList.take (k * 12)).length = k * 12 := by
    rw [List.length_take, Array.length_toList, h.hs]
    have := Nat.mul_le_mul_right 12 h.hk
    omega
  have e : cur.toList.take (k * 12) = vs := by
    refine List.ext_getElem? fun i => ?_
    by_cases hi : i < k * 12
    · have hv : vs[i]? = some vs[i] := List.getElem?_eq_getElem (by omega)
      have := (h2 i _ hv).1
      rw [cell_of_row w' g i cur _ _ hg'] at this
      rw [hv, List.getElem?_take, if_pos hi, Array.getElem?_toList]
      exact this
    · rw [List.getElem?_eq_none (by omega), List.getElem?_eq_none (by omega)]
  rw [e]
  exact h1
def L3 (E : Env) (w0 : World) (k b1 : Nat) (v : Value) (w : World) : Prop := (k = 0 ∧ v = .slice none 0 0) ∨ (0 < k ∧ ∃ g cap cur, v = .slice (some ⟨g, 0, none⟩) k cap ∧ g ≠ b1 ∧ RowAt w0.heap.size E k g cap cur w)
structure RSt (E : Env) (w0 : World) (k b1 : Nat) (a : Act) (w : World) : Prop where
  t1 : a.tmps.getD 1 Go.undef = .pointer (some ⟨b1, 0, none⟩)
  bx : VarAt E w b1 cs18
  t21 : one E w (true, cs18) (a.tmps.getD 21 Go.undef)
  t22 : a.tmps.getD 22 Go.undef = .int .i64 (k : Int)
  sz : a.tmps.size = 190
  nd : a.defers = []
  hp : w0.heap.size ≤ w.heap.size
  bl : Below w0.heap.size w0 w
  t3 : L3 E w0 k b1 (a.tmps.getD 3 Go.undef) w
theorem cs18_var : cs18.all varC = true := rfl
theorem cs18_size : sizes cs18 ≠ 0 := by decide
theorem pv_zero {b : Nat} : pv b 0 = .pointer (some ⟨b, 0, none⟩) := pv_lt (by decide)
theorem sh_of {E : Env} {n : Nat} {w : World} {a : Act} {S : St} {β : Nat → Nat} (hl : ∀ t x, S.look t = some x → x.holds E β w (a.tmps.getD t Go.undef)) (hv : ∀ x cs, S.var x = some cs → ro ≤ x ∧ VarAt E w (β x) cs ∧ sizes cs ≠ 0)
    (hi : ∀ x y, (S.var x).isSome = true → (S.var y).isSome = true → β x = β y → x = y) (hw : ∀ t x off, S.look t = some (.ptr x off) → (S.var x).isSome = true) (sz : a.tmps.size = n) (nd : a.defers = []) : SH E n w.heap.size w S β a w :=
  ⟨hl, fun x cs h => ⟨fun hlt => absurd hlt (by have := (hv x cs h).1; omega), (hv x cs h).2.1⟩, hi, hw, sz, nd, Nat.le_refl _, Below.refl _ _, fun x cs h => (hv x cs h).2.2⟩
theorem sh_A0 {E : Env} {w0 w : World} {a : Act} {b1 : Nat} (h : RSt E w0 0 b1 a w) : (sRa 0).holds (atE E 0 0) 190 w.heap.size w a w := by
  refine ⟨fun _ => b1, sh_of (fun t x hx => ?_) (fun x cs hx => ?_) (fun x y hx hy _ => ?_) (fun t x off hx => ?_) h.sz h.nd⟩
  · simp only [sRa] at hx
    split at hx
    · rename_i e; subst e; injection hx with hx; subst hx
      exact AV.of_pv (by rw [pv_zero]; exact h.t1) (by decide)
    · split at hx
      · rename_i e; subst e; injection hx with hx; subst hx
        rcases h.t3 with ⟨_, e⟩ | ⟨e, _⟩
        · rw [e]; exact ⟨⟨_, [], rfl, rfl, rfl⟩, rfl⟩
        · omega
      · split at hx
        · rename_i e; subst e; injection hx with hx; subst hx
          obtain ⟨vs, e, hc⟩ := h.t21
          exact ⟨vs, e, (chunks_r cs18_var).2 hc⟩
        · split at hx
          · rename_i e; subst e; injection hx with hx; subst hx
            rw [h.t22]; exact ⟨⟨_, [], rfl, rfl, rfl⟩, rfl⟩
          · cases hx
  · simp only [sRa] at hx
    split at hx
    · rename_i e; subst e; injection hx with hx; subst hx
      exact ⟨by omega, (varAt_r cs18_var).2 h.bx, cs18_size⟩
    · split at hx
      · simp at hx
      · cases hx
  · have one : ∀ x, ((sRa 0).var x).isSome = true → x = ro + 1 := by
      intro x hx
      simp only [sRa] at hx
      split at hx
      · assumption
      · split at hx
        · simp at hx
        · simp at hx
    rw [one x hx, one y hy]
  · simp only [sRa] at hx
    split at hx
    · injection hx with hx; injection hx with e1 e2; subst e1; rfl
    · split at hx
      · simp [l3] at hx
      · split at hx
        · simp at hx
        · split at hx
          · simp at hx
          · cases hx
theorem sh_Ak {E : Env} {w0 w : World} {a : Act} {b1 k g cap : Nat} {cur : Array Value} (h : RSt E w0 k b1 a w) (hk : 0 < k) (e3 : a.tmps.getD 3 Go.undef = .slice (some ⟨g, 0, none⟩) k cap) (hgb : g ≠ b1) (hr : RowAt w0.heap.size E k g cap cur w) : (sRa k).holds (atE E g cap) 190 w.heap.size w a w := by
  have hk0 : k ≠ 0 := by omega
  have vcases : ∀ x, ((sRa k).var x).isSome = true → x = ro + 1 ∨ x = ro + 3 := by
    intro x hx
    simp only [sRa] at hx
    split at hx
    · exact .inl (by assumption)
    · split at hx
      · exact .inr (by assumption)
      · simp at hx
  refine ⟨fun x => if x = ro + 1 then b1 else g, sh_of (fun t x hx => ?_) (fun x cs hx => ?_) (fun x y hx hy e => ?_) (fun t x off hx => ?_) h.sz h.nd⟩
  · simp only [sRa] at hx
    split at hx
    · rename_i e; subst e; injection hx with hx; subst hx
      exact AV.of_pv (by rw [pv_zero]; exact h.t1) (by decide)
    · split at hx
      · rename_i e; subst e; injection hx with hx; subst hx
        unfold l3
        rw [if_neg hk0]
        refine AV.of_opn ⟨?_, rfl⟩ (by omega)
        rw [e3, Nat.add_sub_cancel_left]
        rfl
      · split at hx
        · rename_i e; subst e; injection hx with hx; subst hx
          obtain ⟨vs, e, hc⟩ := h.t21
          exact ⟨vs, e, (chunks_r cs18_var).2 hc⟩
        · split at hx
          · rename_i e; subst e; injection hx with hx; subst hx
            rw [h.t22]; exact ⟨⟨_, [], rfl, rfl, rfl⟩, rfl⟩
          · cases hx
  · simp only [sRa] at hx
    split at hx
    · rename_i e; subst e; injection hx with hx; subst hx
      exact ⟨by omega, (varAt_r cs18_var).2 h.bx, cs18_size⟩
    · split at hx
      · rename_i e; subst e
        have hx : some (rowX k) = some cs := by simpa [hk0] using hx
        injection hx with hx; subst hx
        exact ⟨by omega, (varAt_r (rowX_var k)).2 hr.var, by rw [rowX_size]; omega⟩
      · cases hx
  · rcases vcases x hx with rfl | rfl <;> rcases vcases y hy with rfl | rfl
    · rfl
    · exact absurd e.symm hgb
    · exact absurd e hgb
    · rfl
  · simp only [sRa] at hx
    split at hx
    · injection hx with hx; injection hx with e1 e2; subst e1; rfl
    · split at hx
      · injection hx with hx
        unfold l3 at hx
        rw [if_neg hk0] at hx
        injection hx with e1 e2; subst e1
        simp [sRa, hk0]
      · split at hx
        · simp at hx
        · split at hx
          · simp at hx
          · cases hx
theorem sh_B {E : Env} {w0 w : World} {a : Act} {b1 k g cap : Nat} {cur : Array Value} (hk : 0 < k) (t1 : a.tmps.getD 1 Go.undef = .pointer (some ⟨b1, 0, none⟩)) (bx : VarAt E w b1 cs18) (t21 : one E w (true, cs18) (a.tmps.getD 21 Go.undef)) (t22 : a.tmps.getD 22 Go.undef = .int .i64 ((k - 1 : Nat) : Int)) (sz : a.tmps.size = 190) (nd : a.defers = [])
    (e3 : a.tmps.getD 37 Go.undef = .slice (some ⟨g, 0, none⟩) k cap) (hgb : g ≠ b1) (hr : RowAt w0.heap.size E k g cap cur w) : (sRb k).holds (atE E g cap) 190 w.heap.size w a w := by
  have vcases : ∀ x, ((sRb k).var x).isSome = true → x = ro + 1 ∨ x = ro + 3 := by
    intro x hx
    simp only [sRb] at hx
    split at hx
    · exact .inl (by assumption)
    · split at hx
      · exact .inr (by assumption)
      · simp at hx
  refine ⟨fun x => if x = ro + 1 then b1 else g, sh_of (fun t x hx => ?_) (fun x cs hx => ?_) (fun x y hx hy e => ?_) (fun t x off hx => ?_) sz nd⟩
  · simp only [sRb] at hx
    split at hx
    · rename_i e; subst e; injection hx with hx; subst hx
      exact AV.of_pv (by rw [pv_zero]; exact t1) (by decide)
    · split at hx
      · rename_i e; subst e; injection hx with hx; subst hx
        refine AV.of_opn ⟨?_, rfl⟩ (by omega)
        rw [e3, Nat.add_sub_cancel_left]
        rfl
      · split at hx
        · rename_i e; subst e; injection hx with hx; subst hx
          obtain ⟨vs, e, hc⟩ := t21
          exact ⟨vs, e, (chunks_r cs18_var).2 hc⟩
        · split at hx
          · rename_i e; subst e; injection hx with hx; subst hx
            rw [t22]; exact ⟨⟨_, [], rfl, rfl, rfl⟩, rfl⟩
          · cases hx
  · simp only [sRb] at hx
    split at hx
    · rename_i e; subst e; injection hx with hx; subst hx
      exact ⟨by omega, (varAt_r cs18_var).2 bx, cs18_size⟩
    · split at hx
      · rename_i e; subst e
        injection hx with hx; subst hx
        exact ⟨by omega, (varAt_r (rowX_var k)).2 hr.var, by rw [rowX_size]; omega⟩
      · cases hx
  · rcases vcases x hx with rfl | rfl <;> rcases vcases y hy with rfl | rfl
    · rfl
    · exact absurd e.symm hgb
    · exact absurd e hgb
    · rfl
  · simp only [sRb] at hx
    split at hx
    · injection hx with hx; injection hx with e1 e2; subst e1; rfl
    · split at hx
      · injection hx with hx
        injection hx with e1 e2; subst e1
        simp [sRb]
      · split at hx
        · simp at hx
        · split at hx
          · simp at hx
          · cases hx
end Go.Proofs.YtcgkmnjfkljjlaaGreat
end

section
set_option maxRecDepth 100000
namespace Go.Proofs.YtcgkmnjfkljjlaaGreat
open Go.RowKit
section
variable {P : Program} {E : Env} {n B : Nat} {w0 : World} {G : Asm} {C : Cfg}
theorem runE_pre (hC : CfgAt P E C B w0) (hG : G.holds E) {ops : Array Oper} {Q : Exit → Act → World → Prop} {l2 : List Oper} : ∀ (l : List Oper) (S S' : St) (a : Act) (w : World), S.holds E n B w0 a w → runE C G n ops l S = some S' →
    (∀ a' w', S'.holds E n B w0 a' w' → wpList P ops Q l2 a' w') → wpList P ops Q (l ++ l2) a w
  | [], S, S', a, w, h, hr, hQ => by
    simp only [runE] at hr
    injection hr with hr
    subst hr
    exact hQ a w h
  | o :: l, S, S', a, w, h, hr, hQ => by
    unfold runE at hr
    split at hr
    · rename_i e he
      exact wpList_step fun K hK => effE_sound hC hG h he K Q (fun a' w' h' => hK _ _ (runE_pre hC hG l _ S' a' w' h' hr hQ))
    · cases hr
theorem wp_app {o : Oper} {a : Act} {w w' : World} {K : Act → World → Prop} {Q : Exit → Act → World → Prop} {s x : Operand} {t : TypeId} {v : Value} (ho : o.op = .call { callee := .builtin .append, args := #[s, x], argTypes := #[t, t] })
    (hr : (Builtin.append_ #[t, t] o.type #[a.eval s, a.eval x]).run P w = .ok v w') (h : K (a.put o.dst v) w') : o.wp P a w K Q := by
  unfold Oper.wp execOp
  simp only [ho, resolve, invoke, builtin, Sem.run_bind, Sem.run_pure, Result.andThen_ok, List.map_toArray, List.map_cons, List.map_nil, hr]
  exact h
end
theorem o4_lt : 4 < rlO.length := of_decide_eq_true (by kernel_rfl)
noncomputable def o4 : Oper := rlO[4]'o4_lt
theorem o4_cons : rlO.drop 4 = o4 :: rlO.drop 5 := List.drop_eq_getElem_cons o4_lt
theorem o4_dst : o4.dst = some 37 := by kernel_rfl
theorem o4_guard : o4.guard = none := by kernel_rfl
theorem o4_op : o4.op = .call { callee := .builtin .append, args := #[.tmp 33, .tmp 36], argTypes := #[28, 28] } := by kernel_rfl
theorem sm_some {o : Option Tree} (h : isSm o = true) : ∃ T, o = some T := by
  cases o with
  | none => cases h
  | some T => exact ⟨T, rfl⟩
theorem fin1_ok {b : Bool} {T : Tree} (h : fin1 b = some T) : b = true := by
  unfold fin1 at h
  split at h
  · assumption
  · cases h
theorem okRb_spec {k : Nat} {S : St} (h : okRb k S = true) : S.look 1 = some (.ptr (ro + 1) 0) ∧ S.look 21 = some (.val true cs18) ∧ S.look 22 = some (.val false [.n .i64 (.lit (k : Int))]) ∧ S.var (ro + 1) = some cs18 ∧ (0 < k → S.var (ro + 3) = some (rowX k)) := by
  simp only [okRb, Bool.and_eq_true] at h
  obtain ⟨h1, h2, h3, h4, h5⟩ := h
  refine ⟨isPt1_eq h1, isAgV_eq h2, isLt1_eq h3, isVr_eq h4, fun hk => ?_⟩
  rw [if_neg (by omega)] at h5
  exact isVr_eq h5
theorem lit_out {E : Env} {β : Nat → Nat} {w : World} {z : Int} {v : Value} (h : (AV.val false [.n .i64 (.lit z)]).holds E β w v) : v = .int .i64 z := one_num.1 h
theorem rst_of {E : Env} {w0 w w' : World} {k g cap : Nat} {cur : Array Value} {a : Act} {S : St} (hk : 0 < k) (hS : S.holds (atE E g cap) 190 w.heap.size w a w') (hok : okRc k S = true) (hr : RowAt w0.heap.size E k g cap cur w) (hp : w0.heap.size ≤ w.heap.size) (hb : Below w0.heap.size w0 w) : ∃ b, RSt E w0 k b a w' := by
  unfold okRc at hok
  rw [Bool.and_eq_true] at hok
  obtain ⟨k1, k21, k22, kv1, kv3⟩ := okRb_spec hok.1
  have k3 := is3_eq hok.2
  unfold l3 at k3
  rw [if_neg (by omega)] at k3
  obtain ⟨β, h⟩ := hS
  have t3 := AV.opn_of (h.sl 3 _ k3) (by omega)
  obtain ⟨t3a, t3b⟩ := t3
  have t3b' : β (ro + 3) = g := t3b
  have vb := h.vr _ _ kv1
  have vr := h.vr _ _ (kv3 hk)
  rw [t3b'] at t3a vr
  have hne : g ≠ β (ro + 1) := fun e => by
    have := h.inj (ro + 3) (ro + 1) (by rw [kv3 hk]; rfl) (by rw [kv1]; rfl) (t3b'.trans e)
    omega
  refine ⟨β (ro + 1), ⟨(AV.pv_of (h.sl 1 _ k1) (by decide)).trans pv_zero, (varAt_r cs18_var).1 vb.2, ?_, lit_out (h.sl 22 _ k22), h.sz, h.nd, Nat.le_trans hp h.hp, hb.trans (Below.mono h.bl hp), .inr ⟨hk, g, cap, cur, ?_, hne, hr.keep (h.bl.block g hr.lt) ((varAt_r (rowX_var k)).1 vr.2)⟩⟩⟩
  · obtain ⟨vs, e, hc⟩ := h.sl 21 _ k21
    exact ⟨vs, e, (chunks_r cs18_var).1 hc⟩
  · rw [t3a, Nat.add_sub_cancel_left]
    rfl
theorem round_ok {E : Env} {w0 : World} (hC : ∀ g cap, CfgOK Tryz.prog (atE E g cap) cPre) {k : Nat} (hk : k < 3) {b1 : Nat} {a : Act} {w : World} (h : RSt E w0 k b1 a w) {Q : Exit → Act → World → Prop} (hQ : ∀ b a' w', RSt E w0 (k + 1) b a' w' → Q .normal a' w') : rlX.wp Tryz.prog Q a w := by
  obtain ⟨g, cap, hS, hL⟩ : ∃ g cap, (sRa k).holds (atE E g cap) 190 w.heap.size w a w ∧ (k = 0 ∨ (0 < k ∧ ∃ cur, RowAt w0.heap.size E k g cap cur w)) := by
    rcases h.t3 with ⟨rfl, e⟩ | ⟨hk0, g, cap, cur, e, hne, hr⟩
    · exact ⟨0, 0, sh_A0 h, .inl rfl⟩
    · exact ⟨g, cap, sh_Ak h hk0 e hne hr, .inr ⟨hk0, cur, hr⟩⟩
  have hCA : CfgAt Tryz.prog (atE E g cap) cPre w.heap.size w := ⟨hC g cap, fun _ _ => trivial⟩
  have hmem : k ∈ [0, 1, 2] := by
    rcases (by omega : k = 0 ∨ k = 1 ∨ k = 2) with rfl | rfl | rfl <;> decide
  obtain ⟨T, hT⟩ := sm_some (List.all_eq_true.1 wRa_ok k hmem)
  unfold wRa at hT
  unfold rlX
  refine wp_seq (exec_sound mixed hCA rl5 _ _ [] (sRa k) T a w no_asm hS hT ?_)
  intro G1 S1 e1 T1 h1 hG1 _ a1 w1 hS1
  cases e1 with
  | ret => cases h1
  | exit id => cases h1
  | norm =>
  refine wp_seq (exec_sound mixed hCA rlC _ _ G1 S1 T1 a1 w1 hG1 hS1 h1 ?_)
  intro G2 S2 e2 T2 h2 hG2 _ a2 w2 hS2
  cases e2 with
  | ret => cases h2
  | exit id => cases h2
  | norm =>
  refine wp_seq (wp_block (wp_seq (exec_sound mixed hCA rl6 _ _ G2 S2 T2 a2 w2 hG2 hS2 h2 ?_)))
  intro G3 S3 e3 T3 h3 hG3 _ a3 w3 hS3
  cases e3 with
  | ret => cases h3
  | exit id => cases h3
  | norm =>
  refine wp_seq (exec_sound mixed hCA rl7 _ _ G3 S3 T3 a3 w3 hG3 hS3 h3 ?_)
  intro G4 S4 e4 T4 h4 hG4 _ a4 w4 hS4
  cases e4 with
  | ret => cases h4
  | exit id => cases h4
  | norm =>
  have h4' : (match runE cPre G4 190 rlO.toArray (rlO.take 4) S4 with | some S' => fin1 (okRa k S') | none => none) = some T4 := h4
  split at h4'
  rotate_left
  · cases h4'
  rename_i S5 hrun
  have hok := fin1_ok h4'
  rw [rl8_eq]
  refine wp_region_lit ?_
  have hsplit : rlO.take 4 ++ (o4 :: rlO.drop 5) = rlO := by rw [← o4_cons]; exact List.take_append_drop 4 rlO
  have goal : ∀ {QQ : Exit → Act → World → Prop}, (∀ a7 w7, (rl9.wp Tryz.prog Q a7 w7) → QQ .normal a7 w7) → wpList Tryz.prog rlO.toArray QQ (rlO.take 4 ++ (o4 :: rlO.drop 5)) a4 w4 := by
    intro QQ hQQ
    refine runE_pre hCA hG4 (rlO.take 4) S4 S5 a4 w4 hS4 hrun fun a5 w5 hS5 => ?_
    simp only [okRa, Bool.and_eq_true] at hok
    obtain ⟨hob, h33, h36, hv36⟩ := hok
    obtain ⟨k1, k21, k22, kv1, kv3⟩ := okRb_spec hob
    have k33 := is3_eq h33
    have k36 := isPt1_eq h36
    have kv36 := isVr_eq hv36
    obtain ⟨β, s⟩ := hS5
    have vb := s.vr _ _ kv1
    have v36 := s.vr _ _ kv36
    have t36 : a5.tmps.getD 36 Go.undef = .slice (some ⟨β 36, 0, none⟩) 1 1 := by
      refine (AV.pv_of (s.sl 36 _ k36) (by decide)).trans ?_
      unfold pv
      rw [if_neg (by omega), Nat.add_sub_cancel_left]
    obtain ⟨news, hn, hcell⟩ := v36.2
    have hn' : chunks E w5 (rXc k) news := (chunks_r rfl).1 hn
    have hnl : news.length = 12 := chunks_len hn'
    have hbw : β (ro + 1) < w5.heap.size := chunk_lt vb.2 cs18_size
    have hBw : w0.heap.size ≤ w5.heap.size := Nat.le_trans h.hp s.hp
    obtain ⟨g', cap', cur', w6, hr6, hrow, hkp, hsz, hne, hheap⟩ : ∃ g' cap' cur' w6, (Builtin.append_ #[28, 28] o4.type #[a5.eval (.tmp 33), a5.eval (.tmp 36)]).run Tryz.prog w5 = .ok (.slice (some ⟨g', 0, none⟩) (k + 1) cap') w6 ∧ RowAt w0.heap.size E (k + 1) g' cap' cur' w6 ∧ Kp w0.heap.size w5 w6 ∧ w5.heap.size ≤ w6.heap.size ∧ g' ≠ β (ro + 1) ∧ w6.heap[β (ro + 1)]? = w5.heap[β (ro + 1)]? := by
      have e36 : a5.eval (.tmp 36) = .slice (some ⟨β 36, 0, none⟩) 1 1 := t36
      rw [e36]
      rcases hL with rfl | ⟨hk0, cur, hr⟩
      · have e33 : a5.eval (.tmp 33) = .slice none 0 0 := by
          obtain ⟨⟨l1, r1, e, c1, c2⟩, _⟩ := s.sl 33 _ k33
          simp only [Chunk.holds] at c1
          simp only [chunks] at c2
          subst c1 c2
          injection e with e
        rw [e33]
        obtain ⟨g', cap', cur', w6, x1, x2, x3, x4⟩ := append_nil (B := w0.heap.size) (E := E) hBw hn' hnl (fun i u hu => (hcell i u hu).1) o4.type
        exact ⟨g', cap', cur', w6, x1, x2, Kp.of x3 hBw, x3.size, by omega, x3.block _ hbw⟩
      · have k33' := k33
        unfold l3 at k33'
        rw [if_neg (by omega)] at k33'
        obtain ⟨t3a, t3b⟩ := AV.opn_of (s.sl 33 _ k33') (by omega)
        have t3b' : β (ro + 3) = g := t3b
        have vr := s.vr _ _ (kv3 hk0)
        rw [t3b'] at t3a vr
        have hgb : g ≠ β (ro + 1) := fun e => by
          have := s.inj (ro + 3) (ro + 1) (by rw [kv3 hk0]; rfl) (by rw [kv1]; rfl) (t3b'.trans e)
          omega
        have e33 : a5.eval (.tmp 33) = .slice (some ⟨g, 0, none⟩) k cap := by
          refine Eq.trans t3a ?_
          rw [Nat.add_sub_cancel_left]
          rfl
        have hr5 := hr.keep (s.bl.block g hr.lt) ((varAt_r (rowX_var k)).1 vr.2)
        rw [e33]
        obtain ⟨g', cap', cur', w6, x1, x2, x3, x4, x5, x6⟩ := append_more (B := w0.heap.size) (E := E) hBw hr5 (by omega) hn' hnl (fun i u hu => (hcell i u hu).1) o4.type
        refine ⟨g', cap', cur', w6, x1, x2, x3, x4, ?_, x6 _ hbw (fun e => hgb e.symm)⟩
        rcases x5 with rfl | x5
        · exact hgb
        · omega
    refine wpList_step fun K hK => ?_
    rw [if_pos (by simp [Region.wanted, o4_guard])]
    refine wp_app o4_op hr6 (hK _ _ ?_)
    rw [o4_dst]
    have pg : ∀ t, t ≠ 37 → (a5.put (some 37) (.slice (some ⟨g', 0, none⟩) (k + 1) cap')).tmps.getD t Go.undef = a5.tmps.getD t Go.undef := fun t ht => by
      rw [put_getD (by rw [s.sz]; decide), if_neg (fun e => ht e.symm)]
    have hbx : VarAt E w6 (β (ro + 1)) cs18 := by
      obtain ⟨vs, c1, c2⟩ := (varAt_r cs18_var).1 vb.2
      refine ⟨vs, chunks_keep hkp c1, fun i v hi => ?_⟩
      obtain ⟨d1, d2⟩ := c2 i v hi
      exact ⟨(World.cell?_of_block (w := w5) (w' := w6) (a := ⟨β (ro + 1), i, none⟩) hheap).trans d1, (World.frozen?_of_block (w := w5) (w' := w6) (a := ⟨β (ro + 1), i, none⟩) hheap).trans d2⟩
    have hS6 := sh_B (E := E) (w0 := w0) (w := w6) (a := a5.put (some 37) (.slice (some ⟨g', 0, none⟩) (k + 1) cap')) (b1 := β (ro + 1)) (k := k + 1) (by omega) (by rw [pg 1 (by omega)]; exact (AV.pv_of (s.sl 1 _ k1) (by decide)).trans pv_zero) hbx
      (by
        rw [pg 21 (by omega)]
        obtain ⟨vs, e, hc⟩ := s.sl 21 _ k21
        exact ⟨vs, e, chunks_keep hkp ((chunks_r cs18_var).1 hc)⟩)
      (by rw [pg 22 (by omega), Nat.add_sub_cancel]; exact lit_out (s.sl 22 _ k22)) (by rw [put_size]; exact s.sz) (by rw [put_defers]; exact s.nd)
      (by rw [put_getD (by rw [s.sz]; decide), if_pos rfl]) hne hrow
    have hCB : CfgAt Tryz.prog (atE E g' cap') cPre w6.heap.size w6 := ⟨hC g' cap', fun _ _ => trivial⟩
    have hmem2 : k + 1 ∈ [1, 2, 3] := by
      rcases (by omega : k = 0 ∨ k = 1 ∨ k = 2) with rfl | rfl | rfl <;> decide
    obtain ⟨T6, hT6⟩ := sm_some (List.all_eq_true.1 wRb_ok (k + 1) hmem2)
    unfold wRb at hT6
    split at hT6
    rotate_left
    · cases hT6
    rename_i S7 hrun7
    refine runE_sound hCB no_asm (rlO.drop 5) (sRb (k + 1)) S7 _ w6 hS6 hrun7 fun a7 w7 hS7 => hQQ a7 w7 ?_
    refine exec_sound mixed hCB rl9 _ _ [] S7 T6 a7 w7 no_asm hS7 hT6 ?_
    intro G8 S8 e8 T8 h8 hG8 _ a8 w8 hS8
    cases e8 with
    | ret => cases h8
    | exit id => cases h8
    | norm =>
    have hb6 : Below w0.heap.size w0 w6 := (h.bl.trans (Below.mono s.bl h.hp)).trans hkp.below
    obtain ⟨b, hb⟩ := rst_of (by omega) hS8 (fin1_ok h8) hrow (Nat.le_trans hBw hsz) hb6
    exact hQ b a8 w8 hb
  rw [hsplit] at goal
  exact goal fun a7 w7 h7 => h7
end Go.Proofs.YtcgkmnjfkljjlaaGreat
end

section
set_option maxRecDepth 100000
namespace Go.Proofs.YtcgkmnjfkljjlaaGreat
open Go.RowKit
theorem tabRF_ok {E : Env} {a0 b0 a1 b1 a2 b2 C : Rat} (lC : LimQ 20 C) (l0 : LimP 20 a0 b0) (l1 : LimP 20 a1 b1) (l2 : LimP 20 a2 b2)
    (x0 : RX E 0 a0 b0 C) (x1 : RX E 1 a1 b1 C) (x2 : RX E 2 a2 b2 C) (x3 : RX E 3 (a0 + a1) (b0 + b1) C) (x4 : RX E 4 (a0 + a1 + a2) (b0 + b1 + b2) C) (x5 : RX E 5 (a1 + a2) (b1 + b2) C) (x6 : RX E 6 (a0 + (a1 + a2)) (b0 + (b1 + b2)) C)
    (x7 : RX E 7 (a0 * a1 + b0 * b1 * C) (a0 * b1 + b0 * a1) C) (x8 : RX E 8 ((a0 * a1 + b0 * b1 * C) * a2 + (a0 * b1 + b0 * a1) * b2 * C) ((a0 * a1 + b0 * b1 * C) * b2 + (a0 * b1 + b0 * a1) * a2) C)
    (x9 : RX E 9 (a1 * a2 + b1 * b2 * C) (a1 * b2 + b1 * a2) C) (x10 : RX E 10 (a0 * (a1 * a2 + b1 * b2 * C) + b0 * (a1 * b2 + b1 * a2) * C) (a0 * (a1 * b2 + b1 * a2) + b0 * (a1 * a2 + b1 * b2 * C)) C)
    (x11 : RX E 11 (a0 * (a1 + a2) + b0 * (b1 + b2) * C) (a0 * (b1 + b2) + b0 * (a1 + a2)) C) (x12 : RX E 12 (a0 * a2 + b0 * b2 * C) (a0 * b2 + b0 * a2) C)
    (x13 : RX E 13 (a0 * a1 + b0 * b1 * C + (a0 * a2 + b0 * b2 * C)) (a0 * b1 + b0 * a1 + (a0 * b2 + b0 * a2)) C) : TabOK Tryz.prog E tabRF := by
  have l3 : LimP 81 (a0 + a1) (b0 + b1) := l0.add l1
  have l4 : LimP 325 (a0 + a1 + a2) (b0 + b1 + b2) := l3.add (l2.mono (by omega))
  have l5 : LimP 81 (a1 + a2) (b1 + b2) := l1.add l2
  have l6 : LimP 325 (a0 + (a1 + a2)) (b0 + (b1 + b2)) := (l0.mono (by omega)).add l5
  have l7 : LimP 1301 (a0 * a1 + b0 * b1 * C) (a0 * b1 + b0 * a1) := l0.mul l1 lC
  have l9 : LimP 1301 (a1 * a2 + b1 * b2 * C) (a1 * b2 + b1 * a2) := l1.mul l2 lC
  have l12 : LimP 1301 (a0 * a2 + b0 * b2 * C) (a0 * b2 + b0 * a2) := l0.mul l2 lC
  have l8 := (l7.mul (l2.mono (by omega)) (lC.mono (by omega))).mono (m := 90000) (by omega)
  have l10 := ((l0.mono (m := 1301) (by omega)).mul l9 (lC.mono (by omega))).mono (m := 90000) (by omega)
  have l11 := ((l0.mono (m := 81) (by omega)).mul l5 (lC.mono (by omega))).mono (m := 90000) (by omega)
  have l13 := (l7.add l12).mono (m := 90000) (by omega)
  have y6 : RX E 6 (a0 + a1 + a2) (b0 + b1 + b2) C := by rwa [show a0 + a1 + a2 = a0 + (a1 + a2) by grind, show b0 + b1 + b2 = b0 + (b1 + b2) by grind]
  have y10 : RX E 10 ((a0 * a1 + b0 * b1 * C) * a2 + (a0 * b1 + b0 * a1) * b2 * C) ((a0 * a1 + b0 * b1 * C) * b2 + (a0 * b1 + b0 * a1) * a2) C := by
    rwa [show (a0 * a1 + b0 * b1 * C) * a2 + (a0 * b1 + b0 * a1) * b2 * C = a0 * (a1 * a2 + b1 * b2 * C) + b0 * (a1 * b2 + b1 * a2) * C by grind, show (a0 * a1 + b0 * b1 * C) * b2 + (a0 * b1 + b0 * a1) * a2 = a0 * (a1 * b2 + b1 * a2) + b0 * (a1 * a2 + b1 * b2 * C) by grind]
  have y13 : RX E 13 (a0 * (a1 + a2) + b0 * (b1 + b2) * C) (a0 * (b1 + b2) + b0 * (a1 + a2)) C := by
    rwa [show a0 * (a1 + a2) + b0 * (b1 + b2) * C = a0 * a1 + b0 * b1 * C + (a0 * a2 + b0 * b2 * C) by grind, show a0 * (b1 + b2) + b0 * (a1 + a2) = a0 * b1 + b0 * a1 + (a0 * b2 + b0 * a2) by grind]
  have fA : ∃ fn, Tryz.prog.funcs[14]? = some fn ∧ fn.name ≠ "runtime.NumGoroutine" ∧ fn.body.isNone = false := ⟨_, Tryz.func14, by decide +kernel, by kernel_rfl⟩
  have fM : ∃ fn, Tryz.prog.funcs[16]? = some fn ∧ fn.name ≠ "runtime.NumGoroutine" ∧ fn.body.isNone = false := ⟨_, Tryz.func16, by decide +kernel, by kernel_rfl⟩
  have fS : ∃ fn, Tryz.prog.funcs[15]? = some fn ∧ fn.name ≠ "runtime.NumGoroutine" ∧ fn.body.isNone = false := ⟨_, Tryz.func15, by decide +kernel, by kernel_rfl⟩
  have u : ∀ {m n : Nat} {a b : Rat}, LimP m a b → m ≤ n → LimP n a b := fun h k => h.mono k
  refine .cons (kKr_ok (add_known x0 x1 x3 (u l0 (by omega)) (u l1 (by omega)) (u l3 (by omega)) lC) <|
      kKr_ok (add_known x3 x2 x4 (u l3 (by omega)) (u l2 (by omega)) (u l4 (by omega)) lC) <|
      kKr_ok (add_known x1 x2 x5 (u l1 (by omega)) (u l2 (by omega)) (u l5 (by omega)) lC) <|
      kKr_ok (add_known x0 x5 x6 (u l0 (by omega)) (u l5 (by omega)) (u l6 (by omega)) lC) <|
      kKr_ok (add_known x7 x12 x13 (u l7 (by omega)) (u l12 (by omega)) l13 lC) (kNoQ_ok fA)) <|
    .cons (kKr_ok (mul_known x0 x1 x7 (u l0 (by omega)) (u l1 (by omega)) (u l7 (by omega)) lC) <|
      kKr_ok (mul_known x7 x2 x8 (u l7 (by omega)) (u l2 (by omega)) l8 lC) <|
      kKr_ok (mul_known x1 x2 x9 (u l1 (by omega)) (u l2 (by omega)) (u l9 (by omega)) lC) <|
      kKr_ok (mul_known x0 x9 x10 (u l0 (by omega)) (u l9 (by omega)) l10 lC) <|
      kKr_ok (mul_known x0 x5 x11 (u l0 (by omega)) (u l5 (by omega)) l11 lC) <|
      kKr_ok (mul_known x0 x2 x12 (u l0 (by omega)) (u l2 (by omega)) (u l12 (by omega)) lC) (kNoQ_ok fM)) <|
    .cons (kKr_ok (same_known x4 y6 (u l4 (by omega)) lC) <|
      kKr_ok (same_known x8 y10 l8 lC) <|
      kKr_ok (same_known x11 y13 l11 lC) (kNoQ_ok fS)) .nil
theorem sd_out {E : Env} {β : Nat → Nat} {w : World} {k : Nat} {v : Value} (h : (AV.val true (sdF k)).holds E β w v) : v = surdV (E.i (84 + 12 * k)) (E.i (86 + 12 * k)) (E.i 88) (E.i (90 + 12 * k)) (E.i (92 + 12 * k)) (E.i 94) := by
  obtain ⟨vs, rfl, x0, r0, rfl, h0, x1, r1, rfl, h1, x2, r2, rfl, h2, x3, r3, rfl, h3, x4, r4, rfl, h4, x5, r5, rfl, h5, hn⟩ := h
  simp only [Chunk.holds] at h0 h1 h2 h3 h4 h5
  simp only [chunks] at hn
  subst h0 h1 h2 h3 h4 h5 hn
  rfl
theorem of3_known {E : Env} {k : Nat} {a b C : Rat} (rx : RX E k a b C) (l : LimP 90000 a b) (lC : LimQ 20 C) (hm : ∀ w : World, Calls Tryz.prog 13 #[surdV (E.i (84 + 12 * k)) (E.i (86 + 12 * k)) (E.i 88) (E.i (90 + 12 * k)) (E.i (92 + 12 * k)) (E.i 94)] w (Ret (fun x w' => IsRoot w' x a b (rC b C)) w)) : KnownR E 13 (isSd k) (.val true (rXc k)) := by
  refine ⟨?_, fun x off e => by cases e⟩
  intro args hc β w vs hv hl
  unfold isSd at hc
  split at hc
  · rename_i cs
    have e := lceq_eq hc
    subst e
    obtain ⟨v, rfl, k1⟩ := args1 hv hl
    have e := sd_out (k := k) k1
    subst e
    refine (hm w).mono ?_
    rintro e w' ⟨x, rfl, hx, ex⟩
    exact ⟨x, rfl, fun β => (one_root rx.1 rx.2.1 rx.2.2).2 ⟨hx, l.root (lC.mono (by omega)) (by omega)⟩, ex⟩
  · cases hc
theorem cPre_ok {E : Env} (k0 : KnownR E 13 (isSd 0) (.val true (rXc 0))) (k1 : KnownR E 13 (isSd 1) (.val true (rXc 1))) (k2 : KnownR E 13 (isSd 2) (.val true (rXc 2))) : CfgOK Tryz.prog E cPre :=
  cfgAr_ok (cfgAg3_ok (cfg_ok (.cons kAw_ok (.cons (kKr_ok k0 <| kKr_ok k1 <| kKr_ok k2 (kNoQ_ok ⟨_, Tryz.func13, by decide +kernel, by kernel_rfl⟩)) .nil)))) arrS3_ok
theorem rC_of {b c C : Rat} (R : Rd b c) (h : b ≠ 0 → c = C) : c = rC b C := by
  by_cases hb : b = 0
  · subst hb
    rw [rC_zero]
    rcases R with ⟨_, h⟩ | ⟨h, _⟩
    · exact h
    · exact absurd rfl h
  · rw [rC_ne hb]; exact h hb
theorem rf_results : Tryz.f3.results = #[.tmp 2] := by kernel_rfl
theorem rf_ntmps : Tryz.f3.ntmps = 190 := by kernel_rfl
theorem rest_ok {E : Env} {w0 : World} (hT : ∀ g cap, TabOK Tryz.prog (atE E g cap) tabRF) {b1 : Nat} {a : Act} {w : World} (h : RSt E w0 3 b1 a w) {Q : Exit → Act → World → Prop} (hQ : ∀ a' w', a'.defers = [] → a'.tmps.getD 2 Go.undef = .bool true → Below w0.heap.size w0 w' → Q .ret a' w') : rf4.wp Tryz.prog Q a w := by
  rcases h.t3 with ⟨e, _⟩ | ⟨hk, g, cap, cur, e3, hne, hr⟩
  · omega
  have hCA : CfgAt Tryz.prog (atE E g cap) (cfgOf tabRF) w.heap.size w := ⟨cfg_ok (hT g cap), fun _ _ => trivial⟩
  have hS : sRest.holds (atE E g cap) 190 w.heap.size w a w := by
    refine ⟨fun _ => g, sh_of (fun t x hx => ?_) (fun x cs hx => ?_) (fun x y hx hy _ => ?_) (fun t x off hx => ?_) h.sz h.nd⟩
    · simp only [sRest] at hx
      split at hx
      · rename_i e; subst e; injection hx with hx; subst hx
        refine AV.of_opn ⟨?_, rfl⟩ (by omega)
        rw [e3]
        rfl
      · cases hx
    · simp only [sRest] at hx
      split at hx
      · rename_i e; subst e; injection hx with hx; subst hx
        exact ⟨by omega, (varAt_r (rowX_var 3)).2 hr.var, by decide⟩
      · cases hx
    · have one : ∀ x, (sRest.var x).isSome = true → x = ro + 3 := by
        intro x hx
        simp only [sRest] at hx
        split at hx
        · assumption
        · simp at hx
      rw [one x hx, one y hy]
    · simp only [sRest] at hx
      split at hx
      · injection hx with hx; injection hx with e1 e2; subst e1; rfl
      · cases hx
  obtain ⟨T, hT⟩ := sm_some rest_walk
  unfold restW at hT
  refine exec_sound mixed hCA rf4 _ _ [] sRest T a w no_asm hS hT ?_
  intro G1 S1 e1 T1 h1 hG1 _ a1 w1 hS1
  cases e1 with
  | norm => cases h1
  | exit id => cases h1
  | ret =>
  have h1' : (if isTru1 (S1.look 2) then some (Tree.leaf [(false, [.b (.lit true)])]) else none) = some T1 := h1
  split at h1'
  rotate_left
  · cases h1'
  rename_i hok
  obtain ⟨β, s⟩ := hS1
  refine hQ a1 w1 s.nd ?_ (h.bl.trans (Below.mono s.bl h.hp))
  unfold isTru1 at hok
  split at hok
  · rename_i t ht
    rw [beq_iff_eq] at hok
    have := one_bool.1 (s.sl 2 _ ht)
    rw [BT.ev_spec no_asm hok] at this
    exact this
  · cases hok
theorem loop_ok {E : Env} {w0 : World} (hC : ∀ g cap, CfgOK Tryz.prog (atE E g cap) cPre) (hT : ∀ g cap, TabOK Tryz.prog (atE E g cap) tabRF) {b1 : Nat} {a : Act} {w : World} (h : RSt E w0 0 b1 a w) {Q : Exit → Act → World → Prop} (hQ : ∀ a' w', a'.defers = [] → a'.tmps.getD 2 Go.undef = .bool true → Below w0.heap.size w0 w' → Q .ret a' w') : (Code.block 0 (.loop rlX)).wp Tryz.prog (Exit.then (rf4.wp Tryz.prog Q) Q) a w := by
  refine wp_block (wp_loop_rounds 4 ?_)
  rw [rounds_succ]
  refine round_ok hC (by omega) h fun b2 a2 w2 h2 => ?_
  show Code.rounds _ _ _ 3 a2 w2
  rw [rounds_succ]
  refine round_ok hC (by omega) h2 fun b3 a3 w3 h3 => ?_
  show Code.rounds _ _ _ 2 a3 w3
  rw [rounds_succ]
  refine round_ok hC (by omega) h3 fun b4 a4 w4 h4 => ?_
  show Code.rounds _ _ _ 1 a4 w4
  rw [rounds_succ]
  rcases h4.t3 with ⟨e, _⟩ | ⟨hk, g, cap, cur, e3, hne, hr⟩
  · omega
  have hCA : CfgAt Tryz.prog (atE E g cap) cPre w4.heap.size w4 := ⟨hC g cap, fun _ _ => trivial⟩
  have hS := sh_Ak h4 hk e3 hne hr
  obtain ⟨T, hT'⟩ := sm_some wRe_ok
  unfold wRe at hT'
  unfold rlX
  refine wp_seq (exec_sound mixed hCA rl5 _ _ [] (sRa 3) T a4 w4 no_asm hS hT' ?_)
  intro G1 S1 e1 T1 h1 hG1 _ a5 w5 hS1
  cases e1 with
  | ret => cases h1
  | exit id => cases h1
  | norm =>
  refine wp_seq (exec_sound mixed hCA rlC _ _ G1 S1 T1 a5 w5 hG1 hS1 h1 ?_)
  intro G2 S2 e2 T2 h2' hG2 _ a6 w6 hS2
  cases e2 with
  | norm => cases h2'
  | ret => cases h2'
  | exit id =>
  have hid : id = 0 := by
    match id, h2' with
    | 0, _ => rfl
    | _ + 1, h2' => cases h2'
  subst hid
  obtain ⟨b6, h6⟩ := rst_of hk hS2 (fin1_ok h2') hr h4.hp h4.bl
  exact rest_ok hT h6 hQ
end Go.Proofs.YtcgkmnjfkljjlaaGreat
end

section
set_option maxRecDepth 100000
namespace Go.Proofs.YtcgkmnjfkljjlaaGreat
open Go.RowKit
def surds3 (A0 B0 C0 D0 E0 F0 A1 B1 C1 D1 E1 F1 A2 B2 C2 D2 E2 F2 : Int) : Value := .agg #[.int .i16 A0, .int .i16 B0, .int .u16 C0, .int .u8 D0, .int .u8 E0, .int .u8 F0, .int .i16 A1, .int .i16 B1, .int .u16 C1, .int .u8 D1, .int .u8 E1, .int .u8 F1, .int .i16 A2, .int .i16 B2, .int .u16 C2, .int .u8 D2, .int .u8 E2, .int .u8 F2]
def rfL (a0 b0 a1 b1 a2 b2 C : Rat) (l : List Rat) : List Rat :=
  a0 :: b0 :: rC b0 C :: a1 :: b1 :: rC b1 C :: a2 :: b2 :: rC b2 C :: (a0 + a1) :: (b0 + b1) :: rC (b0 + b1) C :: (a0 + a1 + a2) :: (b0 + b1 + b2) :: rC (b0 + b1 + b2) C ::
  (a1 + a2) :: (b1 + b2) :: rC (b1 + b2) C :: (a0 + (a1 + a2)) :: (b0 + (b1 + b2)) :: rC (b0 + (b1 + b2)) C ::
  (a0 * a1 + b0 * b1 * C) :: (a0 * b1 + b0 * a1) :: rC (a0 * b1 + b0 * a1) C ::
  ((a0 * a1 + b0 * b1 * C) * a2 + (a0 * b1 + b0 * a1) * b2 * C) :: ((a0 * a1 + b0 * b1 * C) * b2 + (a0 * b1 + b0 * a1) * a2) :: rC ((a0 * a1 + b0 * b1 * C) * b2 + (a0 * b1 + b0 * a1) * a2) C ::
  (a1 * a2 + b1 * b2 * C) :: (a1 * b2 + b1 * a2) :: rC (a1 * b2 + b1 * a2) C ::
  (a0 * (a1 * a2 + b1 * b2 * C) + b0 * (a1 * b2 + b1 * a2) * C) :: (a0 * (a1 * b2 + b1 * a2) + b0 * (a1 * a2 + b1 * b2 * C)) :: rC (a0 * (a1 * b2 + b1 * a2) + b0 * (a1 * a2 + b1 * b2 * C)) C ::
  (a0 * (a1 + a2) + b0 * (b1 + b2) * C) :: (a0 * (b1 + b2) + b0 * (a1 + a2)) :: rC (a0 * (b1 + b2) + b0 * (a1 + a2)) C ::
  (a0 * a2 + b0 * b2 * C) :: (a0 * b2 + b0 * a2) :: rC (a0 * b2 + b0 * a2) C ::
  (a0 * a1 + b0 * b1 * C + (a0 * a2 + b0 * b2 * C)) :: (a0 * b1 + b0 * a1 + (a0 * b2 + b0 * a2)) :: rC (a0 * b1 + b0 * a1 + (a0 * b2 + b0 * a2)) C :: l
theorem rootField_calls (w : World) (A0 B0 C0 D0 E0 F0 A1 B1 C1 D1 E1 F1 A2 B2 C2 D2 E2 F2 : Int) (h0 : SurdOK A0 B0 C0 D0 E0 F0) (h1 : SurdOK A1 B1 C1 D1 E1 F1) (h2 : SurdOK A2 B2 C2 D2 E2 F2) :
    Calls Tryz.prog 3 #[surds3 A0 B0 C0 D0 E0 F0 A1 B1 C1 D1 E1 F1 A2 B2 C2 D2 E2 F2] w (IsT w) := by
  obtain ⟨a0, b0, c0, R0, l0, q0, m0⟩ := of_ex' A0 B0 C0 D0 E0 F0 h0
  obtain ⟨a1, b1, c1, R1, l1, q1, m1⟩ := of_ex' A1 B1 C0 D1 E1 F0 ⟨h1.a, h1.b, h0.c, h1.d, h1.e, h0.f⟩
  obtain ⟨a2, b2, c2, R2, l2, q2, m2⟩ := of_ex' A2 B2 C0 D2 E2 F0 ⟨h2.a, h2.b, h0.c, h2.d, h2.e, h0.f⟩
  have lC : LimQ 20 (Rat.divInt C0 (F0 + 1)) := LimQ.mono (l := 3) (frac_lim (n := C0) (d := F0 + 1) (by have := h0.c; exact ⟨by omega, by omega⟩) (by have := h0.f; exact ⟨by omega, by omega⟩)) (by omega)
  obtain ⟨C, hC⟩ : ∃ C, C = Rat.divInt C0 (F0 + 1) := ⟨_, rfl⟩
  rw [← hC] at q0 q1 q2 lC
  have e0 := rC_of R0 q0
  have e1 := rC_of R1 q1
  have e2 := rC_of R2 q2
  subst e0 e1 e2
  have p0 : LimP 20 a0 b0 := ⟨l0.1, l0.2.1⟩
  have p1 : LimP 20 a1 b1 := ⟨l1.1, l1.2.1⟩
  have p2 : LimP 20 a2 b2 := ⟨l2.1, l2.2.1⟩
  obtain ⟨V, hV⟩ : ∃ V, V = qE (rfL a0 b0 a1 b1 a2 b2 C [(A0 : Rat), (B0 : Rat), (C0 : Rat), (D0 : Rat), (E0 : Rat), (F0 : Rat), (A1 : Rat), (B1 : Rat), (C1 : Rat), (D1 : Rat), (E1 : Rat), (F1 : Rat), (A2 : Rat), (B2 : Rat), (C2 : Rat), (D2 : Rat), (E2 : Rat), (F2 : Rat)]) := ⟨_, rfl⟩
  have x0 : RX V 0 a0 b0 C := by rw [hV]; exact ⟨⟨rfl, rfl⟩, ⟨rfl, rfl⟩, ⟨rfl, rfl⟩⟩
  have x1 : RX V 1 a1 b1 C := by rw [hV]; exact ⟨⟨rfl, rfl⟩, ⟨rfl, rfl⟩, ⟨rfl, rfl⟩⟩
  have x2 : RX V 2 a2 b2 C := by rw [hV]; exact ⟨⟨rfl, rfl⟩, ⟨rfl, rfl⟩, ⟨rfl, rfl⟩⟩
  have x3 : RX V 3 (a0 + a1) (b0 + b1) C := by rw [hV]; exact ⟨⟨rfl, rfl⟩, ⟨rfl, rfl⟩, ⟨rfl, rfl⟩⟩
  have x4 : RX V 4 (a0 + a1 + a2) (b0 + b1 + b2) C := by rw [hV]; exact ⟨⟨rfl, rfl⟩, ⟨rfl, rfl⟩, ⟨rfl, rfl⟩⟩
  have x5 : RX V 5 (a1 + a2) (b1 + b2) C := by rw [hV]; exact ⟨⟨rfl, rfl⟩, ⟨rfl, rfl⟩, ⟨rfl, rfl⟩⟩
  have x6 : RX V 6 (a0 + (a1 + a2)) (b0 + (b1 + b2)) C := by rw [hV]; exact ⟨⟨rfl, rfl⟩, ⟨rfl, rfl⟩, ⟨rfl, rfl⟩⟩
  have x7 : RX V 7 (a0 * a1 + b0 * b1 * C) (a0 * b1 + b0 * a1) C := by rw [hV]; exact ⟨⟨rfl, rfl⟩, ⟨rfl, rfl⟩, ⟨rfl, rfl⟩⟩
  have x8 : RX V 8 ((a0 * a1 + b0 * b1 * C) * a2 + (a0 * b1 + b0 * a1) * b2 * C) ((a0 * a1 + b0 * b1 * C) * b2 + (a0 * b1 + b0 * a1) * a2) C := by rw [hV]; exact ⟨⟨rfl, rfl⟩, ⟨rfl, rfl⟩, ⟨rfl, rfl⟩⟩
  have x9 : RX V 9 (a1 * a2 + b1 * b2 * C) (a1 * b2 + b1 * a2) C := by rw [hV]; exact ⟨⟨rfl, rfl⟩, ⟨rfl, rfl⟩, ⟨rfl, rfl⟩⟩
  have x10 : RX V 10 (a0 * (a1 * a2 + b1 * b2 * C) + b0 * (a1 * b2 + b1 * a2) * C) (a0 * (a1 * b2 + b1 * a2) + b0 * (a1 * a2 + b1 * b2 * C)) C := by rw [hV]; exact ⟨⟨rfl, rfl⟩, ⟨rfl, rfl⟩, ⟨rfl, rfl⟩⟩
  have x11 : RX V 11 (a0 * (a1 + a2) + b0 * (b1 + b2) * C) (a0 * (b1 + b2) + b0 * (a1 + a2)) C := by rw [hV]; exact ⟨⟨rfl, rfl⟩, ⟨rfl, rfl⟩, ⟨rfl, rfl⟩⟩
  have x12 : RX V 12 (a0 * a2 + b0 * b2 * C) (a0 * b2 + b0 * a2) C := by rw [hV]; exact ⟨⟨rfl, rfl⟩, ⟨rfl, rfl⟩, ⟨rfl, rfl⟩⟩
  have x13 : RX V 13 (a0 * a1 + b0 * b1 * C + (a0 * a2 + b0 * b2 * C)) (a0 * b1 + b0 * a1 + (a0 * b2 + b0 * a2)) C := by rw [hV]; exact ⟨⟨rfl, rfl⟩, ⟨rfl, rfl⟩, ⟨rfl, rfl⟩⟩
  have nA0 : V.i 84 = A0 := by rw [hV]; exact qE_int (i := 42) rfl
  have nB0 : V.i 86 = B0 := by rw [hV]; exact qE_int (i := 43) rfl
  have nC0 : V.i 88 = C0 := by rw [hV]; exact qE_int (i := 44) rfl
  have nD0 : V.i 90 = D0 := by rw [hV]; exact qE_int (i := 45) rfl
  have nE0 : V.i 92 = E0 := by rw [hV]; exact qE_int (i := 46) rfl
  have nF0 : V.i 94 = F0 := by rw [hV]; exact qE_int (i := 47) rfl
  have nA1 : V.i 96 = A1 := by rw [hV]; exact qE_int (i := 48) rfl
  have nB1 : V.i 98 = B1 := by rw [hV]; exact qE_int (i := 49) rfl
  have nC1 : V.i 100 = C1 := by rw [hV]; exact qE_int (i := 50) rfl
  have nD1 : V.i 102 = D1 := by rw [hV]; exact qE_int (i := 51) rfl
  have nE1 : V.i 104 = E1 := by rw [hV]; exact qE_int (i := 52) rfl
  have nF1 : V.i 106 = F1 := by rw [hV]; exact qE_int (i := 53) rfl
  have nA2 : V.i 108 = A2 := by rw [hV]; exact qE_int (i := 54) rfl
  have nB2 : V.i 110 = B2 := by rw [hV]; exact qE_int (i := 55) rfl
  have nC2 : V.i 112 = C2 := by rw [hV]; exact qE_int (i := 56) rfl
  have nD2 : V.i 114 = D2 := by rw [hV]; exact qE_int (i := 57) rfl
  have nE2 : V.i 116 = E2 := by rw [hV]; exact qE_int (i := 58) rfl
  have nF2 : V.i 118 = F2 := by rw [hV]; exact qE_int (i := 59) rfl
  clear hV
  have at' : ∀ {j : Nat} {a b : Rat} (g cap : Nat), RX V j a b C → RX (atE V g cap) j a b C := fun _ _ h => h
  have big' : ∀ {a b : Rat}, LimP 20 a b → LimP 90000 a b := fun h => h.mono (by omega)
  have hTR : ∀ g cap, TabOK Tryz.prog (atE V g cap) tabRF := fun g cap => tabRF_ok lC p0 p1 p2 (at' g cap x0) (at' g cap x1) (at' g cap x2) (at' g cap x3) (at' g cap x4) (at' g cap x5) (at' g cap x6) (at' g cap x7) (at' g cap x8) (at' g cap x9) (at' g cap x10) (at' g cap x11) (at' g cap x12) (at' g cap x13)
  have hCP : ∀ g cap, CfgOK Tryz.prog (atE V g cap) cPre := fun g cap => cPre_ok
    (of3_known (k := 0) (at' g cap x0) (big' p0) lC (fun w => by
      show Calls _ _ #[surdV (V.i 84) (V.i 86) (V.i 88) (V.i 90) (V.i 92) (V.i 94)] w _
      rw [nA0, nB0, nC0, nD0, nE0, nF0]; exact m0 w))
    (of3_known (k := 1) (at' g cap x1) (big' p1) lC (fun w => by
      show Calls _ _ #[surdV (V.i 96) (V.i 98) (V.i 88) (V.i 102) (V.i 104) (V.i 94)] w _
      rw [nA1, nB1, nC0, nD1, nE1, nF0]; exact m1 w))
    (of3_known (k := 2) (at' g cap x2) (big' p2) lC (fun w => by
      show Calls _ _ #[surdV (V.i 108) (V.i 110) (V.i 88) (V.i 114) (V.i 116) (V.i 94)] w _
      rw [nA2, nB2, nC0, nD2, nE2, nF0]; exact m2 w))
  have hv : one V w (true, cs18) (surds3 A0 B0 C0 D0 E0 F0 A1 B1 C1 D1 E1 F1 A2 B2 C2 D2 E2 F2) := by
    subst nA0 nB0 nC0 nD0 nE0 nF0 nA1 nB1 nC1 nD1 nE1 nF1 nA2 nB2 nC2 nD2 nE2 nF2
    exact ⟨_, rfl, [_], _, rfl, rfl, [_], _, rfl, rfl, [_], _, rfl, rfl, [_], _, rfl, rfl, [_], _, rfl, rfl, [_], _, rfl, rfl, [_], _, rfl, rfl, [_], _, rfl, rfl, [_], _, rfl, rfl, [_], _, rfl, rfl, [_], _, rfl, rfl, [_], _, rfl, rfl, [_], _, rfl, rfl, [_], _, rfl, rfl, [_], _, rfl, rfl, [_], _, rfl, rfl, [_], _, rfl, rfl, [_], [], rfl, rfl, rfl⟩
  generalize surds3 A0 B0 C0 D0 E0 F0 A1 B1 C1 D1 E1 F1 A2 B2 C2 D2 E2 F2 = v at hv
  refine calls_of_wp Tryz.func3 rf_body ?_
  rw [rf_ntmps]
  have hCA : CfgAt Tryz.prog (atE V 0 0) cPre w.heap.size w := ⟨hCP 0 0, fun _ _ => trivial⟩
  have hS : sRi.holds (atE V 0 0) 190 w.heap.size w { tmps := #[v] ++ Array.replicate (190 - #[v].size) Go.undef, defers := [] } w := by
    refine ⟨fun _ => 0, sh_of (fun t x hx => ?_) (fun x cs hx => by cases hx) (fun x y hx _ _ => by cases hx) (fun t x off hx => ?_) (by simp) rfl⟩
    · simp only [sRi] at hx
      split at hx
      · rename_i e; subst e; injection hx with hx; subst hx
        obtain ⟨vs, e, hc⟩ := hv
        have e2 : (#[v] ++ Array.replicate (190 - #[v].size) Go.undef).getD 0 Go.undef = v := by
          rw [Array.getD_eq_getD_getElem?, Array.getElem?_append_left (by simp)]
          simp
        rw [e2]
        exact ⟨vs, e, (chunks_r cs18_var).2 hc⟩
      · cases hx
    · simp only [sRi] at hx
      split at hx
      · simp at hx
      · cases hx
  obtain ⟨T, hT⟩ := sm_some wRi_ok
  unfold wRi at hT
  refine wp_seq (exec_sound mixed hCA rf0 _ _ [] sRi T _ w no_asm hS hT ?_)
  intro G1 S1 e1 T1 h1 hG1 _ a1 w1 hS1
  cases e1 with
  | ret => cases h1
  | exit id => cases h1
  | norm =>
  refine wp_seq (exec_sound mixed hCA rf1 _ _ G1 S1 T1 a1 w1 hG1 hS1 h1 ?_)
  intro G2 S2 e2 T2 h2 hG2 _ a2 w2 hS2
  cases e2 with
  | ret => cases h2
  | exit id => cases h2
  | norm =>
  refine wp_seq (exec_sound mixed hCA rf2 _ _ G2 S2 T2 a2 w2 hG2 hS2 h2 ?_)
  intro G3 S3 e3 T3 h3 hG3 _ a3 w3 hS3
  cases e3 with
  | ret => cases h3
  | exit id => cases h3
  | norm =>
  rw [rl_eq]
  refine wp_seq (wp_seq (exec_sound mixed hCA rl4 _ _ G3 S3 T3 a3 w3 hG3 hS3 h3 ?_))
  intro G4 S4 e4 T4 h4 hG4 _ a4 w4 hS4
  cases e4 with
  | ret => cases h4
  | exit id => cases h4
  | norm =>
  have hok := fin1_ok h4
  simp only [okRi, Bool.and_eq_true] at hok
  obtain ⟨k1, k3, k21, k22, kv⟩ := hok
  obtain ⟨β, s⟩ := hS4
  have hR : RSt V w 0 (β 1) a4 w4 := by
    refine ⟨(AV.pv_of (s.sl 1 _ (isPt1_eq k1)) (by decide)).trans pv_zero, (varAt_r cs18_var).1 (s.vr 1 _ (isVr_eq kv)).2, ?_, lit_out (s.sl 22 _ (isLt1_eq k22)), s.sz, s.nd, s.hp, s.bl, .inl ⟨rfl, ?_⟩⟩
    · obtain ⟨vs, e, hc⟩ := s.sl 21 _ (isAgV_eq k21)
      exact ⟨vs, e, (chunks_r cs18_var).1 hc⟩
    · obtain ⟨⟨l1, r1, e, c1, c2⟩, _⟩ := s.sl 3 _ (isNil1_eq k3)
      simp only [Chunk.holds] at c1
      simp only [chunks] at c2
      subst c1 c2
      injection e with e
  refine loop_ok hCP hTR hR fun a5 w5 d5 t5 bl5 => ?_
  refine ⟨d5, .bool true, ?_, rfl, bl5⟩
  rw [results_eq, rf_results]
  simp [rv1, t5]
end Go.Proofs.YtcgkmnjfkljjlaaGreat
end

section
set_option maxRecDepth 100000
namespace Go.Proofs.YtcgkmnjfkljjlaaGreat
open Go.ChangeShapes Go.WideShapes Go.ChangeAt Go.RowKit Go.Joins
theorem okWide_arr3 {W : World} {r : Reach} {b0 : Nat} {t e : TypeId} {n : Nat} {v : Value} (ht : Tryz.prog.underlying t = some (.array n e)) (h : Value.okWide Tryz.prog W r b0 t v) : ∃ cs, v = .agg cs ∧ cs.size = Tryz.prog.cellsOf t := by
  unfold Value.okWide at h
  rw [ht] at h
  obtain ⟨cs, h1, h2, _⟩ := h
  exact ⟨cs, h1, h2⟩
theorem arr18 {cs : Array Value} (h : cs.size = 18) : ∃ a0 a1 a2 a3 a4 a5 b0 b1 b2 b3 b4 b5 c0 c1 c2 c3 c4 c5, cs = #[a0, a1, a2, a3, a4, a5, b0, b1, b2, b3, b4, b5, c0, c1, c2, c3, c4, c5] := by
  obtain ⟨l⟩ := cs
  have h' : l.length = 18 := h
  match l, h' with
  | [a0, a1, a2, a3, a4, a5, b0, b1, b2, b3, b4, b5, c0, c1, c2, c3, c4, c5], _ => exact ⟨a0, a1, a2, a3, a4, a5, b0, b1, b2, b3, b4, b5, c0, c1, c2, c3, c4, c5, rfl⟩
theorem i16_wf3 {n : Int} (h : (Lit.int .i16 n).wf = true) : -32768 ≤ n ∧ n ≤ 32767 := by
  simpa [Lit.wf, IntKind.min, IntKind.max, IntKind.signed, IntKind.bits] using h
theorem u16_wf3 {n : Int} (h : (Lit.int .u16 n).wf = true) : 0 ≤ n ∧ n ≤ 65535 := by
  simpa [Lit.wf, IntKind.min, IntKind.max, IntKind.signed, IntKind.bits] using h
theorem u8_wf3 {n : Int} (h : (Lit.int .u8 n).wf = true) : 0 ≤ n ∧ n ≤ 255 := by
  simpa [Lit.wf, IntKind.min, IntKind.max, IntKind.signed, IntKind.bits] using h
theorem open_surd6 {H : Type} {enc : TypeId × Value → H} {W : World} {base : Nat} {spare : Nat → Bool} {held : Bool} {c0 c1 c2 c3 c4 c5 : Value} {y : DataW H × List MemPlace} {n : Nat}
    (hf : DataW.trod enc Tryz.prog W base spare held n 25 [c0, c1, c2, c3, c4, c5] = some y) : ∃ a b c d e f : Int, (c0 = .int .i16 a ∧ c1 = .int .i16 b ∧ c2 = .int .u16 c ∧ c3 = .int .u8 d ∧ c4 = .int .u8 e ∧ c5 = .int .u8 f) ∧ SurdOK a b c d e f := by
  have k1 : Tryz.prog.cellsOf 22 = 1 := by kernel_rfl
  have k2 : Tryz.prog.cellsOf 23 = 1 := by kernel_rfl
  have k3 : Tryz.prog.cellsOf 5 = 1 := by kernel_rfl
  obtain ⟨xs, n, _, _, _, hlen, hfl⟩ := DataW.trod_struct Tryz.underlying25 hf
  match xs, hlen with
  | [y0, y1, y2, y3, y4, y5], _ =>
    have h0 := hfl 0 _ rfl
    have h1 := hfl 1 _ rfl
    have h2 := hfl 2 _ rfl
    have h3 := hfl 3 _ rfl
    have h4 := hfl 4 _ rfl
    have h5 := hfl 5 _ rfl
    obtain ⟨a, e0, _, w0⟩ := DataW.trod_int (cs := [c0]) Tryz.underlying22 (by simpa [Value.cells, k1] using h0)
    obtain ⟨b, e1, _, w1⟩ := DataW.trod_int (cs := [c1]) Tryz.underlying22 (by simpa [Value.cells, k1] using h1)
    obtain ⟨c, e2, _, w2⟩ := DataW.trod_int (cs := [c2]) Tryz.underlying23 (by simpa [Value.cells, k2] using h2)
    obtain ⟨d', e3, _, w3⟩ := DataW.trod_int (cs := [c3]) Tryz.underlying5 (by simpa [Value.cells, k3] using h3)
    obtain ⟨e, e4, _, w4⟩ := DataW.trod_int (cs := [c4]) Tryz.underlying5 (by simpa [Value.cells, k3] using h4)
    obtain ⟨f, e5, _, w5⟩ := DataW.trod_int (cs := [c5]) Tryz.underlying5 (by simpa [Value.cells, k3] using h5)
    injection e0 with e0
    injection e1 with e1
    injection e2 with e2
    injection e3 with e3
    injection e4 with e4
    injection e5 with e5
    exact ⟨a, b, c, d', e, f, ⟨e0, e1, e2, e3, e4, e5⟩, i16_wf3 w0, i16_wf3 w1, u16_wf3 w2, u8_wf3 w3, u8_wf3 w4, u8_wf3 w5⟩
theorem open_surds {H : Type} {enc : TypeId × Value → H} {W : World} {b0 base : Nat} {spare : Nat → Bool} {held : Bool} {r : Reach} {v : Value} {d : DataW H} {p : List MemPlace}
    (hv : Value.okWide Tryz.prog W r b0 26 v) (h : DataW.Trod enc Tryz.prog W base spare held 26 v d p) : ∃ a0 b0 c0 d0 e0 f0 a1 b1 c1 d1 e1 f1 a2 b2 c2 d2 e2 f2 : Int, v = surds3 a0 b0 c0 d0 e0 f0 a1 b1 c1 d1 e1 f1 a2 b2 c2 d2 e2 f2 ∧ SurdOK a0 b0 c0 d0 e0 f0 ∧ SurdOK a1 b1 c1 d1 e1 f1 ∧ SurdOK a2 b2 c2 d2 e2 f2 := by
  obtain ⟨cs, rfl, hsz⟩ := okWide_arr3 Tryz.underlying26 hv
  have c18 : Tryz.prog.cellsOf 26 = 18 := by kernel_rfl
  have k6 : Tryz.prog.cellsOf 25 = 6 := by kernel_rfl
  obtain ⟨a0, a1, a2, a3, a4, a5, b0, b1, b2, b3, b4, b5, c0, c1, c2, c3, c4, c5, rfl⟩ := arr18 (hsz.trans c18)
  obtain ⟨fuel, hf⟩ := h
  obtain ⟨xs, m, _, _, _, hl, hel⟩ := DataW.trod_array Tryz.underlying26 hf
  match xs, hl with
  | [y0, y1, y2], _ =>
    have h0 := hel 0 (by omega)
    have h1 := hel 1 (by omega)
    have h2 := hel 2 (by omega)
    obtain ⟨x0, x1, x2, x3, x4, x5, ⟨rfl, rfl, rfl, rfl, rfl, rfl⟩, s0⟩ := open_surd6 (c0 := a0) (c1 := a1) (c2 := a2) (c3 := a3) (c4 := a4) (c5 := a5) (y := y0) (by simpa [Value.cells, k6] using h0)
    obtain ⟨z0, z1, z2, z3, z4, z5, ⟨rfl, rfl, rfl, rfl, rfl, rfl⟩, s1⟩ := open_surd6 (c0 := b0) (c1 := b1) (c2 := b2) (c3 := b3) (c4 := b4) (c5 := b5) (y := y1) (by simpa [Value.cells, k6] using h1)
    obtain ⟨u0, u1, u2, u3, u4, u5, ⟨rfl, rfl, rfl, rfl, rfl, rfl⟩, s2⟩ := open_surd6 (c0 := c0) (c1 := c1) (c2 := c2) (c3 := c3) (c4 := c4) (c5 := c5) (y := y2) (by simpa [Value.cells, k6] using h2)
    exact ⟨x0, x1, x2, x3, x4, x5, z0, z1, z2, z3, z4, z5, u0, u1, u2, u3, u4, u5, rfl, s0, s1, s2⟩
end Go.Proofs.YtcgkmnjfkljjlaaGreat
end
