/-
  Texts of this seat, joined.
-/
import Derived.Test.YtdblkeeicmncfaaGreatDoorJ6
import Derived.Shelf.LaysM
import Derived.Shelf.Strings.Cut
import Derived.Shelf.Strconv.AppendUint10
import Derived.Laws.IdiomStrings
import Derived.Lib.LaidTab
import Derived.Shelf.Small.Wraps
import Derived.Deep.DeepCutAuto
import Derived.Test.YtdblkeeicmncfaaGreatDoorRows
import Derived.ProofKit
import Derived.OpenShut
import Derived.ChangeOld
import Derived.Lib.SmallJoins
import Derived.LaidMore
import Derived.Stop.Joined
import Derived.Stop.LaidErr
import Derived.LaidLaws
import Derived.Handed
/- ---- Sxi ---- -/
section
/-
  A walker that goes by reckoning: loops of any number of rounds, by what each round keeps.
-/
set_option maxRecDepth 100000
namespace Go.Proofs.YtdblkeeicmncfaaGreatDoor
open Go.RowKit

def lookN {α : Type} : List (Nat × α) → Nat → Option α
  | [], _ => none
  | p :: l, t => if p.1 == t then some p.2 else lookN l t
theorem lookN_mem {α : Type} : ∀ {l : List (Nat × α)} {t : Nat} {x : α}, lookN l t = some x → (t, x) ∈ l
  | [], _, _, h => by simp [lookN] at h
  | p :: l, t, x, h => by
    unfold lookN at h
    split at h
    · rename_i hp
      have : p.1 = t := by simpa using hp
      injection h with h
      obtain ⟨a, b⟩ := p
      simp only at this h
      subst this h
      exact List.mem_cons_self
    · exact List.mem_cons_of_mem _ (lookN_mem h)
/-- Numbers of an environment, turned. -/
def updI : List Nat → List Int → Nat → Option Int
  | v :: vs, z :: zs, k => if k = v then some z else updI vs zs k
  | _, _, _ => none
def Env.upd (E : Env) (vs : List Nat) (zs : List Int) : Env := { E with i := fun k => (updI vs zs k).getD (E.i k) }
theorem updI_map (f : Nat → Int) : ∀ (vs : List Nat) (k : Nat), updI vs (vs.map f) k = if k ∈ vs then some (f k) else none
  | [], k => rfl
  | v :: vs, k => by
    simp only [List.map_cons, updI, List.mem_cons]
    by_cases h : k = v
    · subst h; simp
    · rw [if_neg h, updI_map f vs k]
      simp [h]
/-- What a loop keeps: slots, variables, the numbers that turn, what is known of them, and how long they are. -/
structure LInv where
  lk : List (Nat × AV)
  vr : List (Nat × List Chunk)
  vs : List Nat
  G : Asm
  lm : List (Nat × Nat)
def LInv.st (I : LInv) : St := ⟨lookN I.lk, lookN I.vr⟩
def IT.free (vs : List Nat) : IT → Bool
  | .var i => !(vs.contains i)
  | .lit _ => true
  | .rlen _ => true
  | .slen _ => true
  | .a1 _ x => x.free vs
  | .a2 _ x y => x.free vs && y.free vs
  | .a4 _ x y z t => (x.free vs && y.free vs) && (z.free vs && t.free vs)
def ST.free (vs : List Nat) : ST → Bool
  | .lit _ => true
  | .var _ => true
  | .fmt z => z.free vs
  | .cat x y => x.free vs && y.free vs
def BT.free (vs : List Nat) : BT → Bool
  | .seq x y => x.free vs && y.free vs
  | .lit _ => true
  | .var _ => true
  | .eq x y => x.free vs && y.free vs
  | .lt x y => x.free vs && y.free vs
  | .le x y => x.free vs && y.free vs
  | .ok _ => true
  | .and x y => x.free vs && y.free vs
  | .not x => x.free vs
theorem IT.den_free {E : Env} {vs : List Nat} {zs : List Int} (hz : zs.length = vs.length) : ∀ {t : IT}, t.free vs = true → t.den (E.upd vs zs) = t.den E := by
  have hup : ∀ (vs : List Nat) (zs : List Int) (k : Nat), k ∉ vs → updI vs zs k = none := by
    intro vs
    induction vs with
    | nil => intro zs k _; simp [updI]
    | cons v vs ih =>
      intro zs k hk
      cases zs with
      | nil => rfl
      | cons z zs =>
        simp only [updI]
        rw [if_neg (fun e => hk (by rw [e]; simp))]
        exact ih zs k (fun h => hk (by simp [h]))
  intro t
  induction t with
  | var i =>
    intro h
    simp only [IT.free, Bool.not_eq_true', List.contains_eq_mem, decide_eq_false_iff_not] at h
    simp only [IT.den, Env.upd, hup vs zs i h, Option.getD_none]
  | lit z => intro _; rfl
  | rlen i => intro _; rfl
  | slen i => intro _; rfl
  | a1 f x ih => intro h; simp only [IT.free] at h; simp only [IT.den, ih h]
  | a2 f x y ihx ihy => intro h; simp only [IT.free, Bool.and_eq_true] at h; simp only [IT.den, ihx h.1, ihy h.2]
  | a4 f x y z t ihx ihy ihz iht =>
    intro h
    simp only [IT.free, Bool.and_eq_true] at h
    simp only [IT.den, ihx h.1.1, ihy h.1.2, ihz h.2.1, iht h.2.2]
theorem ST.den_free {E : Env} {vs : List Nat} {zs : List Int} (hz : zs.length = vs.length) : ∀ {t : ST}, t.free vs = true → t.den (E.upd vs zs) = t.den E := by
  intro t
  induction t with
  | lit l => intro _; rfl
  | var i => intro _; rfl
  | fmt z => intro h; simp only [ST.free] at h; simp only [ST.den, IT.den_free hz h]
  | cat x y ihx ihy => intro h; simp only [ST.free, Bool.and_eq_true] at h; simp only [ST.den, ihx h.1, ihy h.2]
theorem BT.den_free {E : Env} {vs : List Nat} {zs : List Int} (hz : zs.length = vs.length) : ∀ {t : BT}, t.free vs = true → t.den (E.upd vs zs) = t.den E := by
  intro t
  induction t with
  | lit b => intro _; rfl
  | var i => intro _; rfl
  | ok i => intro _; rfl
  | seq x y => intro h; simp only [BT.free, Bool.and_eq_true] at h; simp only [BT.den, ST.den_free hz h.1, ST.den_free hz h.2]
  | eq x y => intro h; simp only [BT.free, Bool.and_eq_true] at h; simp only [BT.den, IT.den_free hz h.1, IT.den_free hz h.2]
  | lt x y => intro h; simp only [BT.free, Bool.and_eq_true] at h; simp only [BT.den, IT.den_free hz h.1, IT.den_free hz h.2]
  | le x y => intro h; simp only [BT.free, Bool.and_eq_true] at h; simp only [BT.den, IT.den_free hz h.1, IT.den_free hz h.2]
  | and x y ihx ihy => intro h; simp only [BT.free, Bool.and_eq_true] at h; simp only [BT.den, ihx h.1, ihy h.2]
  | not x ih => intro h; simp only [BT.free] at h; simp only [BT.den, ih h]

/-- The terms for the numbers that turn: sought (not trusted), then held against the state. -/
abbrev Sig := List (Nat × IT)
def colT (vs : List Nat) (p t : IT) (σ : Sig) : Sig :=
  match p with
  | .var i => if vs.contains i && (lookN σ i).isNone then (i, t) :: σ else σ
  | _ => σ
def colC (vs : List Nat) : Chunk → Chunk → Sig → Sig
  | .int p _, .int t _, σ => colT vs p t σ
  | .n _ p, .n _ t, σ => colT vs p t σ
  | .mag p _, .mag t _, σ => colT vs p t σ
  | _, _, σ => σ
def colCs (vs : List Nat) : List Chunk → List Chunk → Sig → Sig
  | c :: cs, d :: ds, σ => colCs vs cs ds (colC vs c d σ)
  | _, _, σ => σ
def colV (vs : List Nat) : AV → AV → Sig → Sig
  | .val _ cs, .val _ ds, σ => colCs vs cs ds σ
  | _, _, σ => σ
def colS (I : LInv) (S : St) : Sig :=
  I.vr.foldl (fun σ p => match S.var p.1 with | some ds => colCs I.vs p.2 ds σ | none => σ) (I.lk.foldl (fun σ p => match S.look p.1 with | some x => colV I.vs p.2 x σ | none => σ) [])
def okT (vs : List Nat) (σ : Sig) (p t : IT) : Bool :=
  match p with
  | .var i => if vs.contains i then (match lookN σ i with | some u => u.beq t | none => false) else t.beq (.var i)
  | p => p.free vs && p.beq t
def okL (I : LInv) (p : IT) (l m : Nat) : Bool :=
  match p with
  | .var i => if I.vs.contains i then I.lm.contains (i, l) else decide (m ≤ l)
  | _ => decide (m ≤ l)
def okC (I : LInv) (σ : Sig) : Chunk → Chunk → Bool
  | .b p, .b t => p.free I.vs && p.beq t
  | .n k p, .n j t => decide (k = j) && okT I.vs σ p t
  | .int p l, .int t m => okT I.vs σ p t && okL I p l m
  | .mag p l, .mag t m => okT I.vs σ p t && okL I p l m
  | .raw i, .raw j => i == j
  | .rmag i, .rmag j => i == j
  | .fn f, .fn g => f == g
  | .nilSlice, .nilSlice => true
  | .str s l, .str t m => s.free I.vs && (s.beq t && decide (m ≤ l))
  | _, _ => false
def okCs (I : LInv) (σ : Sig) : List Chunk → List Chunk → Bool
  | [], [] => true
  | c :: cs, d :: ds => okC I σ c d && okCs I σ cs ds
  | _, _ => false
def okV (I : LInv) (σ : Sig) : AV → AV → Bool
  | .val a cs, .val b ds => a == b && okCs I σ cs ds
  | .ptr x o, .ptr y p => (x == y && o == p) && (lookN I.vr x).isSome
  | .bad, .bad => true
  | _, _ => false
def okS (I : LInv) (σ : Sig) (S : St) : Bool :=
  (I.lk.all fun p => match S.look p.1 with | some x => okV I σ p.2 x | none => false) &&
  (I.vr.all fun p => match S.var p.1 with | some ds => okCs I σ p.2 ds && !(sizes p.2 == 0) | none => false)
def sigT (I : LInv) (σ : Sig) : List IT := I.vs.map fun i => (lookN σ i).getD (.lit 0)
def matchS (I : LInv) (S : St) : Option (List IT) := if okS I (colS I S) S then some (sigT I (colS I S)) else none
/-- What must stand where a round begins. -/
def enterL (Good : Env → Prop) (I : LInv) (ts : List IT) (E : Env) : Prop :=
  I.G.holds (E.upd I.vs (ts.map (IT.den E))) ∧ Good (E.upd I.vs (ts.map (IT.den E))) ∧ ∀ p ∈ I.lm, Lim p.2 ((E.upd I.vs (ts.map (IT.den E))).i p.1)

section
variable {E : Env} {n B : Nat} {w w0 : World} {a : Act} {I : LInv} {σ : Sig} {S : St} {ts : List IT}
theorem okT_spec (hts : ts = sigT I σ) {p t : IT} (h : okT I.vs σ p t = true) : p.den (E.upd I.vs (ts.map (IT.den E))) = t.den E := by
  have hlen : (ts.map (IT.den E)).length = I.vs.length := by rw [hts]; simp [sigT]
  have key : ∀ (q u : IT), (q.free I.vs && q.beq u) = true → q.den (E.upd I.vs (ts.map (IT.den E))) = u.den E := by
    intro q u hq
    rw [Bool.and_eq_true] at hq
    rw [IT.den_free hlen hq.1, IT.eq_of_beq hq.2]
  unfold okT at h
  split at h
  · rename_i i
    split at h
    · rename_i hi
      split at h
      · rename_i u hu
        have : ts.map (IT.den E) = I.vs.map (fun i => ((lookN σ i).getD (.lit 0)).den E) := by rw [hts]; simp [sigT, Function.comp_def]
        simp only [IT.den, Env.upd]
        rw [this, updI_map]
        rw [List.contains_iff_mem] at hi
        rw [if_pos hi]
        simp only [Option.getD_some, hu]
        rw [IT.eq_of_beq h]
      · cases h
    · rename_i hi
      refine Eq.trans ?_ (congrArg (IT.den E) (IT.eq_of_beq h).symm)
      exact IT.den_free (t := .var i) hlen (by simpa [IT.free] using hi)
  · exact key _ _ h
theorem okL_spec {Good : Env → Prop} (he : enterL Good I ts E) {p t : IT} {l m : Nat} (hp : p.den (E.upd I.vs (ts.map (IT.den E))) = t.den E) (h : okL I p l m = true) (hm : Lim m (t.den E)) : Lim l (p.den (E.upd I.vs (ts.map (IT.den E)))) := by
  unfold okL at h
  split at h
  · rename_i i
    split at h
    · rw [List.contains_iff_mem] at h
      exact he.2.2 _ h
    · rw [hp]; exact hm.mono (of_decide_eq_true h)
  · rw [hp]; exact hm.mono (of_decide_eq_true h)
theorem okC_spec {Good : Env → Prop} (hts : ts = sigT I σ) (he : enterL Good I ts E) : ∀ {c d : Chunk} {vs : List Value}, okC I σ c d = true → d.holds E w vs → c.holds (E.upd I.vs (ts.map (IT.den E))) w vs ∧ c.size = d.size := by
  intro c d vs h hd
  have hlen : (ts.map (IT.den E)).length = I.vs.length := by rw [hts]; simp [sigT]
  cases c <;> cases d <;> simp only [okC, Bool.false_eq_true, Bool.and_eq_true, beq_iff_eq, decide_eq_true_iff] at h
  · rename_i p t
    refine ⟨?_, rfl⟩
    simp only [Chunk.holds] at hd ⊢
    rw [hd, BT.den_free hlen h.1, BT.den_of_beq E h.2]
  · rename_i k p j t
    obtain ⟨rfl, h⟩ := h
    refine ⟨?_, rfl⟩
    simp only [Chunk.holds] at hd ⊢
    rw [hd, okT_spec hts h]
  · rename_i p l t m
    obtain ⟨x, y, hv, hI, hm⟩ := hd
    have hp := okT_spec (E := E) hts h.1
    exact ⟨⟨x, y, hv, by rw [hp]; exact hI, okL_spec he hp h.2 hm⟩, rfl⟩
  · subst h
    obtain ⟨x, y, hv, hR⟩ := hd
    exact ⟨⟨x, y, hv, hR⟩, rfl⟩
  · rename_i p l t m
    obtain ⟨x, hv, hI, hm⟩ := hd
    have hp := okT_spec (E := E) hts h.1
    exact ⟨⟨x, hv, by rw [hp]; exact hI, okL_spec he hp h.2 hm⟩, rfl⟩
  · subst h
    obtain ⟨x, hv, ao, c, h1, h2, h3, h4⟩ := hd
    exact ⟨⟨x, hv, ao, c, h1, h2, h3, h4⟩, rfl⟩
  · subst h; exact ⟨hd, rfl⟩
  · exact ⟨hd, rfl⟩
  · obtain ⟨h1, h2, h3⟩ := h
    refine ⟨?_, rfl⟩
    obtain ⟨hv, hl⟩ := hd
    rw [← ST.eq_of_beq h2] at hv hl
    exact ⟨by rw [ST.den_free hlen h1]; exact hv, by rw [ST.den_free hlen h1]; exact Nat.le_trans hl h3⟩
theorem okCs_spec {Good : Env → Prop} (hts : ts = sigT I σ) (he : enterL Good I ts E) : ∀ {cs ds : List Chunk} {vs : List Value}, okCs I σ cs ds = true → chunks E w ds vs → chunks (E.upd I.vs (ts.map (IT.den E))) w cs vs
  | [], [], _, _, hd => hd
  | c :: cs, d :: ds, _, h, ⟨l, r, hv, h1, h2⟩ => by
    simp only [okCs, Bool.and_eq_true] at h
    exact ⟨l, r, hv, (okC_spec hts he h.1 h1).1, okCs_spec hts he h.2 h2⟩
  | [], _ :: _, _, h, _ => by simp [okCs] at h
  | _ :: _, [], _, h, _ => by simp [okCs] at h
theorem matchS_spec {Good : Env → Prop} (h : matchS I S = some ts) (he : enterL Good I ts E) (hS : S.holds E n B w0 a w) : I.st.holds (E.upd I.vs (ts.map (IT.den E))) n B w0 a w := by
  unfold matchS at h
  split at h
  · rename_i hok
    injection h with h
    have hts := h.symm
    unfold okS at hok
    rw [Bool.and_eq_true, List.all_eq_true, List.all_eq_true] at hok
    obtain ⟨h1, h2⟩ := hok
    obtain ⟨β, hS⟩ := hS
    have hvar : ∀ x cs, I.st.var x = some cs → ∃ ds, S.var x = some ds ∧ okCs I (colS I S) cs ds = true ∧ sizes cs ≠ 0 := by
      intro x cs hx
      have := h2 _ (lookN_mem hx)
      simp only at this
      split at this
      · rename_i ds hds
        rw [Bool.and_eq_true, Bool.not_eq_true', beq_eq_false_iff_ne] at this
        exact ⟨ds, hds, this⟩
      · cases this
    refine ⟨β, fun t x hx => ?_, fun x cs hx => ?_, fun x y hx hy he => ?_, fun t x off hx => ?_, hS.sz, hS.nd, hS.hp, hS.bl, fun x cs hx => ?_⟩
    · have := h1 _ (lookN_mem hx)
      simp only at this
      split at this
      · rename_i y hy
        have hv := hS.sl t y hy
        cases x with
        | val ag cs =>
          cases y with
          | val bg ds =>
            simp only [okV, Bool.and_eq_true, beq_iff_eq] at this
            obtain ⟨rfl, hc⟩ := this
            cases ag
            · exact ⟨okCs_spec hts he hc hv.1, hv.2⟩
            · obtain ⟨us, hu, hcs⟩ := hv
              exact ⟨us, hu, okCs_spec hts he hc hcs⟩
          | _ => simp [okV] at this
        | ptr z o =>
          cases y with
          | ptr z' o' =>
            simp only [okV, Bool.and_eq_true, beq_iff_eq] at this
            obtain ⟨⟨rfl, rfl⟩, _⟩ := this
            exact hv
          | _ => simp [okV] at this
        | tup l => cases y <;> simp [okV] at this
        | bad =>
          cases y with
          | bad => exact hv
          | _ => simp [okV] at this
      · cases this
    · obtain ⟨ds, hds, hc, _⟩ := hvar x cs hx
      obtain ⟨k1, us, k2, k3⟩ := hS.vr x ds hds
      exact ⟨k1, us, okCs_spec hts he hc k2, k3⟩
    · obtain ⟨cs, hcs⟩ := Option.isSome_iff_exists.1 hx
      obtain ⟨ds, hds⟩ := Option.isSome_iff_exists.1 hy
      obtain ⟨c1, e1, _⟩ := hvar x cs hcs
      obtain ⟨c2, e2, _⟩ := hvar y ds hds
      exact hS.inj x y (by rw [e1]; rfl) (by rw [e2]; rfl) he
    · have := h1 _ (lookN_mem hx)
      simp only at this
      split at this
      · rename_i y hy
        cases y with
        | ptr z' o' =>
          simp only [okV, Bool.and_eq_true] at this
          exact this.2
        | _ => simp [okV] at this
      · cases this
    · exact (hvar x cs hx).choose_spec.2.2
  · cases h
end

/-- What a walk with loops comes to. -/
inductive LTree where
  | leaf (l : List (Bool × List Chunk))
  | ite (b : BT) (t e : LTree)
  | loop (d : Nat) (I : LInv) (ts : List IT) (T : LTree)
  | again (d : Nat) (ts : List IT)
abbrev Stk := Nat → Option (LInv × LTree)
def Stk.set (K : Stk) (d : Nat) (p : LInv × LTree) : Stk := fun j => if j = d then some p else K j
/-- A run through a tree: m rounds are begun again. -/
inductive Run (Good : Env → Prop) : Stk → LTree → Env → Nat → Env → List (Bool × List Chunk) → Prop where
  | leaf {K l E} : Run Good K (.leaf l) E 0 E l
  | iteT {K b t e E m E' l} : b.den E = true → Run Good K t E m E' l → Run Good K (.ite b t e) E m E' l
  | iteF {K b t e E m E' l} : b.den E = false → Run Good K e E m E' l → Run Good K (.ite b t e) E m E' l
  | loop {K d I ts T E m E' l} : enterL Good I ts E → Run Good (K.set d (I, T)) T (E.upd I.vs (ts.map (IT.den E))) m E' l → Run Good K (.loop d I ts T) E m E' l
  | again {K : Stk} {d I ts T E m E' l} : K d = some (I, T) → enterL Good I ts E → Run Good K T (E.upd I.vs (ts.map (IT.den E))) m E' l → Run Good K (.again d ts) E (m + 1) E' l

def regTL (C : Cfg) (n : Nat) (l : List Oper) (drawn : Bool) (k : Asm → St → Option LTree) : Nat → Asm → St → Option LTree
  | 0, _, _ => none
  | f + 1, G, S => match regE C G n l drawn S with
    | some S' => k G S'
    | none => match needE C G n l.toArray l S with
      | some b => match regTL C n l drawn k f ((b, true) :: G) S, regTL C n l drawn k f ((b, false) :: G) S with
        | some t, some e => some (.ite b t e)
        | _, _ => none
      | none => none
def firstId : Code → Option Nat
  | .region id _ _ => some id
  | .seq a b => match firstId a with | some i => some i | none => firstId b
  | .block _ c => firstId c
  | .cond _ a b => match firstId a with | some i => some i | none => firstId b
  | .loop c => firstId c
  | _ => none
def execL (C : Cfg) (L : Nat → Option LInv) (n : Nat) : Code → Nat → (Asm → St → Ex → Option LTree) → Asm → St → Option LTree
  | .skip, _, k, G, S => k G S .norm
  | .ret, _, k, G, S => k G S .ret
  | .exit id, _, k, G, S => k G S (.exit id)
  | .region _ ops drawn, _, k, G, S => regTL C n ops.toList drawn (fun G S => k G S .norm) 64 G S
  | .seq a b, d, k, G, S => execL C L n a d (fun G S e => match e with | .norm => execL C L n b d k G S | e => k G S e) G S
  | .loop c, d, k, G, S => match (firstId c).bind L with
    | some I => match matchS I S with
      | some ts => match execL C L n c (d + 1) (fun G S e => match e with | .norm => (matchS I S).map (.again d) | e => k G S e) I.G I.st with
        | some T => some (.loop d I ts T)
        | none => none
      | none => none
    | none => none
  | .block id c, d, k, G, S => execL C L n c d (fun G S e => match e with | .exit j => if j = id then k G S .norm else k G S (.exit j) | e => k G S e) G S
  | .cond c x y, d, k, G, S => match opnd S.look c with
    | some (.val false [.b tt]) => match tt.ev G with
      | some true => execL C L n x d k G S
      | some false => execL C L n y d k G S
      | none => match tt.ev ((tt.base, true) :: G), tt.ev ((tt.base, false) :: G) with
        | some b1, some b2 =>
          match (if b1 then execL C L n x d k ((tt.base, true) :: G) S else execL C L n y d k ((tt.base, true) :: G) S), (if b2 then execL C L n x d k ((tt.base, false) :: G) S else execL C L n y d k ((tt.base, false) :: G) S) with
          | some t, some e => some (.ite tt.base t e)
          | _, _ => none
        | _, _ => none
    | _ => none
  | _, _, _, _, _ => none

section
variable {P : Program} {n B : Nat} {w0 : World} {C : Cfg} {L : Nat → Option LInv} {Good : Env → Prop} {E' : Env} {l : List (Bool × List Chunk)}
/-- What the code behind owes. -/
def KOK (Good : Env → Prop) (n B : Nat) (w0 : World) (E' : Env) (l : List (Bool × List Chunk)) (k : Asm → St → Ex → Option LTree) (Q : Exit → Act → World → Prop) (K : Stk) (d m : Nat) : Prop :=
  ∀ (K' : Stk) G S e T E m', m' ≤ m → (∀ j, j < d → K' j = K j) → k G S e = some T → Run Good K' T E m' E' l → G.holds E → Good E → ∀ a w, S.holds E n B w0 a w → Q e.to a w
theorem regTL_sound (hm : P.follows .mixedOrders = true) {E : Env} (hC : CfgAt P E C B w0) {id : Nat} {lo : List Oper} {drawn : Bool} {k : Asm → St → Option LTree} {Q : Exit → Act → World → Prop} {K : Stk} {m : Nat} {w : World} {a : Act} : ∀ (f : Nat) (G : Asm) (S : St) (T : LTree), G.holds E → S.holds E n B w0 a w →
    regTL C n lo drawn k f G S = some T → Run Good K T E m E' l →
    (∀ G' S' T', k G' S' = some T' → G'.holds E → Run Good K T' E m E' l → ∀ a' w', S'.holds E n B w0 a' w' → Q .normal a' w') → (Code.region id lo.toArray drawn).wp P Q a w
  | 0, _, _, _, _, _, h, _, _ => by simp [regTL] at h
  | f + 1, G, S, T, hG, hS, h, hR, hk => by
    unfold regTL at h
    split at h
    · rename_i S' hS'
      exact regE_sound hm hC hG hS hS' (fun a' w' h' => hk G S' T h hG hR a' w' h')
    · split at h
      · rename_i b hb
        split at h
        · rename_i t e ht he
          injection h with h
          subst h
          cases hR with
          | iteT hbv hR => exact regTL_sound hm hC f _ S t (asm_cons hG hbv) hS ht hR hk
          | iteF hbv hR => exact regTL_sound hm hC f _ S e (asm_cons hG hbv) hS he hR hk
        · cases h
      · cases h
theorem execL_sound (hm : P.follows .mixedOrders = true) (hC : ∀ E, Good E → CfgAt P E C B w0) : ∀ (c : Code) (d : Nat) (k : Asm → St → Ex → Option LTree) (Q : Exit → Act → World → Prop) (K : Stk) (G : Asm) (S : St) (T : LTree) (E : Env) (m : Nat) (a : Act) (w : World), G.holds E → Good E → S.holds E n B w0 a w →
    execL C L n c d k G S = some T → Run Good K T E m E' l → KOK Good n B w0 E' l k Q K d m → c.wp P Q a w := by
  intro c
  induction c with
  | skip => intro d k Q K G S T E m a w hG hE hS h hR hk; exact wp_skip (hk K G S .norm T E m (Nat.le_refl _) (fun _ _ => rfl) h hR hG hE a w hS)
  | ret => intro d k Q K G S T E m a w hG hE hS h hR hk; exact wp_ret (hk K G S .ret T E m (Nat.le_refl _) (fun _ _ => rfl) h hR hG hE a w hS)
  | exit id => intro d k Q K G S T E m a w hG hE hS h hR hk; exact wp_exit (hk K G S (.exit id) T E m (Nat.le_refl _) (fun _ _ => rfl) h hR hG hE a w hS)
  | region id ops drawn =>
    intro d k Q K G S T E m a w hG hE hS h hR hk
    have := regTL_sound (id := id) (Q := Q) hm (hC E hE) 64 G S T hG hS h hR (fun G' S' T' h1 h2 h3 a' w' h4 => hk K G' S' .norm T' E m (Nat.le_refl _) (fun _ _ => rfl) h1 h3 h2 hE a' w' h4)
    simpa using this
  | seq x y ihx ihy =>
    intro d k Q K G S T E m a w hG hE hS h hR hk
    refine wp_seq (ihx d _ _ K G S T E m a w hG hE hS h hR (fun K' G' S' e T' E1 m' hm' hK' h1 hR' hG' hE' a' w' h4 => ?_))
    cases e with
    | norm => exact ihy d k Q K' G' S' T' E1 m' a' w' hG' hE' h4 h1 hR' (fun K2 G2 S2 e2 T2 E2 m2 j1 j2 j3 j4 j5 j6 => hk K2 G2 S2 e2 T2 E2 m2 (Nat.le_trans j1 hm') (fun j hj => (j2 j hj).trans (hK' j hj)) j3 j4 j5 j6)
    | ret => exact hk K' G' S' .ret T' E1 m' hm' hK' h1 hR' hG' hE' a' w' h4
    | exit id => exact hk K' G' S' (.exit id) T' E1 m' hm' hK' h1 hR' hG' hE' a' w' h4
  | block id c ih =>
    intro d k Q K G S T E m a w hG hE hS h hR hk
    refine wp_block (ih d _ _ K G S T E m a w hG hE hS h hR (fun K' G' S' e T' E1 m' hm' hK' h1 hR' hG' hE' a' w' h4 => ?_))
    cases e with
    | norm => exact hk K' G' S' .norm T' E1 m' hm' hK' h1 hR' hG' hE' a' w' h4
    | ret => exact hk K' G' S' .ret T' E1 m' hm' hK' h1 hR' hG' hE' a' w' h4
    | exit j =>
      simp only at h1
      show (if j = id then Q .normal a' w' else Q (.exit j) a' w')
      by_cases hj : j = id
      · rw [if_pos hj] at h1 ⊢
        exact hk K' G' S' .norm T' E1 m' hm' hK' h1 hR' hG' hE' a' w' h4
      · rw [if_neg hj] at h1 ⊢
        exact hk K' G' S' (.exit j) T' E1 m' hm' hK' h1 hR' hG' hE' a' w' h4
  | loop c ih =>
    intro d k Q K G S T E m a w hG hE hS h hR hk
    simp only [execL] at h
    split at h
    · rename_i I hI
      split at h
      · rename_i ts hts
        split at h
        · rename_i T0 hT0
          injection h with h
          subst h
          cases hR with
          | loop hen hR =>
            have key : ∀ (m0 : Nat), ∀ (K1 : Stk) (E1 : Env) (a : Act) (w : World) (f : Nat), m0 ≤ m → m0 < f → K1 d = some (I, T0) → (∀ j, j < d → K1 j = K j) → I.G.holds E1 → Good E1 → I.st.holds E1 n B w0 a w → Run Good K1 T0 E1 m0 E' l → Code.rounds P c Q f a w := by
              intro m0
              induction m0 using Nat.strongRecOn with
              | ind m0 ihm =>
                intro K1 E1 a w f hm0 hf hKd hKj hG1 hE1 hS1 hR1
                match f, hf with
                | f + 1, hf =>
                  rw [rounds_succ]
                  refine ih (d + 1) _ _ K1 I.G I.st T0 E1 m0 a w hG1 hE1 hS1 hT0 hR1 (fun K' G' S' e T' E2 m' hm' hK' h1 hR' hG' hE' a' w' h4 => ?_)
                  cases e with
                  | norm =>
                    obtain ⟨ts', hts', rfl⟩ := Option.map_eq_some_iff.1 h1
                    cases hR' with
                    | again hd hen' hR2 =>
                      rename_i I2 T2 m2
                      have : K' d = some (I, T0) := (hK' d (by omega)).trans hKd
                      rw [this] at hd
                      injection hd with hd
                      injection hd with e1 e2
                      subst e1 e2
                      exact ihm m2 (by omega) K' _ a' w' f (by omega) (by omega) this (fun j hj => (hK' j (by omega)).trans (hKj j hj)) hen'.1 hen'.2.1 (matchS_spec hts' hen' h4) hR2
                  | ret => exact hk K' G' S' .ret T' E2 m' (by omega) (fun j hj => (hK' j (by omega)).trans (hKj j hj)) h1 hR' hG' hE' a' w' h4
                  | exit id => exact hk K' G' S' (.exit id) T' E2 m' (by omega) (fun j hj => (hK' j (by omega)).trans (hKj j hj)) h1 hR' hG' hE' a' w' h4
            exact wp_loop_rounds (m + 1) (key m _ _ a w (m + 1) (Nat.le_refl _) (by omega) (by simp [Stk.set]) (fun j hj => by simp [Stk.set]; omega) hen.1 hen.2.1 (matchS_spec hts hen hS) hR)
        · cases h
      · cases h
    · cases h
  | cond c x y ihx ihy =>
    intro d k Q K G S T E m a w hG hE hS h hR hk
    simp only [execL] at h
    split at h
    · rename_i tt hc
      obtain ⟨β, hS'⟩ := hS
      have hv := opnd_spec (E := E) (β := β) (w := w) hS'.sl hc
      have hSS : S.holds E n B w0 a w := ⟨β, hS'⟩
      obtain ⟨⟨l1, r1, h1, h2, h3⟩, _⟩ := hv
      simp only [Chunk.holds] at h2
      simp only [chunks] at h3
      subst h2 h3
      injection h1 with h1
      split at h
      · rename_i hev
        rw [BT.ev_spec hG hev] at h1
        exact wp_cond_true h1 (ihx d k Q K G S T E m a w hG hE hSS h hR hk)
      · rename_i hev
        rw [BT.ev_spec hG hev] at h1
        exact wp_cond_false h1 (ihy d k Q K G S T E m a w hG hE hSS h hR hk)
      · split at h
        · rename_i b1 b2 e1 e2
          split at h
          · rename_i t e ht he
            injection h with h
            subst h
            cases hR with
            | iteT hbv hR =>
              have hG2 := asm_cons hG hbv
              rw [BT.ev_spec hG2 e1] at h1
              cases b1 with
              | true => exact wp_cond_true h1 (ihx d k Q K _ S t E m a w hG2 hE hSS ht hR hk)
              | false => exact wp_cond_false h1 (ihy d k Q K _ S t E m a w hG2 hE hSS ht hR hk)
            | iteF hbv hR =>
              have hG2 := asm_cons hG hbv
              rw [BT.ev_spec hG2 e2] at h1
              cases b2 with
              | true => exact wp_cond_true h1 (ihx d k Q K _ S e E m a w hG2 hE hSS he hR hk)
              | false => exact wp_cond_false h1 (ihy d k Q K _ S e E m a w hG2 hE hSS he hR hk)
          · cases h
        · cases h
    · cases h
  | _ => intro d k Q K G S T E m a w hG hE hS h hR hk; simp [execL] at h

/-- A function with loops, called. -/
def funL (C : Cfg) (L : Nat → Option LInv) (fn : Func) (G : Asm) (args : List AV) : Option LTree :=
  match fn.body with
  | some c => execL C L fn.ntmps c 0 (fun _ S e => match e with
    | .norm => (resE C S fn.results.toList).map .leaf
    | .ret => (resE C S fn.results.toList).map .leaf
    | .exit _ => none) G ⟨fun t => args[t]?, fun _ => none⟩
  | none => none
def noStk : Stk := fun _ => none
theorem loops_sound (hm : P.follows .mixedOrders = true) (hC : ∀ E, Good E → CfgOK P E C) {E : Env} {G : Asm} (hG : G.holds E) (hE : Good E) {f : FuncId} {fn : Func} (hf : P.funcs[f]? = some fn) (h4 : fn.results.toList.length ≤ 4) {args : List AV} {T : LTree} (hT : funL C L fn G args = some T) (hn : args.length ≤ fn.ntmps) (hnp : args.all noPtr = true)
    {m : Nat} (hR : Run Good noStk T E m E' l) (w : World) (vs : List Value) (hl : vs.length = args.length) (hv : ∀ (i : Nat) (x : AV), args[i]? = some x → ∃ β v, vs[i]? = some v ∧ x.holds E β w v) (hwk : ∀ w', Ext w w' → C.wok w' := by intros; exact True.intro) :
    Calls P f vs.toArray w fun e w' => ∃ β v, e = .returned v ∧ (toAV l).holds E' β w' v ∧ Ext w w' := by
  unfold funL at hT
  split at hT
  · rename_i c hb
    refine calls_of_wp hf hb ?_
    refine execL_sound (B := w.heap.size) (w0 := w) (n := fn.ntmps) (E' := E') (l := l) hm (fun E hE => ⟨hC E hE, hwk⟩) c 0 _ _ noStk G _ T E m _ w hG hE ⟨fun _ => 0, ?_⟩ hT hR ?_
    · refine ⟨fun t x hx => ?_, fun x cs h => (by cases h), fun x y h => (by cases h), fun t x off h => ?_, ?_, rfl, Nat.le_refl _, Below.refl _ _, fun x cs h => (by cases h)⟩
      · obtain ⟨β, v, h1, h2⟩ := hv t x hx
        have hlt := (List.getElem?_eq_some_iff.1 h1).1
        have e : (vs.toArray ++ Array.replicate (fn.ntmps - vs.toArray.size) Go.undef).getD t Go.undef = v := by
          rw [Array.getD_eq_getD_getElem?, Array.getElem?_append_left (by simpa using hlt)]
          simp [h1]
        rw [e]
        have hnp' : noPtr x = true := List.all_eq_true.1 hnp x (List.mem_of_getElem? hx)
        cases x with
        | ptr y off => cases hnp'
        | _ => exact h2
      · have hnp' : noPtr (.ptr x off) = true := List.all_eq_true.1 hnp _ (List.mem_of_getElem? h)
        cases hnp'
      · simp; omega
    · intro K' G' S' e T' E1 m' hm' hK' h1 hR' hG' hE' a' w' h4'
      have fin : (resE C S' fn.results.toList).map LTree.leaf = some T' → a'.defers = [] ∧ ∃ v, (results fn a'.tmps).run P w' = .ok v w' ∧ (∃ β v', Ending.returned v = .returned v' ∧ (toAV l).holds E' β w' v' ∧ Ext w w') := by
        intro hh
        obtain ⟨l', hl, rfl⟩ := Option.map_eq_some_iff.1 hh
        cases hR' with
        | leaf =>
          obtain ⟨β, v, r1, r2⟩ := resE_sound (hC _ hE') h4' (fn := fn) (rs := fn.results.toList) (by simp) h4 hl
          obtain ⟨β', hS⟩ := h4'
          exact ⟨hS.nd, v, r1, β, v, rfl, r2, hS.bl⟩
      cases e with
      | norm => exact fin h1
      | ret => exact fin h1
      | exit id => cases h1
  · cases hT
end

end Go.Proofs.YtdblkeeicmncfaaGreatDoor
end

/- ---- Cut ---- -/
section
/-
  strings.Cut, and what it asks of the world; contracts that ask something of the world.
-/
set_option maxRecDepth 100000
namespace Go.Proofs.YtdblkeeicmncfaaGreatDoor
open Go.RowKit Go.Shelf

def laysM145_ren : Go.Shelf.Ren := ⟨fun | 145 => 76 | 220 => 98 | 219 => 112 | 217 => 128 | 225 => 129 | 224 => 130 | 267 => 131 | 266 => 138 | 314 => 139 | n => n, fun | 9 => 9 | 4 => 4 | 59 => 78 | 3 => 3 | 5 => 5 | 46 => 119 | 146 => 126 | 51 => 71 | n => n, fun | 1 => 0 | n => n⟩
theorem laysM145 : Go.Proofs.LaysM.n145 Tryz.prog laysM145_ren := {
  mixed := by kernel_rfl
  f145 := Tryz.func76.trans (congrArg some (by kernel_rfl))
  f217 := Tryz.func128.trans (congrArg some (by kernel_rfl))
  f219 := Tryz.func112.trans (congrArg some (by kernel_rfl))
  f220 := Tryz.func98.trans (congrArg some (by kernel_rfl))
  f224 := Tryz.func130.trans (congrArg some (by kernel_rfl))
  f225 := Tryz.func129.trans (congrArg some (by kernel_rfl))
  f266 := Tryz.func138.trans (congrArg some (by kernel_rfl))
  f267 := Tryz.func131.trans (congrArg some (by kernel_rfl))
  f314 := Tryz.func139.trans (congrArg some (by kernel_rfl))
  t3 := Tryz.underlying3
  a3 := Tryz.isAgg3
  z3 := Tryz.sizeOf3
  v3 := Tryz.zeroValue3
  t4 := Tryz.underlying4
  a4 := Tryz.isAgg4
  z4 := Tryz.sizeOf4
  v4 := Tryz.zeroValue4
  t5 := Tryz.underlying5
  a5 := Tryz.isAgg5
  z5 := Tryz.sizeOf5
  v5 := Tryz.zeroValue5
  t9 := Tryz.underlying9
  a9 := Tryz.isAgg9
  z9 := Tryz.sizeOf9
  v9 := Tryz.zeroValue9
  t46 := Tryz.underlying119
  a46 := Tryz.isAgg119
  z46 := Tryz.sizeOf119
  v46 := Tryz.zeroValue119
  t51 := Tryz.underlying71
  a51 := Tryz.isAgg71
  z51 := Tryz.sizeOf71
  v51 := Tryz.zeroValue71
  t59 := Tryz.underlying78
  a59 := Tryz.isAgg78
  z59 := Tryz.sizeOf78
  v59 := Tryz.zeroValue78
  t146 := Tryz.underlying126
  a146 := Tryz.isAgg126
  z146 := Tryz.sizeOf126
  v146 := Tryz.zeroValue126
  g1 := by kernel_rfl
  i3 := by kernel_rfl
  i4 := by kernel_rfl
  i5 := by kernel_rfl
  i9 := by kernel_rfl
  i46 := by kernel_rfl
  i51 := by kernel_rfl
  i59 := by kernel_rfl
  i146 := by kernel_rfl
  m1 := by kernel_rfl
  s1_3 := fun w h => Go.Proofs.cell_of_shapedOpen_int (zero := #[.int .i64 0]) (t := 3) h (of_decide_eq_true (by kernel_rfl)) (by kernel_rfl) rfl (by kernel_rfl) (by kernel_rfl) Tryz.underlying3 }


/-- internal/bytealg.MaxLen holds some number. -/
def WM (w : World) : Prop := ∃ m, w.cell? ⟨0, 0, none⟩ = some (.int .i64 m)
theorem WM.ext {w w' : World} (h : WM w) (e : Ext w w') : WM w' := by
  obtain ⟨m, hm⟩ := h
  exact ⟨m, e.cell hm⟩
theorem WM.shaped {w : World} (h : w.ShapedOpen Tryz.prog) : WM w := laysM145.s1_3 w h
theorem cutS_calls (w : World) (hW : WM w) (s sep : ByteArray) (hs : s.size < 4294967281) :
    Calls Tryz.prog 76 #[.string s, .string sep] w fun e w' => e = .returned (.tuple #[.string ⟨(Lib.cut s.data.toList sep.data.toList).1.toArray⟩, .string ⟨(Lib.cut s.data.toList sep.data.toList).2.1.toArray⟩, .bool (Lib.cut s.data.toList sep.data.toList).2.2]) ∧ Ext w w' := by
  obtain ⟨m, hm⟩ := hW
  refine (Any.strings_Cut { laysM145 with } s sep m w hs hm).mono ?_
  rintro e w' ⟨h1, n, rfl⟩
  exact ⟨h1, (Ext.refl w).drewN n⟩
/-- A contract that asks something of the world. -/
structure ConW (P : Program) (W : World → Prop) (E : Env) (f : Nat) (k : Con) : Prop where
  calls : ∀ args G r, k args G = some r → G.holds E → ∀ (β : Nat → Nat) (w : World) (vs : List Value), W w → (∀ (i : Nat) (x : AV), args[i]? = some x → ∃ v, vs[i]? = some v ∧ x.holds E β w v) → vs.length = args.length →
    Calls P f vs.toArray w (fun e w' => ∃ v, e = .returned v ∧ r.holds E β w' v ∧ Ext w w')
  nptr : ∀ args G r, k args G = some r → ∀ x off, r ≠ .ptr x off
  body : ∃ fn, P.funcs[f]? = some fn ∧ fn.name ≠ "runtime.NumGoroutine" ∧ fn.body.isNone = false
theorem ConOK.toW {P : Program} {W : World → Prop} {E : Env} {f : Nat} {k : Con} (h : ConOK P E f k) : ConW P W E f k :=
  ⟨fun args G r hr hG β w vs _ hv hl => h.calls args G r hr hG β w vs hv hl, h.nptr, h.body⟩
structure TabW (P : Program) (W : World → Prop) (E : Env) (l : List (Nat × Con)) : Prop where
  all : ∀ p ∈ l, ConW P W E p.1 p.2
theorem TabW.nil {P : Program} {W : World → Prop} {E : Env} : TabW P W E [] := ⟨fun p h => by simp at h⟩
theorem TabW.cons {P : Program} {W : World → Prop} {E : Env} {f : Nat} {k : Con} {l : List (Nat × Con)} (h : ConW P W E f k) (t : TabW P W E l) : TabW P W E ((f, k) :: l) := ⟨fun p hp => by
  rcases List.mem_cons.1 hp with rfl | hp
  · exact h
  · exact t.all p hp⟩
theorem TabOK.toW {P : Program} {W : World → Prop} {E : Env} {l : List (Nat × Con)} (h : TabOK P E l) : TabW P W E l := ⟨fun p hp => (h.all p hp).toW⟩
def cfgW (W : World → Prop) (tab : List (Nat × Con)) : Cfg := { cfgOf tab with wok := W }
theorem cfgW_ok {E : Env} {W : World → Prop} {tab : List (Nat × Con)} (h : TabW Tryz.prog W E tab) : CfgOK Tryz.prog E (cfgW W tab) := by
  have k : CfgOK Tryz.prog E (cfgOf []) := cfg_ok .nil
  refine ⟨k.zero, k.ag, k.fld, k.flds, k.bool, k.row, k.arr, ?_, ?_, ?_, k.slc, k.strT, k.cnv, k.apd⟩
  · intro f args M G r hr hG β w vs hwk hv hlen hm
    obtain ⟨kk, hk, hkr⟩ := tabE_mem hr
    exact (h.all _ hk).calls args G r hkr hG β w vs hwk hv hlen
  · intro f args M G r hr x off
    obtain ⟨kk, hk, hkr⟩ := tabE_mem hr
    exact (h.all _ hk).nptr args G r hkr x off
  · intro f args M G r hr
    obtain ⟨kk, hk, hkr⟩ := tabE_mem hr
    exact (h.all _ hk).body

end Go.Proofs.YtdblkeeicmncfaaGreatDoor
end

/- ---- Dig ---- -/
section
/-
  Decimal digits: which strings are numerals, and the value of at most nine digits.
-/
set_option maxRecDepth 100000
namespace Go.Proofs.YtdblkeeicmncfaaGreatDoor
open Go.RowKit

def digB (c : UInt8) : Bool := decide (48 ≤ c.toNat) && decide (c.toNat ≤ 57)
/-- The value of digits. -/
def dv (l : List UInt8) : Nat := l.foldl (fun v c => v * 10 + (c.toNat - 48)) 0
def numB (l : List UInt8) : Bool := !l.isEmpty && (!(l.headD 0 == 48 && decide (1 < l.length)) && l.all digB)
theorem dv_snoc (l : List UInt8) (c : UInt8) : dv (l ++ [c]) = dv l * 10 + (c.toNat - 48) := by unfold dv; rw [List.foldl_append]; rfl
theorem dv_append (l r : List UInt8) : dv (l ++ r) = dv l * 10 ^ r.length + dv r := by
  induction r generalizing l with
  | nil => simp [dv]
  | cons c r ih =>
    have e1 : l ++ c :: r = (l ++ [c]) ++ r := by simp
    have e2 : dv (c :: r) = dv [c] * 10 ^ r.length + dv r := ih [c]
    rw [e1, ih, dv_snoc, e2, List.length_cons, Nat.pow_succ]
    have e3 : dv [c] = c.toNat - 48 := by simp [dv]
    rw [e3, Nat.add_mul, Nat.mul_assoc, Nat.mul_comm 10]
    omega
theorem dv_lt {l : List UInt8} (h : l.all digB = true) : dv l < 10 ^ l.length := by
  induction l with
  | nil => simp [dv]
  | cons c r ih =>
    simp only [List.all_cons, Bool.and_eq_true] at h
    have h1 := ih h.2
    have h2 := h.1
    unfold digB at h2
    rw [Bool.and_eq_true, decide_eq_true_iff, decide_eq_true_iff] at h2
    have e2 : dv (c :: r) = dv [c] * 10 ^ r.length + dv r := dv_append [c] r
    have e3 : dv [c] = c.toNat - 48 := by simp [dv]
    have h4 : (c.toNat - 48) * 10 ^ r.length ≤ 9 * 10 ^ r.length := Nat.mul_le_mul_right _ (by omega)
    rw [e2, e3, List.length_cons, Nat.pow_succ]
    omega
theorem bytes_len (s : ByteArray) : s.data.toList.length = s.size := Array.length_toList
theorem bytes_take (s : ByteArray) (k : Nat) (h : k < s.size) : s.data.toList.take (k + 1) = s.data.toList.take k ++ [s[k]] := by
  rw [List.take_succ_eq_append_getElem (by rw [bytes_len]; exact h)]; rfl
theorem bytes_all (s : ByteArray) : s.data.toList.take s.size = s.data.toList := List.take_of_length_le (by rw [bytes_len]; omega)

set_option maxRecDepth 100000 in
set_option maxHeartbeats 800000 in
theorem groupValue_calls (w : World) (s : ByteArray) (hs : s.size ≤ 9) (hd : s.data.toList.all digB = true) :
    Calls Tryz.prog 115 #[.string s] w fun e w' => e = .returned (.int .u32 (dv s.data.toList : Nat)) ∧ w = w' := by
  have HD := Lib.hid hd
  clear hd
  go_enter Tryz.func115, Tryz.ntmps115
  go_wp2
  go_loop [3, 7] (fun v i => ∃ k : Nat, k ≤ s.size ∧ i = .int .i64 k ∧ v = .int .u32 (dv (s.data.toList.take k) : Nat)) (fun _ i => s.size - (intOf i).toNat)
  case atStart => exact ⟨0, Nat.zero_le _, rfl, rfl⟩
  case round =>
    obtain ⟨k, hk, rfl, rfl⟩ := hrel
    by_cases hlt : k < s.size
    · have ht := bytes_take s k hlt
      have hall : (s.data.toList.take (k + 1)).all digB = true := by
        refine List.all_eq_true.2 (fun x hx => ?_)
        exact List.all_eq_true.1 HD.out x (List.mem_of_mem_take hx)
      rw [ht, List.all_append, Bool.and_eq_true] at hall
      have hb := dv_lt hall.1
      have hdc : digB s[k] = true := by simpa using hall.2
      unfold digB at hdc
      rw [Bool.and_eq_true, decide_eq_true_iff, decide_eq_true_iff] at hdc
      have hsn := dv_snoc (s.data.toList.take k) s[k]
      rw [← ht] at hsn
      rw [List.length_take, Nat.min_eq_left (by rw [bytes_len]; omega)] at hb
      have hb2 : dv (s.data.toList.take k) < 100000000 := Nat.lt_of_lt_of_le hb (by
        have := Nat.pow_le_pow_right (n := 10) (by omega) (show k ≤ 8 by omega)
        omega)
      generalize dv (s.data.toList.take k) = V at *
      obtain ⟨c, hc⟩ : ∃ c, c = s[k].toNat := ⟨_, rfl⟩
      rw [← hc] at hdc hsn
      have HS := Lib.hid hsn
      have HC := Lib.hid hc
      clear ht hall hb hsn hc
      go_wp2
      go_round
      case rel =>
        refine ⟨k + 1, by omega, by go_num, ?_⟩
        rw [HS.out, ← HC.out]
        congr 1
        omega
      case measure => simp [intOf]; omega
    · have e : k = s.size := by omega
      subst e
      have HA := bytes_all s
      go_wp2
      go_ret
      exact ⟨rfl, rfl⟩

set_option maxRecDepth 100000 in
set_option maxHeartbeats 1600000 in
theorem isNumeral_calls (w : World) (s : ByteArray) (hs : s.size ≤ 9223372036854775807) :
    Calls Tryz.prog 114 #[.string s] w fun e w' => e = .returned (.bool (numB s.data.toList)) ∧ w = w' := by
  rcases Nat.eq_zero_or_pos s.size with h0 | h0
  · have hl : s.data.toList = [] := List.eq_nil_of_length_eq_zero (by rw [bytes_len]; exact h0)
    have HR := Lib.hid (show numB s.data.toList = false by rw [hl]; rfl)
    have e1 : s.toList = [] := by rw [ByteArray.toList_eq, hl]
    have e2 : s.toList.isEmpty = true := by rw [e1]; rfl
    clear hl
    go_enter Tryz.func114, Tryz.ntmps114
    go_wp2
    go_ret
    exact ⟨by rw [HR.out]; rfl, rfl⟩
  · obtain ⟨c, r, hl⟩ : ∃ c r, s.data.toList = c :: r := by
      cases hh : s.data.toList with
      | nil => have := bytes_len s; rw [hh] at this; simp at this; omega
      | cons c r => exact ⟨c, r, rfl⟩
    have hc0 : s[0] = c := by
      have : s.data.toList[0]'(by rw [hl]; simp) = c := by simp [hl]
      exact this
    have hrl : r.length + 1 = s.size := by rw [← bytes_len, hl, List.length_cons]
    have hne : s.toList.isEmpty = false := by rw [ByteArray.toList_eq, hl]; rfl
    have hne2 : (!s.toList.isEmpty) = true := by rw [hne]; rfl
    have hne3 : ¬ s.toList = [] := by rw [ByteArray.toList_eq, hl]; simp
    by_cases hz : c.toNat = 48 ∧ 1 < s.size
    · have HR : Hid (numB s.data.toList = false) := by
        unfold Hid numB
        rw [hl]
        have : c = 48 := UInt8.toNat_inj.1 hz.1
        subst this
        have : 0 < r.length := by omega
        simp [this]
      have f0 : ((s[0].toNat : Int) == 48) = true := by rw [hc0]; simp [hz.1]
      have f1 : (1 : Int) < (s.size : Int) := by omega
      clear hl hc0 hz hrl
      go_enter Tryz.func114, Tryz.ntmps114
      go_wp2
      go_ret
      exact ⟨by rw [HR.out]; rfl, rfl⟩
    · have HR : Hid (numB s.data.toList = s.data.toList.all digB) := by
        unfold Hid numB
        rw [hl]
        have : ((c :: r).headD 0 == 48 && decide (1 < (c :: r).length)) = false := by
          rw [Bool.and_eq_false_iff]
          by_cases h1 : c.toNat = 48
          · right
            rw [decide_eq_false_iff_not, List.length_cons]
            omega
          · left
            simp only [List.headD_cons, beq_eq_false_iff_ne]
            intro e
            subst e
            exact h1 rfl
        rw [this]
        rfl
      have body : ∀ W, (W = w) → True := fun _ _ => trivial
      have f0 : ¬ 1 < s.size → True := fun _ => trivial
      clear body f0
      have hcut : ((s[0].toNat : Int) == 48) = true ∧ ¬ (1 : Int) < (s.size : Int) ∨ ((s[0].toNat : Int) == 48) = false := by
        rw [hc0]
        by_cases h1 : c.toNat = 48
        · left; exact ⟨by rw [beq_iff_eq]; omega, by omega⟩
        · right; rw [beq_eq_false_iff_ne]; omega
      clear hl hc0 hz hrl
      rcases hcut with ⟨f0, f1⟩ | f0
      all_goals
        go_enter Tryz.func114, Tryz.ntmps114
        go_wp2
        clear f0
        go_loop [3, 18] (fun _ i => ∃ k : Nat, k ≤ s.size ∧ i = .int .i64 k ∧ Hid ((s.data.toList.take k).all digB = true)) (fun _ i => s.size - (intOf i).toNat)
        case atStart => exact ⟨0, Nat.zero_le _, rfl, rfl⟩
        case round =>
          obtain ⟨k, hk, rfl, HK⟩ := hrel
          by_cases hlt : k < s.size
          · have ht := bytes_take s k hlt
            have HT : Hid ((s.data.toList.take (k + 1)).all digB = digB s[k]) := by
              unfold Hid; rw [ht, List.all_append, HK.out]; simp
            have HD : Hid (digB s[k] = false → s.data.toList.all digB = false) := by
              intro hd
              rw [List.all_eq_false]
              refine ⟨s[k], ?_, by rw [hd]; simp⟩
              exact List.getElem_mem (l := s.data.toList) (by rw [bytes_len]; exact hlt)
            have HE : Hid (digB s[k] = (decide (48 ≤ s[k].toNat) && decide (s[k].toNat ≤ 57))) := rfl
            clear ht
            by_cases d1 : s[k].toNat < 48
            · have g1 : (s[k].toNat : Int) < 48 := by omega
              have HF := Lib.hid (HD.out (by rw [HE.out, decide_eq_false (by omega)]; rfl))
              clear d1
              go_wp2
              go_ret
              exact ⟨by rw [HR.out, HF.out]; rfl, rfl⟩
            · have g1 : ¬ (s[k].toNat : Int) < 48 := by omega
              by_cases d2 : 57 < s[k].toNat
              · have g2 : (57 : Int) < (s[k].toNat : Int) := by omega
                have HF := Lib.hid (HD.out (by rw [HE.out, decide_eq_false (p := s[k].toNat ≤ 57) (by omega), Bool.and_false]))
                clear d1 d2
                go_wp2
                go_ret
                exact ⟨by rw [HR.out, HF.out]; rfl, rfl⟩
              · have g2 : ¬ (57 : Int) < (s[k].toNat : Int) := by omega
                have HF := Lib.hid (show digB s[k] = true by rw [HE.out, decide_eq_true (by omega), decide_eq_true (by omega)]; rfl)
                clear d1 d2
                go_wp2
                go_round
                case rel => exact ⟨k + 1, by omega, by go_num, HT.out.trans HF.out⟩
                case measure => simp [intOf]; omega
          · have e : k = s.size := by omega
            subst e
            have HA : Hid (s.data.toList.all digB = true) := by have := HK.out; rw [bytes_all] at this; exact this
            go_wp2
            go_ret
            exact ⟨by rw [HR.out, HA.out]; rfl, rfl⟩

end Go.Proofs.YtdblkeeicmncfaaGreatDoor
end

/- ---- Fmt ---- -/
section
/-
  Format: the decimal text of an integer.
-/
set_option maxRecDepth 100000
namespace Go.Proofs.YtdblkeeicmncfaaGreatDoor
open Go.RowKit Go.Shelf

def laysM288_ren : Go.Shelf.Ren := ⟨fun | 288 => 100 | 283 => 116 | 284 => 117 | 285 => 118 | 286 => 119 | 129 => 124 | 317 => 133 | 318 => 134 | 319 => 135 | 320 => 136 | 337 => 141 | 338 => 142 | n => n, fun | 37 => 81 | 53 => 63 | 3 => 3 | 4 => 4 | 9 => 9 | 171 => 106 | 0 => 0 | 173 => 109 | 212 => 121 | 51 => 71 | 5 => 5 | 20 => 20 | 213 => 122 | 46 => 119 | 232 => 130 | 233 => 131 | n => n, fun | 17 => 1 | 18 => 4 | 19 => 5 | n => n⟩
theorem laysM288 : Go.Proofs.LaysM.n288 Tryz.prog laysM288_ren := {
  mixed := by kernel_rfl
  f129 := Tryz.func124.trans (congrArg some (by kernel_rfl))
  f283 := Tryz.func116.trans (congrArg some (by kernel_rfl))
  f284 := Tryz.func117.trans (congrArg some (by kernel_rfl))
  f285 := Tryz.func118.trans (congrArg some (by kernel_rfl))
  f286 := Tryz.func119.trans (congrArg some (by kernel_rfl))
  f288 := Tryz.func100.trans (congrArg some (by kernel_rfl))
  f317 := Tryz.func133.trans (congrArg some (by kernel_rfl))
  f318 := Tryz.func134.trans (congrArg some (by kernel_rfl))
  f319 := Tryz.func135.trans (congrArg some (by kernel_rfl))
  f320 := Tryz.func136.trans (congrArg some (by kernel_rfl))
  f337 := Tryz.func141.trans (congrArg some (by kernel_rfl))
  f338 := Tryz.func142.trans (congrArg some (by kernel_rfl))
  t0 := Tryz.underlying0
  a0 := Tryz.isAgg0
  z0 := Tryz.sizeOf0
  v0 := Tryz.zeroValue0
  t3 := Tryz.underlying3
  a3 := Tryz.isAgg3
  z3 := Tryz.sizeOf3
  v3 := Tryz.zeroValue3
  t4 := Tryz.underlying4
  a4 := Tryz.isAgg4
  z4 := Tryz.sizeOf4
  v4 := Tryz.zeroValue4
  t5 := Tryz.underlying5
  a5 := Tryz.isAgg5
  z5 := Tryz.sizeOf5
  v5 := Tryz.zeroValue5
  t9 := Tryz.underlying9
  a9 := Tryz.isAgg9
  z9 := Tryz.sizeOf9
  v9 := Tryz.zeroValue9
  t20 := Tryz.underlying20
  a20 := Tryz.isAgg20
  z20 := Tryz.sizeOf20
  v20 := Tryz.zeroValue20
  t37 := Tryz.underlying81
  a37 := Tryz.isAgg81
  z37 := Tryz.sizeOf81
  v37 := Tryz.zeroValue81
  t46 := Tryz.underlying119
  a46 := Tryz.isAgg119
  z46 := Tryz.sizeOf119
  v46 := Tryz.zeroValue119
  t51 := Tryz.underlying71
  a51 := Tryz.isAgg71
  z51 := Tryz.sizeOf71
  v51 := Tryz.zeroValue71
  t53 := Tryz.underlying63
  a53 := Tryz.isAgg63
  z53 := Tryz.sizeOf63
  v53 := Tryz.zeroValue63
  t171 := Tryz.underlying106
  a171 := Tryz.isAgg106
  z171 := Tryz.sizeOf106
  v171 := Tryz.zeroValue106
  t173 := Tryz.underlying109
  a173 := Tryz.isAgg109
  z173 := Tryz.sizeOf109
  v173 := Tryz.zeroValue109
  t212 := Tryz.underlying121
  a212 := Tryz.isAgg121
  z212 := Tryz.sizeOf121
  v212 := Tryz.zeroValue121
  t213 := Tryz.underlying122
  a213 := Tryz.isAgg122
  z213 := Tryz.sizeOf122
  t232 := Tryz.underlying130
  a232 := Tryz.isAgg130
  z232 := Tryz.sizeOf130
  v232 := Tryz.zeroValue130
  t233 := Tryz.underlying131
  a233 := Tryz.isAgg131
  z233 := Tryz.sizeOf131
  v233 := Tryz.zeroValue131
  g17 := by kernel_rfl
  g18 := by kernel_rfl
  g19 := by kernel_rfl
  i0 := by kernel_rfl
  i3 := by kernel_rfl
  i4 := by kernel_rfl
  i5 := by kernel_rfl
  i9 := by kernel_rfl
  i20 := by kernel_rfl
  i37 := by kernel_rfl
  i46 := by kernel_rfl
  i51 := by kernel_rfl
  i53 := by kernel_rfl
  i171 := by kernel_rfl
  i173 := by kernel_rfl
  i212 := by kernel_rfl
  i232 := by kernel_rfl
  i233 := by kernel_rfl
  m17 := by kernel_rfl
  m18 := by kernel_rfl
  m19 := by kernel_rfl }


/-- The last k decimal digits. -/
def pad : Nat → Nat → List UInt8
  | 0, _ => []
  | k + 1, r => pad k (r / 10) ++ [UInt8.ofNat (48 + r % 10)]
theorem pad_length : ∀ (k r : Nat), (pad k r).length = k
  | 0, _ => rfl
  | k + 1, r => by simp [pad, pad_length k]
theorem dec_pad (q : Nat) (hq : 0 < q) : ∀ (k r : Nat), r < 10 ^ k → Lib.decDigits (q * 10 ^ k + r) = Lib.decDigits q ++ pad k r
  | 0, r, h => by
    have : r = 0 := by simpa using h
    subst this
    simp [pad]
  | k + 1, r, h => by
    have h10 : (10 : Nat) ^ (k + 1) = 10 * 10 ^ k := by rw [Nat.pow_succ, Nat.mul_comm]
    have hk : 0 < 10 ^ k := Nat.pow_pos (by omega)
    have e : q * 10 ^ (k + 1) + r = 10 * (q * 10 ^ k) + r := by rw [h10, Nat.mul_left_comm]
    have hge : 1 ≤ q * 10 ^ k := Nat.mul_pos hq hk
    rw [e, Lib.decDigits, dif_neg (by omega), show (10 * (q * 10 ^ k) + r) / 10 = q * 10 ^ k + r / 10 by omega, show (10 * (q * 10 ^ k) + r) % 10 = r % 10 by omega, dec_pad q hq k (r / 10) (by rw [h10] at h; omega)]
    rw [pad, List.append_assoc]
/-- The groups of nine digits below the top limb. -/
def groups : List Nat → List UInt8
  | [] => []
  | x :: xs => groups xs ++ pad 9 x
theorem dec_limbs (t : Nat) (ht : 0 < t) : ∀ (xs : List Nat), Dig xs → Lib.decDigits (val (xs ++ [t])) = Lib.decDigits t ++ groups xs
  | [], _ => by simp [val, groups]
  | x :: xs, h => by
    have hx := h.head
    have ih := dec_limbs t ht xs h.tail
    have hp : 0 < val (xs ++ [t]) := by
      have : 0 < val (xs ++ [t]) ∨ val (xs ++ [t]) = 0 := by omega
      rcases this with h | h
      · exact h
      · exfalso
        have h1 : val (xs ++ [t]) = val xs + 1000000000 ^ xs.length * val [t] := val_append xs [t]
        have h2 : 0 < 1000000000 ^ xs.length * val [t] := Nat.mul_pos (Nat.pow_pos (by omega)) (by simp [val]; omega)
        omega
    have e : val ((x :: xs) ++ [t]) = val (xs ++ [t]) * 10 ^ 9 + x := by
      show x + 1000000000 * val (xs ++ [t]) = _
      rw [show (10 : Nat) ^ 9 = 1000000000 from rfl]
      omega
    rw [e, dec_pad _ hp 9 x hx, ih, groups, List.append_assoc]
/-- The table of strconv's powers of ten is what it is. -/
def WT (w : World) : Prop := Lib.TabIs Tryz.prog w "internal/strconv.uint64pow10" .u64 Lib.pow10Tab
theorem WT.ext {w w' : World} (h : WT w) (e : Ext w w') : WT w' := Lib.tabBelow_of_tabIs h w' e
theorem appendUint_calls (w : World) (hW : WT w) (B n u : Nat) (h0 : 0 < u) (hu : u < 1000000000) (sv : Value) (xs : List Value) (hown : w.ownsRow B 5 1 sv n xs) (hB : B ≤ w.heap.size) (hl : n + 20 ≤ 140737488355328) :
    Calls Tryz.prog 78 #[sv, .int .u64 u, .int .i64 10] w fun e w' => ∃ v', e = .returned v' ∧ w'.ownsRow B 5 1 v' (n + (Lib.decDigits u).length) (xs ++ Lib.byteCells (Lib.decDigits u)) ∧ Below B w w' := by
  have key : Calls Tryz.prog 100 #[sv, .int .u64 u, .int .i64 10] w fun e w' => ∃ v', e = .returned v' ∧ w'.ownsRow B 5 1 v' (n + (Lib.decDigits u).length) (xs ++ Lib.byteCells (Lib.decDigits u)) ∧ Below B w w' := by
    rcases Nat.lt_or_ge u 100 with h | h
    · refine (Any.internal_strconv_AppendUint_10_small laysM288 B n u h sv xs w hown hB hl).mono ?_
      rintro e w' ⟨v', h1, h2, h3, _⟩
      exact ⟨v', h1, h2, h3⟩
    · refine (Any.internal_strconv_AppendUint_10_big laysM288 B n u h (by omega) sv xs w hown hB hl hW).mono ?_
      rintro e w' ⟨v', h1, h2, h3, _⟩
      exact ⟨v', h1, h2, h3⟩
  have HK := Lib.hid key
  clear key
  go_enter Tryz.func78, Tryz.ntmps78
  go_wp2_with fail
  refine HK.out.mono ?_
  rintro e w' ⟨v', rfl, h1, h2⟩
  go_wp2
  go_ret
  exact ⟨v', rfl, h1, h2⟩

theorem info_u8 : (Tryz.prog.info? 5).map (fun i => (i.zero, i.size, i.bytes)) = some (some (.int .u8 0), 1, 1) := by kernel_rfl
theorem pad_cell (m : Nat) : Value.int .u8 (((UInt8.ofNat (48 + m % 10)).toNat : Nat) : Int) = .int .u8 (48 + (m : Int) % 10) := by
  rw [UInt8.toNat_ofNat', show (48 + m % 10) % 2 ^ 8 = 48 + m % 10 by omega]
  congr 1
theorem pad_cells (x : Nat) : (#[Value.int .u8 (48 + (x : Int) / 10 / 10 / 10 / 10 / 10 / 10 / 10 / 10 % 10), .int .u8 (48 + (x : Int) / 10 / 10 / 10 / 10 / 10 / 10 / 10 % 10), .int .u8 (48 + (x : Int) / 10 / 10 / 10 / 10 / 10 / 10 % 10), .int .u8 (48 + (x : Int) / 10 / 10 / 10 / 10 / 10 % 10), .int .u8 (48 + (x : Int) / 10 / 10 / 10 / 10 % 10), .int .u8 (48 + (x : Int) / 10 / 10 / 10 % 10), .int .u8 (48 + (x : Int) / 10 / 10 % 10), .int .u8 (48 + (x : Int) / 10 % 10), .int .u8 (48 + (x : Int) % 10)] : Array Value) = (Lib.byteCells (pad 9 x)).toArray := by
  simp only [pad, Lib.byteCells, List.map_append, List.map_cons, List.map_nil, pad_cell, List.nil_append, List.cons_append]
  rfl

set_option maxRecDepth 100000 in
set_option maxHeartbeats 6400000 in
theorem appendGroup_calls (w : World) (B n x : Nat) (hx : x < 1000000000) (sv : Value) (xs : List Value) (hown : w.ownsRow B 5 1 sv n xs) (hB : B ≤ w.heap.size) (hl : n + 20 ≤ 140737488355328) :
    Calls Tryz.prog 79 #[sv, .int .u32 x] w fun e w' => ∃ v', e = .returned v' ∧ w'.ownsRow B 5 1 v' (n + 9) (xs ++ Lib.byteCells (pad 9 x)) ∧ Below B w w' := by
  obtain ⟨i0, hi, hz0, hz1, hz2⟩ := info_parts info_u8
  have hown' := hown.alloc (.cells (Lib.byteCells (pad 9 x)).toArray 89)
  have hcl : (Lib.byteCells (pad 9 x)).length = 9 := by rw [Lib.byteCells_length, pad_length]
  have hc : ∀ j u, (Lib.byteCells (pad 9 x))[j]? = some u → (w.alloc (.cells (Lib.byteCells (pad 9 x)).toArray 89)).cell? ((⟨w.heap.size, 0, none⟩ : Addr).add j) = some u := by
    intro j u hj
    rw [Lib.add_plain, Nat.zero_add]
    have hh : (w.alloc (.cells (Lib.byteCells (pad 9 x)).toArray 89)).heap[w.heap.size]? = some (.cells (Lib.byteCells (pad 9 x)).toArray 89 (0, 0)) := heap_alloc_new w _
    simp only [World.cell?, hh]
    simpa using hj
  have HC := Lib.hid hc
  have HP := Lib.hid (pad_cells x)
  have HO := Lib.hid hown'
  have HL := Lib.hid hcl
  clear hown hown' hcl hc
  go_enter Tryz.func79, Tryz.ntmps79
  go_wp2
  refine wp_loop_rounds 10 ?_
  rw [rounds_succ]
  go_wp2
  rw [rounds_succ]
  go_wp2
  rw [rounds_succ]
  go_wp2
  rw [rounds_succ]
  go_wp2
  rw [rounds_succ]
  go_wp2
  rw [rounds_succ]
  go_wp2
  rw [rounds_succ]
  go_wp2
  rw [rounds_succ]
  go_wp2
  rw [rounds_succ]
  go_wp2
  rw [rounds_succ, HP.out]
  obtain ⟨W, hW⟩ : ∃ W, W = w.alloc (.cells (Lib.byteCells (pad 9 x)).toArray 89) := ⟨_, rfl⟩
  rw [← hW] at HC HO ⊢
  have hB2 : B ≤ W.heap.size := by rw [hW]; simp; omega
  have hbel : Below B w W := by rw [hW]; exact (Below.refl _ _).alloc hB _
  have HW := Lib.hid hW
  clear hW HP
  go_wp2_with (at_builtin; refine wpList_append_own _ rfl _ _ 81 rfl B 5 i0 (.int .u8 0) 1 1 Tryz.underlying81 hi hz0 hz1 hz2 rfl (by decide) _ _ _ rfl HO.out ⟨w.heap.size, 0, none⟩ 9 9 (Lib.byteCells (pad 9 x)) rfl HL.out HC.out ?c2 ?c3 ?c4 hB2 ?_)
  case c2 => intro u' hu'; simp only [Lib.byteCells, List.mem_map] at hu'; obtain ⟨b, _, rfl⟩ := hu'; rfl
  case c3 => unfold maxLen; omega
  case c4 => omega
  intro v' w1 hown1 hgrow _
  go_wp2
  go_ret
  exact ⟨v', rfl, hown1, hbel.grown hgrow hB2 (fun k hk => (HO.out.lt k hk).1)⟩

theorem run_mkb (c : Nat) (hc : c ≤ 1000000) (C : Int) (hC : C = c) (w : World) :
    (Instr.makeSlice 81 (.int .i64 0) (.int .i64 C)).run Tryz.prog w = .ok (.slice (some ⟨w.heap.size, 0, none⟩) 0 c) (w.alloc (.cells (madeCells #[Value.int .u8 0] c) 5)) := by
  subst hC
  obtain ⟨i, hi, hzz⟩ := Option.map_eq_some_iff.1 info_u8
  simp only [Prod.mk.injEq] at hzz
  obtain ⟨hz, hs, hb⟩ := hzz
  have hr := run_make (P := Tryz.prog) w 81 5 i (.int .u8 0) Tryz.underlying81 hi hz .i64 .i64 0 (c : Int) (by omega) (by omega) (by rw [hb]; omega) (by omega)
  have e : (Value.int .u8 0).cells = #[Value.int .u8 0] := rfl
  rw [e, hs] at hr
  simpa using hr
/-- What the text is while the groups are appended. -/
def FmtRel (B : Nat) (W : World) (k : Nat) (sv : Value) (l : List UInt8) (wr : World) : Prop :=
  wr.ownsRow B 5 1 sv l.length (Lib.byteCells l) ∧ Below B W wr ∧ B ≤ wr.heap.size ∧ Hid (l.length + 9 * k ≤ 1000000)
theorem groups_drop (xs : List Nat) (k : Nat) (h : k < xs.length) : groups (xs.drop k) = groups (xs.drop (k + 1)) ++ pad 9 (xs.getD k 0) := by
  rw [List.drop_eq_getElem_cons h, groups, List.getD_eq_getElem?_getD, List.getElem?_eq_getElem h]
  rfl
theorem FmtRel.step {B : Nat} {W wr w' : World} {k : Nat} {sv v' : Value} {l m : List UInt8} (h : FmtRel B W (k + 1) sv l wr) (hm : m.length = 9) (ho : w'.ownsRow B 5 1 v' (l.length + 9) (Lib.byteCells l ++ Lib.byteCells m)) (hb : Below B wr w') : FmtRel B W k v' (l ++ m) w' := by
  obtain ⟨h1, h2, h3, h4⟩ := h
  refine ⟨?_, h2.trans hb, Nat.le_trans h3 hb.size, ?_⟩
  · rw [Lib.byteCells_append, List.length_append, hm]; exact ho
  · unfold Hid; have := h4.out; rw [List.length_append, hm]; omega
theorem FmtRel.text {B : Nat} {W wr : World} {k : Nat} {sv : Value} {l : List UInt8} (h : FmtRel B W k sv l wr) (hl : 0 < l.length) : (convert 81 9 sv).run Tryz.prog wr = .ok (.string ⟨l.toArray⟩) wr := by
  obtain ⟨h1, _⟩ := h
  rcases h1.2 with ⟨rfl, h0⟩ | ⟨g, cap, cur, rfl, hg, hh, hnc, hcm, _, htk⟩
  · omega
  · refine run_convert_bytes_back wr 81 9 5 ⟨g, 0, none⟩ cap l Tryz.underlying81 Tryz.underlying5 Tryz.underlying9 (fun j hj => ?_)
    refine h1.cells rfl j _ ?_
    simp [Lib.byteCells, hj]

set_option maxRecDepth 100000 in
set_option maxHeartbeats 6400000 in
theorem format_calls (w : World) (hW : WT w) (v : Value) (z : Int) (h : IsInt w v z) (l : Lim 100000 z) :
    Calls Tryz.prog 53 #[v] w fun e w' => e = .returned (.string ⟨(Lib.itoa z).toArray⟩) ∧ Ext w w' := by
  obtain ⟨ao, cap, s, n, rfl, h1, h2, h3, H4, H5, H6⟩ := h.open_
  obtain ⟨W, hWW, eW, c0, c1⟩ := box1 w (.bool s) (.slice ao (limbs n).length cap) 24
  rcases Nat.eq_zero_or_pos n with h0 | h0
  · subst h0
    have hz : z = 0 := by have h5 := H5.out; cases s <;> simpa [sgn] using h5
    subst hz
    have HR : Hid (Lib.itoa 0 = [48]) := by unfold Hid; exact (Lib.itoa_nonneg 0).trans (Lib.decDigits_one (by omega))
    rw [limbs_zero] at h1 c1 hWW
    clear H4 H5 H6 l h h3
    go_enter Tryz.func53, Tryz.ntmps53
    go_wp2
    go_ret
    exact ⟨by rw [HR.out]; rfl, (Ext.refl w).alloc _⟩
  · have hl : (limbs n).length ≤ 100000 := by unfold Lim at l; rw [← H4.out] at l; exact l
    have hlp : 0 < (limbs n).length := limbs_pos h0
    obtain ⟨b, off, rfl, hcell⟩ := h3.at_ hlp
    obtain ⟨xs, hxs⟩ : ∃ xs, xs = limbs n := ⟨_, rfl⟩
    have hdig : Dig xs := by rw [hxs]; exact dig_limbs n
    have hlast : xs.getD (xs.length - 1) 0 ≠ 0 := by rw [hxs]; exact limbs_last n (fun e => by rw [e] at hlp; simp at hlp)
    have hval : val xs = n := by rw [hxs]; exact val_limbs n
    rw [← hxs] at hl hlp hcell h1 c1 hWW h3 ⊢
    obtain ⟨L, hL⟩ : ∃ L, L + 1 = xs.length := ⟨xs.length - 1, by omega⟩
    obtain ⟨t, ht⟩ : ∃ t, t = xs.getD L 0 := ⟨_, rfl⟩
    have ht0 : 0 < t := by rw [ht]; have := hlast; rw [show xs.length - 1 = L by omega] at this; omega
    have ht9 : t < 1000000000 := by
      rw [ht]
      exact hdig L
    obtain ⟨lows, hlows⟩ : ∃ lows, lows = xs.take L := ⟨_, rfl⟩
    have hll : lows.length = L := by rw [hlows, List.length_take]; omega
    have hsplit : xs = lows ++ [t] := by
      rw [hlows, ht]
      conv => lhs; rw [← List.take_append_drop L xs]
      congr 1
      rw [List.drop_eq_getElem_cons (by omega), List.getD_eq_getElem?_getD, List.getElem?_eq_getElem (by omega), List.drop_eq_nil_of_le (by omega)]
      rfl
    have hdl : Dig lows := by rw [hlows]; exact hdig.take L
    have hdec : Lib.decDigits n = Lib.decDigits t ++ groups lows := by rw [← hval, hsplit]; exact dec_limbs t ht0 lows hdl
    have htop : W.cell? ⟨b, off + L, none⟩ = some (.int .u32 (t : Int)) := by rw [ht]; exact eW.cell (hcell L (by omega))
    have hlow : ∀ k, k < L → W.cell? ⟨b, off + k, none⟩ = some (.int .u32 ((lows.getD k 0 : Nat) : Int)) := by
      intro k hk
      rw [hlows, List.getD_eq_getElem?_getD, List.getElem?_take, if_pos hk, ← List.getD_eq_getElem?_getD]
      exact eW.cell (hcell k (by omega))
    have HLow := Lib.hid hlow
    have HTop := Lib.hid htop
    have HDec := Lib.hid hdec
    have HDig : Hid (∀ k x, x = lows.getD k 0 → x < 1000000000) := fun k x hx => by rw [hx]; exact hdl k
    have HLL := Lib.hid hll
    have hln : (lows.getD 0 0 : Nat) = lows.getD 0 0 := rfl
    have hWs : W.heap.size = w.heap.size + 1 := by rw [← hWW]; simp
    have HZ : Hid (Lib.itoa z = (if s = true then [45] else []) ++ Lib.decDigits n) := by
      unfold Hid
      have h5 := H5.out
      cases s
      · have : z = (n : Int) := h5
        subst this
        rw [Lib.itoa_nonneg]; rfl
      · have : z = -(n : Int) := h5
        subst this
        rw [Lib.itoa_neg n h0]; rfl
    have hLI : (xs.length : Int) = (L : Int) + 1 := by omega
    have hlb : (L : Int) ≤ 100000 := by omega
    have hbig : ∀ (t' : Nat), t' < 1000000000 → (Lib.decDigits t').length ≤ 20 := by
      intro t' h'
      rw [Lib.decDigits_length]
      by_cases h1 : t' = 0
      · subst h1; rw [Lib.nDigits_small (by omega)]; omega
      · have := Lib.numDigits_eq t' (by omega) (by omega)
        split at this <;> omega
    have HDl := Lib.hid (hbig t ht9)
    have HWT : Hid (WT W) := hW.ext eW
    have hlen1 : xs.length = L + 1 := hL.symm
    rw [hlen1] at c1 hWW h1 ⊢
    have hmk := run_mkb (1 + (L + 1) * 9) (by omega) (1 + ((L : Int) + 1) * 9) (by omega)
    have HC := Lib.hid (And.intro c0 c1)
    have HWs := Lib.hid hWs
    have Ht9 := Lib.hid (And.intro ht0 ht9)
    clear H4 H5 H6 l h h3 hcell hlast hval hdig hdl hsplit hdec htop hlow hll hlows ht hxs hbig hWs hln hlen1 hLI hL hl hlp ht0 ht9
    have hp : 0 < L + 1 := by omega
    have hbt := HTop.out
    have hlt : w.heap.size < W.heap.size := by have := HWs.out; omega
    have hblt : b < W.heap.size := lt_of_cell hbt
    have htI : (t : Int) ≤ 999999999 := by have := Ht9.out.2; omega
    obtain ⟨i0, hi, hz0, hz1, hz2⟩ := info_parts info_u8
    have hHI := Lib.hid hi
    have hH0 := Lib.hid hz0
    have hH1 := Lib.hid hz1
    have hH2 := Lib.hid hz2
    clear hi hz0 hz1 hz2
    have hB := Nat.le_refl W.heap.size
    have hown0 := World.ownsRow_made (base := W.heap.size) (e := 5) (size := 1) W (madeCells #[Value.int .u8 0] (1 + (L + 1) * 9)) (1 + (L + 1) * 9) hB (by unfold maxLen; omega) (by rw [size_madeCells, Nat.mul_one])
    have HO := Lib.hid hown0
    clear hown0 hB
    have hwt1 : WT (W.alloc (.cells (madeCells #[Value.int .u8 0] (1 + (L + 1) * 9)) 5)) := HWT.out.ext ((Ext.refl W).alloc _)
    have HW1 := Lib.hid hwt1
    clear hwt1
    cases s
    · go_enter Tryz.func53, Tryz.ntmps53
      go_wp2_with fail
      have hHZ : Hid (Lib.itoa z = [] ++ Lib.decDigits n) := by unfold Hid; rw [HZ.out]; rfl
      refine (appendUint_calls _ HW1.out W.heap.size 0 t Ht9.out.1 Ht9.out.2 _ [] HO.out (by simp) (by omega)).mono ?_
      rintro e w1 ⟨v1, rfl, hown1, hb1⟩
      have hF : FmtRel W.heap.size W L v1 ([] ++ Lib.decDigits t) w1 := by
        refine ⟨by rw [Nat.zero_add] at hown1; exact hown1, ((Below.refl _ _).alloc (Nat.le_refl _) _).trans hb1, Nat.le_trans (by simp) hb1.size, ?_⟩
        unfold Hid
        have := HDl.out
        simp only [List.nil_append]
        omega
      have HF := Lib.hid hF
      clear hF hown1 hb1 HZ htI
      obtain ⟨pre, hpre⟩ : ∃ pre : List UInt8, pre = [] := ⟨_, rfl⟩
      rw [← hpre] at HF hHZ
      clear hpre
      go_wp2_with fail
      go_loopw [4, 5] (fun tx i wr => ∃ k : Nat, k ≤ L ∧ i = .int .i64 ((k : Int) - 1) ∧ FmtRel W.heap.size W k tx (pre ++ Lib.decDigits t ++ groups (lows.drop k)) wr) (fun _ i _ => (intOf i + 1).toNat)
      case atStart => exact ⟨L, Nat.le_refl _, by go_num, by rw [List.drop_of_length_le (by have := HLL.out; omega), groups, List.append_nil]; exact HF.out⟩
      case round =>
        obtain ⟨k, hk, rfl, hR⟩ := hrel
        rcases k with _ | k
        · have htx := hR.text (by rw [List.length_append, List.length_append, Lib.decDigits_length]; have := Lib.nDigits_pos t; omega)
          have HE : Hid (Ext w wr) := by
            unfold Hid
            exact eW.trans hR.2.1
          have HRR := Lib.hid hR
          clear hR
          go_wp2
          go_ret
          refine ⟨?_, HE.out⟩
          rw [hHZ.out, HDec.out, ← List.append_assoc]
          rfl
        · have hk2 : k < L := by omega
          have hcx := hR.2.1.cell (p := ⟨b, off + k, none⟩) hblt
          rw [HLow.out k hk2] at hcx
          have c02 := hR.2.1.cell (p := ⟨w.heap.size, 0, none⟩) hlt
          have c12 := hR.2.1.cell (p := ⟨w.heap.size, 1, none⟩) hlt
          rw [c0] at c02
          rw [c1] at c12
          obtain ⟨x, hx⟩ : ∃ x, x = lows.getD k 0 := ⟨_, rfl⟩
          rw [← hx] at hcx
          have hx9 : x < 1000000000 := HDig.out k x hx
          have hgr := groups_drop lows k (by have := HLL.out; omega)
          rw [← hx] at hgr
          have HG := Lib.hid hgr
          have HRR := Lib.hid hR
          have HX := Lib.hid hx9
          have hkb : k < L + 1 := by omega
          have hkI : ((k + 1 : Nat) : Int) - 1 = (k : Int) := by omega
          rw [hkI]
          clear hR hgr hx hx9 hkI
          go_wp2_with fail
          refine (appendGroup_calls _ W.heap.size _ x HX.out _ _ HRR.out.1 HRR.out.2.2.1 (by have := HRR.out.2.2.2.out; omega)).mono ?_
          rintro e w2 ⟨v2, rfl, hown2, hb2⟩
          have HS : Hid (FmtRel W.heap.size W k v2 (pre ++ Lib.decDigits t ++ groups (lows.drop k)) w2) := by
            unfold Hid
            rw [HG.out, ← List.append_assoc]
            exact HRR.out.step (pad_length _ _) hown2 hb2
          clear hown2 hb2 c02 c12 hcx
          go_wp2
          go_roundw
          case rel => exact ⟨k, by omega, by go_num, HS.out⟩
          case measure => simp [intOf]
    · go_enter Tryz.func53, Tryz.ntmps53
      have hHZ : Hid (Lib.itoa z = [45] ++ Lib.decDigits n) := by unfold Hid; rw [HZ.out]; rfl
      have hnews : ∀ j u, [Value.int .u8 45][j]? = some u → ((W.alloc (.cells (madeCells #[Value.int .u8 0] (1 + (L + 1) * 9)) 5)).alloc (.cells #[Value.int .u8 45] 5)).cell? ((⟨W.heap.size + 1, 0, none⟩ : Addr).add j) = some u := by
        intro j u hj
        match j, hj with
        | 0, hj => injection hj with hj; subst hj; simp [Addr.add]
      have HN := Lib.hid hnews
      clear hnews
      go_wp2_with (at_builtin; refine wpList_append_own _ rfl _ _ 81 rfl W.heap.size 5 i0 (.int .u8 0) 1 1 Tryz.underlying81 hHI.out hH0.out hH1.out hH2.out rfl (by decide) _ 0 [] rfl (HO.out.alloc _) ⟨W.heap.size + 1, 0, none⟩ 1 1 [.int .u8 45] rfl rfl HN.out (by intro u' hu'; simp only [List.mem_singleton] at hu'; subst hu'; rfl) (by unfold maxLen; omega) (by omega) (by simp; omega) ?_)
      intro v0 w0 hown1 hgrow _
      have hb0 : Below W.heap.size W w0 := (((Below.refl _ _).alloc (Nat.le_refl _) _).alloc (by simp) _).grown hgrow (by simp; omega) (fun k hk => by simp [Value.ownBlock] at hk; omega)
      have c02 := hb0.cell (p := ⟨w.heap.size, 0, none⟩) hlt
      have c12 := hb0.cell (p := ⟨w.heap.size, 1, none⟩) hlt
      have ct2 := hb0.cell (p := ⟨b, off + L, none⟩) hblt
      rw [c0] at c02
      rw [c1] at c12
      rw [hbt] at ct2
      have HB0 := Lib.hid hb0
      have HO1 := Lib.hid hown1
      have HW2 : Hid (WT w0) := Lib.tabBelow_of_tabIs HWT.out w0 hb0
      clear hown1 hgrow hb0
      go_wp2_with fail
      refine (appendUint_calls _ HW2.out W.heap.size 1 t Ht9.out.1 Ht9.out.2 _ [.int .u8 45] HO1.out HB0.out.size (by omega)).mono ?_
      rintro e w1 ⟨v1, rfl, hown1, hb1⟩
      have hF : FmtRel W.heap.size W L v1 ([45] ++ Lib.decDigits t) w1 := by
        refine ⟨?_, HB0.out.trans hb1, Nat.le_trans HB0.out.size hb1.size, ?_⟩
        · rw [Lib.byteCells_append, List.length_append]; exact hown1
        · unfold Hid
          have := HDl.out
          simp only [List.length_append, List.length_cons, List.length_nil]
          omega
      have HF := Lib.hid hF
      clear hF hown1 hb1 HZ htI
      obtain ⟨pre, hpre⟩ : ∃ pre : List UInt8, pre = [45] := ⟨_, rfl⟩
      rw [← hpre] at HF hHZ
      clear hpre c02 c12 ct2
      go_wp2_with fail
      go_loopw [4, 5] (fun tx i wr => ∃ k : Nat, k ≤ L ∧ i = .int .i64 ((k : Int) - 1) ∧ FmtRel W.heap.size W k tx (pre ++ Lib.decDigits t ++ groups (lows.drop k)) wr) (fun _ i _ => (intOf i + 1).toNat)
      case atStart => exact ⟨L, Nat.le_refl _, by go_num, by rw [List.drop_of_length_le (by have := HLL.out; omega), groups, List.append_nil]; exact HF.out⟩
      case round =>
        obtain ⟨k, hk, rfl, hR⟩ := hrel
        rcases k with _ | k
        · have htx := hR.text (by rw [List.length_append, List.length_append, Lib.decDigits_length]; have := Lib.nDigits_pos t; omega)
          have HE : Hid (Ext w wr) := by
            unfold Hid
            exact eW.trans hR.2.1
          have HRR := Lib.hid hR
          clear hR
          go_wp2
          go_ret
          refine ⟨?_, HE.out⟩
          rw [hHZ.out, HDec.out, ← List.append_assoc]
          rfl
        · have hk2 : k < L := by omega
          have hcx := hR.2.1.cell (p := ⟨b, off + k, none⟩) hblt
          rw [HLow.out k hk2] at hcx
          have c02 := hR.2.1.cell (p := ⟨w.heap.size, 0, none⟩) hlt
          have c12 := hR.2.1.cell (p := ⟨w.heap.size, 1, none⟩) hlt
          rw [c0] at c02
          rw [c1] at c12
          obtain ⟨x, hx⟩ : ∃ x, x = lows.getD k 0 := ⟨_, rfl⟩
          rw [← hx] at hcx
          have hx9 : x < 1000000000 := HDig.out k x hx
          have hgr := groups_drop lows k (by have := HLL.out; omega)
          rw [← hx] at hgr
          have HG := Lib.hid hgr
          have HRR := Lib.hid hR
          have HX := Lib.hid hx9
          have hkb : k < L + 1 := by omega
          have hkI : ((k + 1 : Nat) : Int) - 1 = (k : Int) := by omega
          rw [hkI]
          clear hR hgr hx hx9 hkI
          go_wp2_with fail
          refine (appendGroup_calls _ W.heap.size _ x HX.out _ _ HRR.out.1 HRR.out.2.2.1 (by have := HRR.out.2.2.2.out; omega)).mono ?_
          rintro e w2 ⟨v2, rfl, hown2, hb2⟩
          have HS : Hid (FmtRel W.heap.size W k v2 (pre ++ Lib.decDigits t ++ groups (lows.drop k)) w2) := by
            unfold Hid
            rw [HG.out, ← List.append_assoc]
            exact HRR.out.step (pad_length _ _) hown2 hb2
          clear hown2 hb2 c02 c12 hcx
          go_wp2
          go_roundw
          case rel => exact ⟨k, by omega, by go_num, HS.out⟩
          case measure => simp [intOf]

end Go.Proofs.YtdblkeeicmncfaaGreatDoor
end

/- ---- Parse ---- -/
section
/-
  Parse, at every string.
-/
set_option maxRecDepth 100000
namespace Go.Proofs.YtdblkeeicmncfaaGreatDoor
open Go.RowKit Go.Shelf

def ren103 : Go.Shelf.Ren := ⟨fun | 103 => 113 | 210 => 132 | 206 => 140 | n => n, fun | 9 => 9 | 4 => 4 | 24 => 101 | 3 => 3 | n => n, fun | n => n⟩
theorem lays103 : Go.Proofs.Lays.n103 Tryz.prog ren103 := {
  mixed := by kernel_rfl
  f103 := Tryz.func113.trans (congrArg some (by kernel_rfl))
  f206 := Tryz.func140.trans (congrArg some (by kernel_rfl))
  f210 := Tryz.func132.trans (congrArg some (by kernel_rfl))
  t3 := Tryz.underlying3
  a3 := Tryz.isAgg3
  z3 := Tryz.sizeOf3
  v3 := Tryz.zeroValue3
  t4 := Tryz.underlying4
  a4 := Tryz.isAgg4
  z4 := Tryz.sizeOf4
  v4 := Tryz.zeroValue4
  t9 := Tryz.underlying9
  a9 := Tryz.isAgg9
  z9 := Tryz.sizeOf9
  v9 := Tryz.zeroValue9
  t24 := Tryz.underlying101
  a24 := Tryz.isAgg101
  z24 := Tryz.sizeOf101
  v24 := Tryz.zeroValue101 }
/-- A minus sign in front, and what stands behind it. -/
def negL (l : List UInt8) : Bool := Lib.hasPrefix l [45]
def digL (l : List UInt8) : List UInt8 := Lib.trimPrefix l [45]
theorem cut_calls (w : World) (s : ByteArray) : Calls Tryz.prog 113 #[.string s, .string ⟨#[45]⟩] w fun e w' => ∃ D : ByteArray, e = .returned (.tuple #[.string D, .bool (negL s.data.toList)]) ∧ D.data.toList = digL s.data.toList ∧ w = w' := by
  refine (Any.strings_CutPrefix lays103 s ⟨#[45]⟩ w).mono ?_
  rintro e w' ⟨h1, h2⟩
  exact ⟨_, h1, rfl, h2.symm⟩
theorem digL_len (l : List UInt8) : (digL l).length ≤ l.length := by
  unfold digL Lib.trimPrefix
  split
  · rw [List.length_drop]; omega
  · exact Nat.le_refl _
def parseOK (l : List UInt8) : Bool := decide (l.length ≤ 65536) && (numB (digL l) && !(negL l && digL l == [48]))
def parseV (l : List UInt8) : Int := sgn (negL l) (dv (digL l))
def RetParse (l : List UInt8) (w : World) (e : Ending) (w' : World) : Prop :=
  ∃ v, e = .returned (.tuple #[v, .int .i64 (if parseOK l then 0 else 2)]) ∧ IsInt w' v (if parseOK l then parseV l else 0) ∧ Ext w w'

set_option maxRecDepth 100000 in
set_option maxHeartbeats 1600000 in
theorem parse_bad (w : World) (s : ByteArray) (hs : s.size ≤ 9223372036854775807) (hb : parseOK s.data.toList = false) : Calls Tryz.prog 99 #[.string s] w (RetParse s.data.toList w) := by
  have fin : ∀ (W w1 : World), Ext w W → W.heap.size = w.heap.size + 1 → W.cell? ⟨w.heap.size, 0, none⟩ = some (.bool false) → W.cell? ⟨w.heap.size, 1, none⟩ = some (.slice none 0 0) → True := fun _ _ _ _ _ _ => trivial
  clear fin
  obtain ⟨W, hW, eW, _, r0, r1, f0, f1⟩ := res_new w 24
  have HB := Lib.hid hb
  have hl := bytes_len s
  have hcase : 65536 < s.size ∨ (¬ 65536 < s.size ∧ (numB (digL s.data.toList) = false ∨ (numB (digL s.data.toList) = true ∧ negL s.data.toList = true ∧ digL s.data.toList = [48]))) := by
    unfold parseOK at hb
    by_cases h1 : 65536 < s.size
    · exact .inl h1
    · refine .inr ⟨h1, ?_⟩
      rw [decide_eq_true (by omega), Bool.true_and] at hb
      cases h2 : numB (digL s.data.toList)
      · exact .inl rfl
      · right
        rw [h2, Bool.true_and] at hb
        simp at hb
        exact ⟨rfl, hb.1, hb.2⟩
  clear hb hl
  go_enter Tryz.func99, Tryz.ntmps99
  go_wp2_with fail
  clear hW
  refine (cut_calls _ s).mono ?_
  rintro e w1 ⟨D, rfl, hD, rfl⟩
  have hfin : Ext w ((W.setCell ⟨w.heap.size, 0, none⟩ (.bool false)).setCell ⟨w.heap.size, 1, none⟩ (.slice none 0 0)) := (eW.setCell (p := ⟨w.heap.size, 0, none⟩) (Nat.le_refl _) _).setCell (p := ⟨w.heap.size, 1, none⟩) (Nat.le_refl _) _
  have HF := Lib.hid hfin
  have hDs : D.size ≤ s.size := by rw [← bytes_len, hD, ← bytes_len]; exact digL_len _
  have HD := Lib.hid hD
  have HN := Lib.hid (isNumeral_calls W D (by omega))
  clear hfin hD
  rcases hcase with h1 | ⟨h1, h2 | ⟨h2, h3, h4⟩⟩
  · have g1 : (65536 : Int) < (s.size : Int) := by omega
    clear h1
    go_wp2
    exact bodyPost_ret (v := .tuple #[.agg #[.bool false, .slice none 0 0], .int .i64 2]) (by simp [results, Tryz.results99, go_sem, r0, r1]) rfl ⟨_, by rw [HB.out]; rfl, by rw [HB.out]; exact isInt_zero _, HF.out⟩
  · have g1 : ¬ (65536 : Int) < (s.size : Int) := by omega
    clear h1
    go_wp2_with fail
    refine HN.out.mono ?_
    rintro e w1 ⟨rfl, rfl⟩
    rw [HD.out, h2]
    go_wp2
    exact bodyPost_ret (v := .tuple #[.agg #[.bool false, .slice none 0 0], .int .i64 2]) (by simp [results, Tryz.results99, go_sem, r0, r1]) rfl ⟨_, by rw [HB.out]; rfl, by rw [HB.out]; exact isInt_zero _, HF.out⟩
  · have g1 : ¬ (65536 : Int) < (s.size : Int) := by omega
    have hd : D.toList = [48] := by rw [ByteArray.toList_eq, HD.out, h4]
    have hd2 : (D.toList == [48]) = true := by rw [hd]; rfl
    clear h1
    rw [h3]
    go_wp2_with fail
    refine HN.out.mono ?_
    rintro e w1 ⟨rfl, rfl⟩
    rw [HD.out, h2]
    go_wp2
    exact bodyPost_ret (v := .tuple #[.agg #[.bool false, .slice none 0 0], .int .i64 2]) (by simp [results, Tryz.results99, go_sem, r0, r1]) rfl ⟨_, by rw [HB.out]; rfl, by rw [HB.out]; exact isInt_zero _, HF.out⟩

theorem extract_list (D : ByteArray) (a b : Nat) : (D.extract a b).data.toList = (D.data.toList.take b).drop a := by
  rw [List.drop_take, ByteArray.data_extract, Array.toList_extract]
/-- What the loop of Parse keeps: the groups from the end, each in its place. -/
def ParseRel (w : World) (g : Nat) (D : List UInt8) (k : Nat) (zs : List Nat) (wr : World) : Prop :=
  zs.length = (D.length + 8) / 9 ∧ Dig zs ∧ Blk wr g zs ∧ Ext w wr ∧ val (zs.take k) = dv (D.drop (D.length - 9 * k))
theorem ParseRel.step {w : World} {g : Nat} {D : List UInt8} {k : Nat} {zs : List Nat} {wr : World} (h : ParseRel w g D k zs wr) (hg : w.heap.size ≤ g) (hk : k < zs.length) (hd : D.all digB = true) (x : Nat)
    (hx : x = dv ((D.take (D.length - 9 * k)).drop (D.length - 9 * k - 9))) : ParseRel w g D (k + 1) (zs.set k x) (wr.setCell ⟨g, k, none⟩ (.int .u32 (x : Int))) ∧ x < 1000000000 := by
  obtain ⟨h1, h2, h3, h4, h5⟩ := h
  have hL : 9 * k < D.length := by omega
  obtain ⟨e, he⟩ : ∃ e, e = D.length - 9 * k := ⟨_, rfl⟩
  rw [← he] at hx h5
  have hall : ((D.take e).drop (e - 9)).all digB = true := by
    rw [List.all_eq_true] at hd ⊢
    exact fun y hy => hd y (List.mem_of_mem_take (List.mem_of_mem_drop hy))
  have hxl : ((D.take e).drop (e - 9)).length ≤ 9 := by rw [List.length_drop, List.length_take]; omega
  have hxb : x < 1000000000 := by
    have := dv_lt hall
    rw [← hx] at this
    have h10 := Nat.pow_le_pow_right (n := 10) (by omega) hxl
    omega
  refine ⟨⟨by simpa using h1, h2.set k hxb, h3.set k x hk, h4.setCell (p := ⟨g, k, none⟩) hg _, ?_⟩, hxb⟩
  rw [val_take_set zs k x hk, h5]
  have hsplit : D.drop (D.length - 9 * (k + 1)) = (D.take e).drop (e - 9) ++ D.drop e := by
    rw [show D.length - 9 * (k + 1) = e - 9 by omega]
    rw [← List.drop_append_of_le_length (by rw [List.length_take]; omega), List.take_append_drop]
  rw [hsplit, dv_append, ← hx, List.length_drop, show D.length - e = 9 * k by omega, Nat.pow_mul, show (10 : Nat) ^ 9 = 1000000000 from rfl, Nat.mul_comm x]
  omega

set_option maxRecDepth 100000 in
set_option maxHeartbeats 3200000 in
theorem parse_good (w : World) (s : ByteArray) (hs : s.size ≤ 9223372036854775807) (hb : parseOK s.data.toList = true) : Calls Tryz.prog 99 #[.string s] w (RetParse s.data.toList w) := by
  obtain ⟨W, hW, eW, hz, r0, r1, f0, f1⟩ := res_new w 24
  have HB := Lib.hid hb
  have hl := bytes_len s
  have hcase : ¬ 65536 < s.size ∧ numB (digL s.data.toList) = true ∧ (negL s.data.toList = false ∨ digL s.data.toList ≠ [48]) := by
    unfold parseOK at hb
    simp only [Bool.and_eq_true, decide_eq_true_iff, Bool.not_eq_true', Bool.and_eq_false_iff, beq_eq_false_iff_ne] at hb
    exact ⟨by omega, hb.2.1, hb.2.2⟩
  clear hb hl
  go_enter Tryz.func99, Tryz.ntmps99
  go_wp2_with fail
  clear hW
  refine (cut_calls _ s).mono ?_
  rintro e w1 ⟨D, rfl, hD, rfl⟩
  have hDs : D.size ≤ s.size := by rw [← bytes_len, hD, ← bytes_len]; exact digL_len _
  have HD := Lib.hid hD
  have HN := Lib.hid (isNumeral_calls W D (by omega))
  obtain ⟨h1, h2, h3⟩ := hcase
  have g1 : ¬ (65536 : Int) < (s.size : Int) := by omega
  have hDb : D.size ≤ 65536 := by omega
  have HNum := Lib.hid h2
  rw [← hD] at h2 h3
  have HAll : Hid (D.data.toList.all digB = true) := by
    unfold Hid
    unfold numB at h2
    simp only [Bool.and_eq_true] at h2
    exact h2.2.2
  have hne : negL s.data.toList = true → (D.toList == [48]) = false := by
    intro hn
    rcases h3 with h3 | h3
    · rw [h3] at hn; cases hn
    · rw [ByteArray.toList_eq, beq_eq_false_iff_ne]; exact h3
  have HV : Hid (parseV s.data.toList = sgn (negL s.data.toList) (dv D.data.toList)) := by unfold Hid parseV; rw [hD]
  clear hD h1 h2 h3 hDs
  generalize negL s.data.toList = neg at *
  have hcs : neg = false ∨ neg = true ∧ (D.toList == [48]) = false := by
    cases hn : neg
    · exact .inl rfl
    · exact .inr ⟨rfl, hne hn⟩
  clear hne
  obtain ⟨K, hK⟩ : ∃ K, K = (D.size + 8) / 9 := ⟨_, rfl⟩
  have hKI : ((D.size : Int) + 9 - 1).tdiv 9 = (K : Int) := by rw [Int.tdiv_eq_ediv_of_nonneg (by omega)]; omega
  have hKI2 : ((D.size : Int) + 8).tdiv 9 = (K : Int) := by rw [Int.tdiv_eq_ediv_of_nonneg (by omega)]; omega
  have hmk := run_mk K (by omega) ↑K rfl
  have hKb : K ≤ 8000 := by omega
  have HK := Lib.hid hK
  clear hK
  rcases hcs with rfl | ⟨rfl, hq⟩
  all_goals
    go_wp2_with fail
    refine HN.out.mono ?_
    rintro e w1 ⟨rfl, rfl⟩
    rw [HD.out, HNum.out]
    go_wp2_with fail
    clear hmk hKI hKI2
    have hDL := bytes_len D
    have h0 : ParseRel W (w.heap.size + 1) D.data.toList 0 (List.replicate K 0) (W.alloc (.cells (u32s (List.replicate K 0)) 71)) := by
      refine ⟨by rw [List.length_replicate, HK.out, hDL], Dig.replicate _, ?_, (Ext.refl W).alloc _, ?_⟩
      · have := Blk.new W (List.replicate K 0)
        rwa [hz] at this
      · rw [List.drop_of_length_le (by omega)]; rfl
    go_loopw [38] (fun i wr => ∃ (k : Nat) (zs : List Nat), k ≤ K ∧ i = .int .i64 k ∧ ParseRel W (w.heap.size + 1) D.data.toList k zs wr) (fun i _ => K - (intOf i).toNat)
    case atStart => exact ⟨0, _, Nat.zero_le _, rfl, h0⟩
    case round =>
      obtain ⟨k, zs, hk, rfl, hR⟩ := hrel
      clear h0
      by_cases hlt : k < K
      · have hzl : zs.length = K := by rw [hR.1, hDL, ← HK.out]
        have hzc := hR.2.2.1.cell k (by omega)
        have hzf := hR.2.2.1.frozen k
        have h9k : 9 * k < D.size := by have := HK.out; omega
        obtain ⟨e, he⟩ : ∃ e, e = D.size - 9 * k := ⟨_, rfl⟩
        have heI : (D.size : Int) - (k : Int) * 9 = (e : Int) := by omega
        have hst := fun x hx => hR.step (by omega) (by omega) HAll.out x hx
        rw [hDL, ← he] at hst
        have HST := Lib.hid hst
        have HRR := Lib.hid hR
        clear hst hR
        obtain ⟨lo, hlo⟩ : ∃ lo, lo = e - 9 := ⟨_, rfl⟩
        have hmx : max (0 : Int) ((e : Int) - 9) = (lo : Int) := by omega
        rw [← hlo] at HST
        have he1 : (lo : Int) ≤ (e : Int) := by omega
        have he2 : (e : Int) ≤ (D.size : Int) := by omega
        have heb : (e : Int) ≤ 65536 := by omega
        have hlN : lo ≤ e := by omega
        have heN : e ≤ D.size := by omega
        have hel : e - lo ≤ 9 := by omega
        have HE := Lib.hid (And.intro he (And.intro hlo (And.intro h9k hel)))
        clear he hlo h9k hel
        have hgv := groupValue_calls wr (D.extract lo e) (by rw [ByteArray.size_extract, Nat.min_eq_left heN]; exact HE.out.2.2.2) (by
          rw [extract_list]
          have ha := HAll.out
          rw [List.all_eq_true] at ha ⊢
          exact fun y hy => ha y (List.mem_of_mem_take (List.mem_of_mem_drop hy)))
        rw [extract_list] at hgv
        obtain ⟨x, hx⟩ : ∃ x, x = dv (List.drop lo (List.take e D.data.toList)) := ⟨_, rfl⟩
        rw [← hx] at hgv
        have HGV := Lib.hid hgv
        have HX := Lib.hid (HST.out x hx)
        have hxb : (x : Int) < 1000000000 := by have := HX.out.2; omega
        clear hgv hx HST
        go_wp2_with fail
        refine HGV.out.mono ?_
        rintro e' w1 ⟨rfl, rfl⟩
        go_wp2
        go_roundw
        case rel => exact ⟨k + 1, _, by omega, by go_num, HX.out.1⟩
        case measure => simp [intOf]; omega
      · have e : k = K := by omega
        subst e
        have HRR := Lib.hid hR
        have hzl : zs.length = k := by rw [hR.1, hDL, ← HK.out]
        have HZV : Hid (val zs = dv D.data.toList) := by
          have h5 := hR.2.2.2.2
          rw [List.take_of_length_le (by omega), hDL, show D.size - 9 * k = 0 by have := HK.out; omega, List.drop_zero] at h5
          exact h5
        have hsg : ∀ neg, Calls Tryz.prog 82 #[.bool neg, .slice (some ⟨w.heap.size + 1, 0, none⟩) k k] wr (Ret (fun v w' => IsInt w' v (sgn neg (val zs))) wr) := fun neg => by
          have := signed_calls wr neg (some ⟨w.heap.size + 1, 0, none⟩) zs k (by omega) (by omega) hR.2.2.1.cells hR.2.1
          rwa [hzl] at this
        have HSG := Lib.hid hsg
        have HZL := Lib.hid hzl
        clear hzl hsg
        have eR := hR.2.2.2.1
        replace r0 := eR.cell r0
        replace r1 := eR.cell r1
        replace f0 := eR.frozen (p := ⟨w.heap.size, 0, none⟩) (by show w.heap.size < W.heap.size; omega) f0
        replace f1 := eR.frozen (p := ⟨w.heap.size, 1, none⟩) (by show w.heap.size < W.heap.size; omega) f1
        replace eW := eW.trans eR
        clear hR eR
        go_wp2_with fail
        refine (HSG.out _).mono ?_
        rintro e' w1 ⟨v3, rfl, hI, e3⟩
        obtain ⟨ao3, cap3, s3, n3, rfl, _⟩ := IsInt.open_ hI
        replace f0 := e3.frozen (lt_of_cell r0) f0
        replace f1 := e3.frozen (lt_of_cell r1) f1
        replace r0 := e3.cell r0
        replace r1 := e3.cell r1
        go_wp2
        obtain ⟨u, hu, hu2, hu3⟩ := fin_int hI r0 r1 (Nat.le_refl _) (eW.trans e3)
        injection hu with hu
        subst hu
        exact bodyPost_ret (v := .tuple #[.agg #[.bool s3, .slice ao3 (limbs n3).length cap3], .int .i64 0]) (by simp [results, Tryz.results99, go_sem, r0, r1]) rfl ⟨_, by rw [HB.out]; rfl, by rw [HB.out, if_pos rfl, HV.out, ← HZV.out]; exact hu2, hu3⟩

/-- What Parse does, at every string. -/
theorem parse_calls (w : World) (s : ByteArray) (hs : s.size ≤ 9223372036854775807) : Calls Tryz.prog 99 #[.string s] w (RetParse s.data.toList w) := by
  cases hb : parseOK s.data.toList
  · exact parse_bad w s hs hb
  · exact parse_good w s hs hb

end Go.Proofs.YtdblkeeicmncfaaGreatDoor
end

/- ---- Rpa ---- -/
section
/-
  Parse of rational numbers, and their texts.
-/
set_option maxRecDepth 100000
namespace Go.Proofs.YtdblkeeicmncfaaGreatDoor
open Go.RowKit Go.Shelf

/-- What a text says of an integer. -/
def pZ (l : List UInt8) : Int := if parseOK l then parseV l else 0
def pE (l : List UInt8) : Int := if parseOK l then 0 else 2
theorem digL_all {l : List UInt8} (h : parseOK l = true) : (digL l).all digB = true := by
  unfold parseOK at h
  simp only [Bool.and_eq_true] at h
  have := h.2.1
  unfold numB at this
  simp only [Bool.and_eq_true] at this
  exact this.2.2
theorem pZ_lim {l : List UInt8} {m : Nat} (h : l.length ≤ m) : Lim (m / 9 + 1) (pZ l) := by
  unfold pZ
  split
  · rename_i hok
    have h1 := dv_lt (digL_all hok)
    have h2 := digL_len l
    have h3 : (parseV l).natAbs = dv (digL l) := by
      unfold parseV sgn
      split <;> omega
    refine limbs_len_le ?_
    rw [h3]
    refine Nat.lt_of_lt_of_le h1 ?_
    rw [show (1000000000 : Nat) = 10 ^ 9 from rfl, ← Nat.pow_mul]
    exact Nat.pow_le_pow_right (by omega) (by omega)
  · exact lim_zero
theorem bytes_of (s : ByteArray) : (⟨s.data.toList.toArray⟩ : ByteArray) = s := rfl
theorem parse_list (w : World) (l : List UInt8) (hl : l.length ≤ 65536) : Calls Tryz.prog 99 #[.string ⟨l.toArray⟩] w fun e w' => ∃ v, e = .returned (.tuple #[v, .int .i64 (pE l)]) ∧ IsInt w' v (pZ l) ∧ Ext w w' := by
  have hs : (⟨l.toArray⟩ : ByteArray).size = l.length := by simp [ByteArray.size]
  refine (parse_calls w ⟨l.toArray⟩ (by rw [hs]; omega)).mono ?_
  rintro e w' ⟨v, h1, h2, h3⟩
  exact ⟨v, h1, h2, h3⟩
/-- An environment of one text and two numbers. -/
def kPar0 : Con
  | [.val false [.str (.var 0) m]], _ => if decide (m ≤ 65536) then some (.tup [(true, [.int (.var 0) 7282]), (false, [.n .i64 (.var 1)])]) else none
  | _, _ => none
def sE (ls : List (List UInt8)) (zs : List Int) (bs : List Bool) : Env := ⟨fun i => zs.getD i 0, fun i => bs.getD i false, fun _ => (false, []), fun i => ls.getD i []⟩
theorem kPar0_ok {l : List UInt8} : ConOK Tryz.prog (sE [l] [pZ l, pE l] []) 99 kPar0 := by
  refine ⟨?_, ?_, ⟨_, Tryz.func99, by decide +kernel, by kernel_rfl⟩⟩
  · intro args As r h hG β w vs hv hlen
    unfold kPar0 at h
    split at h
    · rename_i m
      split at h
      · rename_i hm
        have hm' := of_decide_eq_true hm
        injection h with h
        subst h
        obtain ⟨v, rfl, h1⟩ := args1 hv hlen
        obtain ⟨⟨x, y, e1, ⟨e2, e3⟩, e4⟩, _⟩ := h1
        simp only [chunks] at e4
        subst e2 e4
        injection e1 with e1
        subst e1
        refine (parse_list w l (Nat.le_trans e3 hm')).mono ?_
        rintro e w' ⟨u, rfl, h2, ex⟩
        exact ⟨_, rfl, ⟨[u, .int .i64 _], rfl, u, _, rfl, one_int.2 ⟨h2, (pZ_lim (Nat.le_trans e3 hm')).mono (by omega)⟩, _, _, rfl, one_num.2 rfl, rfl⟩, ex⟩
      · cases h
    · cases h
  · intro args As r h x off
    unfold kPar0 at h
    split at h
    · split at h
      · injection h with h; subst h; intro e; cases e
      · cases h
    · cases h
theorem one_str {E : Env} {w : World} {t : ST} {m : Nat} {v : Value} : one E w (false, [.str t m]) v ↔ v = .string ⟨(t.den E).toArray⟩ ∧ (t.den E).length ≤ m := by
  constructor
  · rintro ⟨⟨x, y, e1, ⟨e2, e3⟩, e4⟩, _⟩
    simp only [chunks] at e4
    subst e2 e4
    injection e1 with e1
    exact ⟨e1, e3⟩
  · rintro ⟨rfl, h⟩
    exact ⟨⟨[_], [], rfl, ⟨rfl, h⟩, rfl⟩, rfl⟩
theorem open_ib {E : Env} {β : Nat → Nat} {w : World} {v : Value} {x : IT} {k : Nat} {t : BT} (hx : (AV.tup [(true, [.int x k]), (false, [.b t])]).holds E β w v) : ∃ p, v = .tuple #[p, .bool (t.den E)] ∧ IsInt w p (x.den E) := by
  obtain ⟨vs, rfl, u1, r1, rfl, k1, u2, r2, rfl, k2, hn⟩ := hx
  simp only [tupAll] at hn
  subst hn
  have k2' := one_bool.1 k2
  subst k2'
  exact ⟨u1, rfl, (one_int.1 k1).1⟩
theorem parseInteger_calls (w : World) (l : List UInt8) (hl : l.length ≤ 65536) : Calls Tryz.prog 77 #[.string ⟨l.toArray⟩] w fun e w' => ∃ v, e = .returned (.tuple #[v, .bool (parseOK l)]) ∧ IsInt w' v (pZ l) ∧ Ext w w' := by
  refine (fun_sound (C := cfgOf [(99, kPar0)]) (E := sE [l] [pZ l, pE l] []) (G := [(.lt (.lit 65536) (.slen 0), false)]) (args := [.val false [.str (.var 0) 65536]])
    (T := .ite (.eq (.var 1) (.lit 0)) (.leaf [(true, [.int (.var 0) 7282]), (false, [.b (.lit true)])]) (.leaf [(true, [.int (.lit 0) 0]), (false, [.b (.lit false)])]))
    mixed (cfg_ok (.cons kPar0_ok .nil)) (asm_cons no_asm (by show decide ((65536 : Int) < (l.length : Int)) = false; rw [decide_eq_false_iff_not]; omega)) Tryz.func77 (by decide +kernel) (by kernel_rfl) (by decide +kernel) rfl w [.string ⟨l.toArray⟩] rfl ?_).mono ?_
  · intro i x hx
    match i, hx with
    | 0, hx => injection hx with hx; subst hx; exact ⟨fun _ => 0, _, rfl, one_str.2 ⟨rfl, hl⟩⟩
  · rintro e w' ⟨β, u, rfl, hh, ex⟩
    have hd : (BT.eq (.var 1) (.lit 0)).den (sE [l] [pZ l, pE l] []) = parseOK l := by
      show (pE l == 0) = parseOK l
      unfold pE
      cases parseOK l <;> rfl
    simp only [Tree.pick, hd] at hh
    split at hh
    · rename_i hok
      obtain ⟨p, rfl, hp⟩ := open_ib hh
      exact ⟨p, by rw [hok]; rfl, hp, ex⟩
    · rename_i hok
      obtain ⟨p, rfl, hp⟩ := open_ib hh
      refine ⟨p, by rw [Bool.not_eq_true] at hok; rw [hok]; rfl, ?_, ex⟩
      unfold pZ
      rw [if_neg hok]
      exact hp
/-- What a text says of a rational number. -/
def qNT (l : List UInt8) : List UInt8 := (Lib.cut l [47]).1
def qDT (l : List UInt8) : List UInt8 := (Lib.cut l [47]).2.1
def qSl (l : List UInt8) : Bool := (Lib.cut l [47]).2.2
def coB (n d : Int) : Bool := decide (0 < d) && ((Nat.gcd n.natAbs d.natAbs : Nat) : Int) == 1
def qOK (l : List UInt8) : Bool :=
  if qSl l then parseOK (qNT l) && (parseOK (qDT l) && (!(pZ (qDT l) == 1) && coB (pZ (qNT l)) (pZ (qDT l)))) else parseOK (qNT l)
def qNV (l : List UInt8) : Int := if qOK l then pZ (qNT l) else 0
def qDV (l : List UInt8) : Int := if qOK l then (if qSl l then pZ (qDT l) else 1) else 0
def qEV (l : List UInt8) : Int := if qOK l then 0 else 2
theorem cut_len1 (l s : List UInt8) : (Lib.cut l s).1.length ≤ l.length := by
  unfold Lib.cut
  split
  · show (List.take _ l).length ≤ _
    rw [List.length_take]; omega
  · exact Nat.le_refl _
theorem cut_len2 (l s : List UInt8) : (Lib.cut l s).2.1.length ≤ l.length := by
  unfold Lib.cut
  split
  · show (List.drop _ l).length ≤ _
    rw [List.length_drop]; omega
  · exact Nat.zero_le _
def kCut : Con
  | [.val false [.str (.var 0) l], .val false [.str (.lit s) _]], _ => if s == [47] && decide (l ≤ 1000000) then some (.tup [(false, [.str (.var 1) l]), (false, [.str (.var 2) l]), (false, [.b (.var 0)])]) else none
  | _, _ => none
def kPI : Con
  | [.val false [.str (.var i) m]], _ => if decide (m ≤ 65536) then (if i == 1 then some (.tup [(true, [.int (.var 0) 7282]), (false, [.b (.var 1)])]) else if i == 2 then some (.tup [(true, [.int (.var 1) 7282]), (false, [.b (.var 2)])]) else none) else none
  | [.val false [.str (.lit s) _]], _ => if s == [49] then some (.tup [(true, [.int (.lit 1) 1]), (false, [.b (.lit true)])]) else none
  | _, _ => none
def pqE (l : List UInt8) : Env := sE [l, qNT l, qDT l] [pZ (qNT l), pZ (qDT l)] [qSl l, parseOK (qNT l), parseOK (qDT l)]
theorem kCut_ok {l : List UInt8} : ConW Tryz.prog WM (pqE l) 76 kCut := by
  refine ⟨?_, ?_, ⟨_, Tryz.func76, by decide +kernel, by kernel_rfl⟩⟩
  · intro args As r h hG β w vs hW hv hlen
    unfold kCut at h
    split at h
    · rename_i m s m2
      split at h
      · rename_i hm
        simp only [Bool.and_eq_true, beq_iff_eq, decide_eq_true_iff] at hm
        obtain ⟨rfl, hm⟩ := hm
        injection h with h
        subst h
        obtain ⟨v, u, rfl, h1, h2⟩ := args2 hv hlen
        obtain ⟨rfl, h3⟩ := one_str.1 h1
        obtain ⟨rfl, _⟩ := one_str.1 h2
        have h3' : l.length ≤ m := h3
        have hs : (⟨l.toArray⟩ : ByteArray).size = l.length := by simp [ByteArray.size]
        refine (cutS_calls w hW ⟨l.toArray⟩ ⟨#[47]⟩ (by rw [hs]; omega)).mono ?_
        rintro e w' ⟨rfl, ex⟩
        refine ⟨_, rfl, ⟨[_, _, _], rfl, _, _, rfl, one_str.2 ⟨rfl, ?_⟩, _, _, rfl, one_str.2 ⟨rfl, ?_⟩, _, _, rfl, one_bool.2 rfl, rfl⟩, ex⟩
        · exact Nat.le_trans (cut_len1 l [47]) h3'
        · exact Nat.le_trans (cut_len2 l [47]) h3'
      · cases h
    · cases h
  · intro args As r h x off
    unfold kCut at h
    split at h
    · split at h
      · injection h with h; subst h; intro e; cases e
      · cases h
    · cases h
theorem p49 : parseOK [49] = true ∧ pZ [49] = 1 := by decide +kernel
theorem kPI_ok {l : List UInt8} : ConOK Tryz.prog (pqE l) 77 kPI := by
  refine ⟨?_, ?_, ⟨_, Tryz.func77, by decide +kernel, by kernel_rfl⟩⟩
  · intro args As r h hG β w vs hv hlen
    have go : ∀ (u : List UInt8) (m : Nat) (x : IT) (t : BT) (k : Nat), vs = [.string ⟨u.toArray⟩] → u.length ≤ m → m ≤ 65536 → x.den (pqE l) = pZ u → t.den (pqE l) = parseOK u → Lim k (pZ u) → r = .tup [(true, [.int x k]), (false, [.b t])] →
        Calls Tryz.prog 77 vs.toArray w (fun e w' => ∃ v, e = .returned v ∧ r.holds (pqE l) β w' v ∧ Ext w w') := by
      rintro u m x t k rfl h1 h2 h3 h4 h5 rfl
      refine (parseInteger_calls w u (Nat.le_trans h1 h2)).mono ?_
      rintro e w' ⟨v, rfl, h6, ex⟩
      exact ⟨_, rfl, ⟨[v, .bool _], rfl, v, _, rfl, one_int.2 ⟨by rw [h3]; exact h6, by rw [h3]; exact h5⟩, _, _, rfl, one_bool.2 (by rw [h4]), rfl⟩, ex⟩
    unfold kPI at h
    split at h
    · rename_i i m
      obtain ⟨v, rfl, h1⟩ := args1 hv hlen
      obtain ⟨rfl, h2⟩ := one_str.1 h1
      split at h
      · rename_i hm
        have hm' := of_decide_eq_true hm
        split at h
        · rename_i hi
          have : i = 1 := by simpa using hi
          subst this
          injection h with h
          exact go (qNT l) m _ _ _ rfl h2 hm' rfl rfl ((pZ_lim (Nat.le_trans h2 hm')).mono (by omega)) h.symm
        · split at h
          · rename_i hi
            have : i = 2 := by simpa using hi
            subst this
            injection h with h
            exact go (qDT l) m _ _ _ rfl h2 hm' rfl rfl ((pZ_lim (Nat.le_trans h2 hm')).mono (by omega)) h.symm
          · cases h
      · cases h
    · rename_i s m
      obtain ⟨v, rfl, h1⟩ := args1 hv hlen
      obtain ⟨rfl, h2⟩ := one_str.1 h1
      split at h
      · rename_i hs
        have : s = [49] := by simpa using hs
        subst this
        injection h with h
        exact go [49] 1 (.lit 1) (.lit true) 1 rfl (Nat.le_refl _) (by omega) p49.2.symm p49.1.symm (by rw [p49.2]; exact lim1 (by decide)) h.symm
      · cases h
    · cases h
  · intro args As r h x off
    unfold kPI at h
    split at h
    · split at h
      · split at h
        · injection h with h; subst h; intro e; cases e
        · split at h
          · injection h with h; subst h; intro e; cases e
          · cases h
      · cases h
    · split at h
      · injection h with h; subst h; intro e; cases e
      · cases h
    · cases h
def tabPQ : List (Nat × Con) := [(76, kCut), (77, kPI), (29, kValP), (52, kIb fun x => .eq x (.lit 1))]
theorem tabPQ_ok {l : List UInt8} : TabW Tryz.prog WM (pqE l) tabPQ :=
  .cons kCut_ok (.cons kPI_ok.toW (.cons kValP_ok.toW (.cons (tabInt_ok.all (52, kIb fun x => .eq x (.lit 1)) (by simp [tabInt])).toW .nil)))
def tPQbad : Tree := .leaf [(true, [.int (.lit 0) 0, .int (.lit 0) 0]), (false, [.n .i64 (.lit 2)])]
def tPQ : Tree := .ite (.var 0)
  (.ite (.var 1) (.ite (.var 2) (.ite (.eq (.var 1) (.lit 1)) tPQbad (.ite (.and (.lt (.lit 0) (.var 1)) (.eq (.a2 6 (.var 0) (.var 1)) (.lit 1))) (.leaf [(true, [.int (.var 0) 7282, .int (.var 1) 7282]), (false, [.n .i64 (.lit 0)])]) tPQbad)) tPQbad) tPQbad)
  (.ite (.var 1) (.ite (.and (.lt (.lit 0) (.lit 1)) (.eq (.a2 6 (.var 0) (.lit 1)) (.lit 1))) (.leaf [(true, [.int (.var 0) 7282, .int (.lit 1) 1]), (false, [.n .i64 (.lit 0)])]) tPQbad) tPQbad)
def RetPQ (l : List UInt8) (w : World) (e : Ending) (w' : World) : Prop := ∃ v, e = .returned (.tuple #[v, .int .i64 (qEV l)]) ∧ IsPair w' v (qNV l) (qDV l) ∧ Ext w w'
theorem parse_rat_calls (w : World) (hW : WM w) (l : List UInt8) (hl : l.length ≤ 65536) : Calls Tryz.prog 51 #[.string ⟨l.toArray⟩] w (RetPQ l w) := by
  refine (fun_sound (C := cfgW WM tabPQ) (E := pqE l) (args := [.val false [.str (.var 0) 65536]]) (T := tPQ)
    mixed (cfgW_ok tabPQ_ok) no_asm Tryz.func51 (by decide +kernel) (by kernel_rfl) (by decide +kernel) rfl w [.string ⟨l.toArray⟩] rfl ?_ (fun w' e => hW.ext e)).mono ?_
  · intro i x hx
    match i, hx with
    | 0, hx => injection hx with hx; subst hx; exact ⟨fun _ => 0, _, rfl, one_str.2 ⟨rfl, hl⟩⟩
  · rintro e w' ⟨β, u, rfl, hh, ex⟩
    have d0 : (BT.var 0).den (pqE l) = qSl l := rfl
    have d1 : (BT.var 1).den (pqE l) = parseOK (qNT l) := rfl
    have d2 : (BT.var 2).den (pqE l) = parseOK (qDT l) := rfl
    have d3 : (BT.eq (.var 1) (.lit 1)).den (pqE l) = (pZ (qDT l) == 1) := rfl
    have d4 : (BT.and (.lt (.lit 0) (.var 1)) (.eq (.a2 6 (.var 0) (.var 1)) (.lit 1))).den (pqE l) = coB (pZ (qNT l)) (pZ (qDT l)) := rfl
    have d5 : (BT.and (.lt (.lit 0) (.lit 1)) (.eq (.a2 6 (.var 0) (.lit 1)) (.lit 1))).den (pqE l) = true := by
      show (decide ((0 : Int) < 1) && ((Nat.gcd (pZ (qNT l)).natAbs (1 : Int).natAbs : Nat) : Int) == 1) = true
      simp
    have bad : (toAV (tPQbad.pick (pqE l))).holds (pqE l) β w' u → qOK l = false → RetPQ l w (.returned u) w' := by
      intro h hq
      obtain ⟨p, rfl, hp⟩ := open_quot h
      unfold RetPQ qEV qNV qDV
      rw [hq]
      exact ⟨p, rfl, hp, ex⟩
    unfold tPQ at hh
    simp only [Tree.pick, d0, d1, d2, d3, d4, d5] at hh
    unfold qOK at bad
    cases h0 : qSl l <;> cases h1 : parseOK (qNT l) <;> rw [h0, h1] at hh bad
    · exact bad hh rfl
    · obtain ⟨p, rfl, hp⟩ := open_quot hh
      have hq : qOK l = true := by unfold qOK; rw [h0, h1]; rfl
      refine ⟨p, by unfold qEV; rw [hq]; rfl, ?_, ex⟩
      unfold qNV qDV
      rw [hq, h0]
      exact hp
    · exact bad hh rfl
    · cases h2 : parseOK (qDT l) <;> rw [h2] at hh bad
      · exact bad hh rfl
      · cases h3 : (pZ (qDT l) == 1) <;> rw [h3] at hh bad
        · cases h4 : coB (pZ (qNT l)) (pZ (qDT l)) <;> rw [h4] at hh bad
          · exact bad hh rfl
          · obtain ⟨p, rfl, hp⟩ := open_quot hh
            have hq : qOK l = true := by unfold qOK; rw [h0, h1, h2, h3, h4]; rfl
            refine ⟨p, by unfold qEV; rw [hq]; rfl, ?_, ex⟩
            unfold qNV qDV
            rw [hq, h0]
            exact hp
        · exact bad hh rfl

end Go.Proofs.YtdblkeeicmncfaaGreatDoor
end

/- ---- Raw ---- -/
section
/-
  The examples of rational numbers: the laws' helper awake returns true.
-/
set_option maxRecDepth 100000
namespace Go.Proofs.YtdblkeeicmncfaaGreatDoor
open Go.RowKit Go.Shelf

/-- What the laws of rational numbers ask of the world. -/
def WQ (w : World) : Prop := WM w ∧ WT w
theorem WQ.ext {w w' : World} (h : WQ w) (e : Ext w w') : WQ w' := ⟨h.1.ext e, h.2.ext e⟩
theorem nDigits_le : ∀ (k u : Nat), u < 10 ^ (k + 1) → Lib.nDigits u ≤ k + 1
  | 0, u, h => by rw [Lib.nDigits_small (by simpa using h)]; exact Nat.le_refl _
  | k + 1, u, h => by
    by_cases h1 : u < 10
    · rw [Lib.nDigits_small h1]; omega
    · rw [Lib.nDigits_big h1]
      have := nDigits_le k (u / 10) (by rw [Nat.pow_succ] at h; omega)
      omega
theorem itoa_len {l : Nat} {z : Int} (h : Lim l z) : (Lib.itoa z).length ≤ 9 * l + 2 := by
  have h1 := lt_of_limbs_len h
  have h2 : (Lib.decDigits z.natAbs).length ≤ 9 * l + 1 := by
    rw [Lib.decDigits_length]
    refine nDigits_le (9 * l) _ (Nat.lt_of_lt_of_le h1 ?_)
    rw [show (1000000000 : Nat) = 10 ^ 9 from rfl, ← Nat.pow_mul]
    exact Nat.pow_le_pow_right (by omega) (by omega)
  unfold Lib.itoa
  split
  · simp only [List.length_cons]; omega
  · rename_i hz
    rw [show z.toNat = z.natAbs by omega]; omega
def kFmt : Con
  | [.val true [.int x l]], _ => if decide (l ≤ 100000) then some (.val false [.str (.fmt x) (9 * l + 2)]) else none
  | _, _ => none
theorem kFmt_ok {E : Env} : ConW Tryz.prog WQ E 53 kFmt := by
  refine ⟨?_, ?_, ⟨_, Tryz.func53, by decide +kernel, by kernel_rfl⟩⟩
  · intro args As r h hG β w vs hW hv hlen
    unfold kFmt at h
    split at h
    · split at h
      · rename_i hm
        have hm' := of_decide_eq_true hm
        injection h with h
        subst h
        obtain ⟨v, rfl, h1⟩ := args1 hv hlen
        obtain ⟨i1, l1⟩ := one_int.1 h1
        refine (format_calls w hW.2 v _ i1 (l1.mono hm')).mono ?_
        rintro e w' ⟨rfl, ex⟩
        exact ⟨_, rfl, one_str.2 ⟨rfl, itoa_len l1⟩, ex⟩
      · cases h
    · cases h
  · intro args As r h x off
    unfold kFmt at h
    split at h
    · split at h
      · injection h with h; subst h; intro e; cases e
      · cases h
    · cases h
/-- The text of a rational number. -/
def fmtQ (n d : Int) : List UInt8 := if d = 1 then Lib.itoa n else Lib.itoa n ++ [47] ++ Lib.itoa d
def tabF : List (Nat × Con) := [(53, kFmt), (52, kIb fun x => .eq x (.lit 1))]
theorem tabF_ok {E : Env} : TabW Tryz.prog WQ E tabF :=
  .cons kFmt_ok (.cons (tabInt_ok.all (52, kIb fun x => .eq x (.lit 1)) (by simp [tabInt])).toW .nil)
theorem formatQ_calls (w : World) (hW : WQ w) (v : Value) (n d : Int) (h : IsPair w v n d) (l1 : Lim 100000 n) (l2 : Lim 100000 d) :
    Calls Tryz.prog 24 #[v] w fun e w' => e = .returned (.string ⟨(fmtQ n d).toArray⟩) ∧ Ext w w' := by
  refine (fun_sound (C := cfgW WQ tabF) (E := zE [n, d]) (args := [argQ 0]) (T := .ite (.eq (.var 1) (.lit 1)) (.leaf [(false, [.str (.fmt (.var 0)) 900002])]) (.leaf [(false, [.str (.cat (.cat (.fmt (.var 0)) (.lit [47])) (.fmt (.var 1))) 1800005])]))
    mixed (cfgW_ok tabF_ok) no_asm Tryz.func24 (by decide +kernel) (by kernel_rfl) (by decide +kernel) rfl w [v] rfl ?_ (fun w' e => hW.ext e)).mono ?_
  · intro i x hx
    match i, hx with
    | 0, hx => injection hx with hx; subst hx; exact ⟨fun _ => 0, v, rfl, argP_holds h l1 l2 rfl rfl⟩
  · rintro e w' ⟨β, u, rfl, hh, ex⟩
    have d0 : (BT.eq (.var 1) (.lit 1)).den (zE [n, d]) = (d == 1) := rfl
    simp only [Tree.pick, d0] at hh
    split at hh
    · rename_i hd
      have hd' : d = 1 := by simpa using hd
      obtain ⟨rfl, _⟩ := one_str.1 hh
      exact ⟨by unfold fmtQ; rw [if_pos hd']; rfl, ex⟩
    · rename_i hd
      have hd' : d ≠ 1 := by simpa using hd
      obtain ⟨rfl, _⟩ := one_str.1 hh
      exact ⟨by unfold fmtQ; rw [if_neg hd']; rfl, ex⟩
/-- Short texts, reckoned. -/
def dgC (z : Int) : List UInt8 := (if z < 0 then [45] else []) ++ [UInt8.ofNat (48 + z.natAbs)]
def fmtC (n d : Int) : List UInt8 := if d == 1 then dgC n else dgC n ++ [47] ++ dgC d
theorem dgC_eq {z : Int} (h : z.natAbs < 10) : Lib.itoa z = dgC z := by
  unfold Lib.itoa dgC
  split
  · rw [Lib.decDigits_one h]; rfl
  · rw [show z.toNat = z.natAbs by omega, Lib.decDigits_one h]; rfl
theorem fmtC_eq {n d : Int} (h1 : n.natAbs < 10) (h2 : d.natAbs < 10) : fmtQ n d = fmtC n d := by
  unfold fmtQ fmtC
  rw [dgC_eq h1, dgC_eq h2]
  by_cases hd : d = 1
  · rw [if_pos hd, if_pos (by simpa using hd)]
  · rw [if_neg hd, if_neg (by simpa using hd)]
def kFmtL : Con
  | [.val true [.int x l, .int y m]], _ => match x.cl, y.cl with
    | some n, some d => if decide (n.natAbs < 10) && (decide (d.natAbs < 10) && (decide (l ≤ 100000) && decide (m ≤ 100000))) then some (.val false [.str (.lit (fmtC n d)) (fmtC n d).length]) else none
    | _, _ => none
  | _, _ => none
theorem kFmtL_ok {E : Env} : ConW Tryz.prog WQ E 24 kFmtL := by
  refine ⟨?_, ?_, ⟨_, Tryz.func24, by decide +kernel, by kernel_rfl⟩⟩
  · intro args As r h hG β w vs hW hv hlen
    unfold kFmtL at h
    split at h
    · split at h
      · rename_i n d hn hd
        split at h
        · rename_i hm
          simp only [Bool.and_eq_true, decide_eq_true_iff] at hm
          obtain ⟨m1, m2, m3, m4⟩ := hm
          injection h with h
          subst h
          obtain ⟨v, rfl, h1⟩ := args1 hv hlen
          obtain ⟨p1, a1, a2⟩ := one_pair.1 h1
          rw [IT.cl_spec hn] at p1 a1
          rw [IT.cl_spec hd] at p1 a2
          refine (formatQ_calls w hW v _ _ p1 (a1.mono m3) (a2.mono m4)).mono ?_
          rintro e w' ⟨rfl, ex⟩
          rw [fmtC_eq m1 m2]
          exact ⟨_, rfl, one_str.2 ⟨rfl, Nat.le_refl _⟩, ex⟩
        · cases h
      · cases h
    · cases h
  · intro args As r h x off
    unfold kFmtL at h
    split at h
    · split at h
      · split at h
        · injection h with h; subst h; intro e; cases e
        · cases h
      · cases h
    · cases h
/-- text. -/
def kPQ0 : Con
  | [.val false [.str (.var 0) m]], _ => if decide (m ≤ 65536) then some (.tup [(true, [.int (.var 0) 7283, .int (.var 1) 7283]), (false, [.n .i64 (.var 2)])]) else none
  | _, _ => none
theorem qNV_lim {l : List UInt8} (h : l.length ≤ 65536) : Lim 7283 (qNV l) ∧ Lim 7283 (qDV l) := by
  have h1 := pZ_lim (Nat.le_trans (cut_len1 l [47]) h)
  have h2 := pZ_lim (Nat.le_trans (cut_len2 l [47]) h)
  unfold qNV qDV
  constructor
  · split
    · exact h1.mono (by omega)
    · exact lim_zero
  · split
    · split
      · exact h2.mono (by omega)
      · exact (lim1 (by decide)).mono (by omega)
    · exact lim_zero
theorem kPQ0_ok {l : List UInt8} : ConW Tryz.prog WQ (sE [l] [qNV l, qDV l, qEV l] []) 51 kPQ0 := by
  refine ⟨?_, ?_, ⟨_, Tryz.func51, by decide +kernel, by kernel_rfl⟩⟩
  · intro args As r h hG β w vs hW hv hlen
    unfold kPQ0 at h
    split at h
    · split at h
      · rename_i hm
        have hm' := of_decide_eq_true hm
        injection h with h
        subst h
        obtain ⟨v, rfl, h1⟩ := args1 hv hlen
        obtain ⟨rfl, h2⟩ := one_str.1 h1
        have hl := Nat.le_trans h2 hm'
        refine (parse_rat_calls w hW.1 l hl).mono ?_
        rintro e w' ⟨u, rfl, hp, ex⟩
        exact ⟨_, rfl, ⟨[u, .int .i64 _], rfl, u, _, rfl, one_pair.2 ⟨hp, (qNV_lim hl).1, (qNV_lim hl).2⟩, _, _, rfl, one_num.2 rfl, rfl⟩, ex⟩
      · cases h
    · cases h
  · intro args As r h x off
    unfold kPQ0 at h
    split at h
    · split at h
      · injection h with h; subst h; intro e; cases e
      · cases h
    · cases h
theorem text_calls (w : World) (hW : WQ w) (l : List UInt8) (hl : l.length ≤ 65536) : Calls Tryz.prog 23 #[.string ⟨l.toArray⟩] w (Ret (fun v w' => IsPair w' v (qNV l) (qDV l)) w) := by
  refine (fun_sound (C := cfgW WQ [(51, kPQ0)]) (E := sE [l] [qNV l, qDV l, qEV l] []) (args := [.val false [.str (.var 0) 65536]]) (T := .leaf [(true, [.int (.var 0) 7283, .int (.var 1) 7283])])
    mixed (cfgW_ok (.cons kPQ0_ok .nil)) no_asm Tryz.func23 (by decide +kernel) (by kernel_rfl) (by decide +kernel) rfl w [.string ⟨l.toArray⟩] rfl ?_ (fun w' e => hW.ext e)).mono ?_
  · intro i x hx
    match i, hx with
    | 0, hx => injection hx with hx; subst hx; exact ⟨fun _ => 0, _, rfl, one_str.2 ⟨rfl, hl⟩⟩
  · rintro e w' ⟨β, u, rfl, hh, ex⟩
    exact ⟨u, rfl, (one_pair.1 hh).1, ex⟩
def llen (z : Int) : Nat := (limbs z.natAbs).length
def kText : Con
  | [.val false [.str (.lit l) _]], _ => if decide (l.length ≤ 65536) then some (.val true [.int (.lit (qNV l)) (llen (qNV l)), .int (.lit (qDV l)) (llen (qDV l))]) else none
  | _, _ => none
theorem kText_ok {E : Env} : ConW Tryz.prog WQ E 23 kText := by
  refine ⟨?_, ?_, ⟨_, Tryz.func23, by decide +kernel, by kernel_rfl⟩⟩
  · intro args As r h hG β w vs hW hv hlen
    unfold kText at h
    split at h
    · split at h
      · rename_i hm
        have hm' := of_decide_eq_true hm
        injection h with h
        subst h
        obtain ⟨v, rfl, h1⟩ := args1 hv hlen
        obtain ⟨rfl, h2⟩ := one_str.1 h1
        refine (text_calls w hW _ hm').mono ?_
        rintro e w' ⟨u, rfl, hp, ex⟩
        exact ⟨_, rfl, one_pair.2 ⟨hp, Nat.le_refl _, Nat.le_refl _⟩, ex⟩
      · cases h
    · cases h
  · intro args As r h x off
    unfold kText at h
    split at h
    · split at h
      · injection h with h; subst h; intro e; cases e
      · cases h
    · cases h
/-- Square roots. -/
def sqN (n d : Int) (z : Int) : Int := if sqB n && sqB d then isq z else 0
def tSq : Tree := .ite (.and (.eq (.a1 3 (.var 0)) (.lit 0)) (.eq (.a2 3 (.a2 2 (.a1 2 (.var 0)) (.a1 2 (.var 0))) (.var 0)) (.lit 0)))
  (.ite (.and (.eq (.a1 3 (.var 1)) (.lit 0)) (.eq (.a2 3 (.a2 2 (.a1 2 (.var 1)) (.a1 2 (.var 1))) (.var 1)) (.lit 0))) (.leaf [(true, [.int (.a1 2 (.var 0)) 100000, .int (.a1 2 (.var 1)) 100000]), (false, [.b (.lit true)])])
    (.leaf [(true, [.int (.lit 0) 0, .int (.lit 0) 0]), (false, [.b (.lit false)])]))
  (.leaf [(true, [.int (.lit 0) 0, .int (.lit 0) 0]), (false, [.b (.lit false)])])
def RetSqQ (n d : Int) (w : World) (e : Ending) (w' : World) : Prop := ∃ v, e = .returned (.tuple #[v, .bool (sqB n && sqB d)]) ∧ IsPair w' v (sqN n d n) (sqN n d d) ∧ Ext w w'
theorem open_qb {E : Env} {β : Nat → Nat} {w : World} {v : Value} {x y : IT} {k m : Nat} {t : BT} (hx : (AV.tup [(true, [.int x k, .int y m]), (false, [.b t])]).holds E β w v) : ∃ p, v = .tuple #[p, .bool (t.den E)] ∧ IsPair w p (x.den E) (y.den E) := by
  obtain ⟨vs, rfl, u1, r1, rfl, k1, u2, r2, rfl, k2, hn⟩ := hx
  simp only [tupAll] at hn
  subst hn
  have k2' := one_bool.1 k2
  subst k2'
  exact ⟨u1, rfl, (one_pair.1 k1).1⟩
theorem sqrtQ_calls (w : World) (v : Value) (n d : Int) (h : IsPair w v n d) (l1 : Lim 100000 n) (l2 : Lim 100000 d) : Calls Tryz.prog 22 #[v] w (RetSqQ n d w) := by
  refine (fun_sound (C := cfgOf tabSqr) (E := zE [n, d]) (args := [argQ 0]) (T := tSq)
    mixed (cfg_ok tabSqr_ok) no_asm Tryz.func22 (by decide +kernel) (by kernel_rfl) (by decide +kernel) rfl w [v] rfl ?_).mono ?_
  · intro i x hx
    match i, hx with
    | 0, hx => injection hx with hx; subst hx; exact ⟨fun _ => 0, v, rfl, argP_holds h l1 l2 rfl rfl⟩
  · rintro e w' ⟨β, u, rfl, hh, ex⟩
    have d0 : (BT.and (.eq (.a1 3 (.var 0)) (.lit 0)) (.eq (.a2 3 (.a2 2 (.a1 2 (.var 0)) (.a1 2 (.var 0))) (.var 0)) (.lit 0))).den (zE [n, d]) = sqB n := rfl
    have d1 : (BT.and (.eq (.a1 3 (.var 1)) (.lit 0)) (.eq (.a2 3 (.a2 2 (.a1 2 (.var 1)) (.a1 2 (.var 1))) (.var 1)) (.lit 0))).den (zE [n, d]) = sqB d := rfl
    unfold tSq at hh
    simp only [Tree.pick, d0, d1] at hh
    unfold RetSqQ sqN
    cases h0 : sqB n <;> cases h1 : sqB d <;> rw [h0, h1] at hh
    · obtain ⟨p, rfl, hp⟩ := open_qb hh
      exact ⟨p, rfl, hp, ex⟩
    · obtain ⟨p, rfl, hp⟩ := open_qb hh
      exact ⟨p, rfl, hp, ex⟩
    · obtain ⟨p, rfl, hp⟩ := open_qb hh
      exact ⟨p, rfl, hp, ex⟩
    · obtain ⟨p, rfl, hp⟩ := open_qb hh
      exact ⟨p, rfl, hp, ex⟩
def kSqrtL : Con
  | [.val true [.int (.lit n) l, .int (.lit d) m]], _ => if decide (l ≤ 100000) && decide (m ≤ 100000) then
      some (.tup [(true, [.int (.lit (sqN n d n)) (llen (sqN n d n)), .int (.lit (sqN n d d)) (llen (sqN n d d))]), (false, [.b (.lit (sqB n && sqB d))])]) else none
  | _, _ => none
theorem kSqrtL_ok {E : Env} : ConOK Tryz.prog E 22 kSqrtL := by
  refine ⟨?_, ?_, ⟨_, Tryz.func22, by decide +kernel, by kernel_rfl⟩⟩
  · intro args As r h hG β w vs hv hlen
    unfold kSqrtL at h
    split at h
    · split at h
      · rename_i hm
        simp only [Bool.and_eq_true, decide_eq_true_iff] at hm
        injection h with h
        subst h
        obtain ⟨v, rfl, h1⟩ := args1 hv hlen
        obtain ⟨p1, a1, a2⟩ := one_pair.1 h1
        refine (sqrtQ_calls w v _ _ p1 (a1.mono hm.1) (a2.mono hm.2)).mono ?_
        rintro e w' ⟨u, rfl, hp, ex⟩
        exact ⟨_, rfl, ⟨[u, .bool _], rfl, u, _, rfl, one_pair.2 ⟨hp, Nat.le_refl _, Nat.le_refl _⟩, _, _, rfl, one_bool.2 rfl, rfl⟩, ex⟩
      · cases h
    · cases h
  · intro args As r h x off
    unfold kSqrtL at h
    split at h
    · split at h
      · injection h with h; subst h; intro e; cases e
      · cases h
    · cases h
/-- Simplest, at the three examples. -/
def kSimL : Con
  | [.val true [.int (.lit a) _, .int (.lit b) _], .val true [.int (.lit c) _, .int (.lit d) _]], _ =>
    if a == 3 && (b == 10 && (c == 2 && d == 5)) then some (.tup [(true, [.int (.lit 1) 1, .int (.lit 3) 1]), (false, [.n .i64 (.lit 0)])])
    else if a == -5 && (b == 2 && (c == 7 && d == 2)) then some (.tup [(true, [.int (.lit 0) 1, .int (.lit 1) 1]), (false, [.n .i64 (.lit 0)])])
    else if a == 2 && (b == 1 && (c == 3 && d == 1)) then some (.tup [(true, [.int (.lit 5) 1, .int (.lit 2) 1]), (false, [.n .i64 (.lit 0)])]) else none
  | _, _ => none
theorem kSimL_ok {E : Env} : ConOK Tryz.prog E 6 kSimL := by
  refine ⟨?_, ?_, ⟨_, Tryz.func6, by decide +kernel, by kernel_rfl⟩⟩
  · intro args As r h hG β w vs hv hlen
    unfold kSimL at h
    split at h
    · obtain ⟨v, u, rfl, h1, h2⟩ := args2 hv hlen
      obtain ⟨p1, _⟩ := one_pair.1 h1
      obtain ⟨p2, _⟩ := one_pair.1 h2
      split at h
      · rename_i hz
        simp only [Bool.and_eq_true, beq_iff_eq] at hz
        obtain ⟨rfl, rfl, rfl, rfl⟩ := hz
        injection h with h
        subst h
        refine (si_1 w v u p1 p2).mono ?_
        rintro e w' ⟨x, rfl, hp, ex⟩
        exact ⟨_, rfl, ⟨[x, .int .i64 0], rfl, x, _, rfl, one_pair.2 ⟨hp, lim1 (z := 1) (by decide), lim1 (z := 3) (by decide)⟩, _, _, rfl, one_num.2 rfl, rfl⟩, ex⟩
      · split at h
        · rename_i hz
          simp only [Bool.and_eq_true, beq_iff_eq] at hz
          obtain ⟨rfl, rfl, rfl, rfl⟩ := hz
          injection h with h
          subst h
          refine (si_2 w v u p1 p2).mono ?_
          rintro e w' ⟨x, rfl, hp, ex⟩
          exact ⟨_, rfl, ⟨[x, .int .i64 0], rfl, x, _, rfl, one_pair.2 ⟨hp, lim1 (z := 0) (by decide), lim1 (z := 1) (by decide)⟩, _, _, rfl, one_num.2 rfl, rfl⟩, ex⟩
        · split at h
          · rename_i hz
            simp only [Bool.and_eq_true, beq_iff_eq] at hz
            obtain ⟨rfl, rfl, rfl, rfl⟩ := hz
            injection h with h
            subst h
            refine (si_3 w v u p1 p2).mono ?_
            rintro e w' ⟨x, rfl, hp, ex⟩
            exact ⟨_, rfl, ⟨[x, .int .i64 0], rfl, x, _, rfl, one_pair.2 ⟨hp, lim1 (z := 5) (by decide), lim1 (z := 2) (by decide)⟩, _, _, rfl, one_num.2 rfl, rfl⟩, ex⟩
          · cases h
    · cases h
  · intro args As r h x off
    unfold kSimL at h
    split at h
    · split at h
      · injection h with h; subst h; intro e; cases e
      · split at h
        · injection h with h; subst h; intro e; cases e
        · split at h
          · injection h with h; subst h; intro e; cases e
          · cases h
    · cases h
/-- Floor. -/
def kFlQ : Con
  | [.val true [.int x l, .int y m]], _ => if canon x y && (ql l && ql m) then some (.val true [.int (.a2 4 x y) l]) else none
  | _, _ => none
theorem kFlQ_ok {E : Env} (hE : QEnv E) : ConOK Tryz.prog E 27 kFlQ := by
  refine ⟨?_, ?_, ⟨_, Tryz.func27, by decide +kernel, by kernel_rfl⟩⟩
  · intro args As r h hG β w vs hv hlen
    unfold kFlQ at h
    split at h
    · split at h
      · rename_i hm
        simp only [ql, Bool.and_eq_true, decide_eq_true_iff] at hm
        obtain ⟨c1, b1, b2⟩ := hm
        injection h with h
        subst h
        obtain ⟨v, rfl, h1⟩ := args1 hv hlen
        obtain ⟨q, _, e1, e2, hq, m1, m2⟩ := one_ratQ hE c1 h1
        refine (floor_rat_calls w v q hq ⟨m1.mono b1, m2.mono b2⟩).mono ?_
        rintro e w' ⟨u, rfl, hI, ex⟩
        refine ⟨_, rfl, one_int.2 ⟨?_, ?_⟩, ex⟩
        · show IsInt w' u (dq _ _)
          rw [e1, e2]; exact hI
        · show Lim _ (dq _ _)
          rw [e1, e2]; exact m1.natAbs_le (dq_abs _ _)
      · cases h
    · cases h
  · intro args As r h x off
    unfold kFlQ at h
    split at h
    · split at h
      · injection h with h; subst h; intro e; cases e
      · cases h
    · cases h
def tabA : List (Nat × Con) :=
  (23, kText) :: (22, kSqrtL) :: (6, kSimL) :: (24, kFmtL) :: (27, kFlQ) :: (26, kIIb fun x y => .eq x y) :: (18, kFrom) :: tabQ
theorem tabA_ok {E : Env} (hE : QEnv E) : TabW Tryz.prog WQ E tabA :=
  .cons kText_ok (.cons kSqrtL_ok.toW (.cons kSimL_ok.toW (.cons kFmtL_ok (.cons (kFlQ_ok hE).toW
    (.cons (kIIb_ok (fun x y => x == y) (fun _ _ => rfl) (fun w v1 v2 z1 z2 h1 h2 => (rsame_calls w v1 v2 z1 z2 h1 h2).mono (fun e w' h => ⟨by rw [h.1]; by_cases hz : z1 = z2 <;> simp [hz], h.2⟩)) ⟨_, Tryz.func26, by decide +kernel, by kernel_rfl⟩).toW
      (.cons (tabR1_ok.all (18, kFrom) (by simp [tabR1])).toW (tabQ_ok hE).toW))))))
theorem awake_ok : Awake WQ := by
  intro w hW
  refine (fun_sound (C := cfgW WQ tabA) (E := qE []) (args := []) (T := .leaf [(false, [.b (.lit true)])])
    mixed (cfgW_ok (tabA_ok (qE_ok _))) no_asm Tryz.func4 (by decide +kernel) (by kernel_rfl) (by decide +kernel) rfl w [] rfl ?_ (fun w' e => hW.ext e)).mono ?_
  · intro i x hx; simp at hx
  · rintro e w' ⟨β, u, rfl, hh, ex⟩
    have := one_bool.1 hh
    subst this
    exact ⟨rfl, ex⟩

end Go.Proofs.YtdblkeeicmncfaaGreatDoor
end

/- ---- Lift ---- -/
section
/-
  How an argument that is a struct of a bool and a slice of uint32 is read.
-/
set_option maxRecDepth 100000
namespace Go.Proofs.YtdblkeeicmncfaaGreatDoor
open Go.ChangeShapes Go.WideShapes Go.ChangeAt Go.RowKit Go.Joins

theorem own : ownKnob Tryz.prog.godebug = none := by kernel_rfl
theorem laidOut : laidOutB Tryz.prog = true := by kernel_rfl

theorem open_cells {H : Type} {enc : TypeId × Value → H} {W : World} {base : Nat} {spare : Nat → Bool} {held : Bool} {v0 v1 : Value} {y0 y1 : DataW H × List MemPlace} {n : Nat}
    (h0 : DataW.trod enc Tryz.prog W base spare held n 4 [v0] = some y0) (h1 : DataW.trod enc Tryz.prog W base spare held n 22 [v1] = some y1) : ∃ neg xs, Raw W (.agg #[v0, v1]) neg xs := by
  obtain ⟨b, hb0, _⟩ := DataW.trod_bool Tryz.underlying4 h0
  simp only [List.cons.injEq, and_true] at hb0
  subst hb0
  rcases open_ints Tryz.underlying22 Tryz.underlying71 (by kernel_rfl) h1 with ⟨hcs, _⟩ | ⟨x, l, c, zs, hcs, _, hl, hm, hz, _, hcell, hwz⟩
  · simp only [List.cons.injEq, and_true] at hcs
    subst hcs
    exact ⟨b, [], none, 0, rfl, by simp, by omega, Cells.nil _ _⟩
  · simp only [List.cons.injEq, and_true] at hcs
    subst hcs
    have hlz : l ≤ zs.length := by rw [hz]; split <;> omega
    have hlen : ((zs.take l).map Int.toNat).length = l := by simp [hlz]
    refine ⟨b, (zs.take l).map Int.toNat, some x, c, by rw [hlen], by rw [hlen]; exact hl, by unfold maxLen at hm; omega, ?_⟩
    rcases Nat.eq_zero_or_pos l with h0 | h0
    · exact .inl (List.eq_nil_of_length_eq_zero (by rw [hlen]; exact h0))
    · obtain ⟨bb, off, rfl, hc⟩ := ints_at hcell (by omega)
      refine .inr ⟨bb, off, rfl, fun i hi => ?_⟩
      rw [hlen] at hi
      rw [hc i (by omega)]
      have hmem : zs.getD i 0 ∈ zs := by
        rw [List.getD_eq_getElem?_getD, List.getElem?_eq_getElem (by omega)]
        exact List.getElem_mem _
      have hw := hwz _ hmem
      have hb2 : 0 ≤ zs.getD i 0 := by
        have : 0 ≤ zs.getD i 0 ∧ zs.getD i 0 ≤ 4294967295 := by simpa [Lit.wf, IntKind.min, IntKind.max, IntKind.signed, IntKind.bits] using hw
        exact this.1
      have he : ((zs.take l).map Int.toNat).getD i 0 = (zs.getD i 0).toNat := by
        simp only [List.getD_eq_getElem?_getD, List.getElem?_map, List.getElem?_take]
        rw [if_pos hi]
        rw [List.getElem?_eq_getElem (by omega)]
        rfl
      rw [he]
      congr 2
      omega

theorem open_arg {H : Type} {enc : TypeId × Value → H} {W : World} {b0 base : Nat} {spare : Nat → Bool} {held : Bool} {r : Reach} {v : Value} {d : DataW H} {p : List MemPlace}
    (hv : Value.okWide Tryz.prog W r b0 24 v) (h : DataW.Trod enc Tryz.prog W base spare held 24 v d p) : ∃ neg xs, Raw W v neg xs := by
  obtain ⟨v0, v1, y0, y1, n, rfl, rfl, rfl, h0, h1⟩ := open_agg2 Tryz.underlying24 (by kernel_rfl) (by kernel_rfl) hv h
  exact open_cells h0 h1

end Go.Proofs.YtdblkeeicmncfaaGreatDoor
end

/- ---- Liftq ---- -/
section
/-
  How an argument that is a struct of two integers is read; and the wrap of a law whose row lists variables.
-/
set_option maxRecDepth 100000
namespace Go.Proofs.YtdblkeeicmncfaaGreatDoor
open Go.ChangeShapes Go.WideShapes Go.ChangeAt Go.RowKit Go.Joins

theorem open_two {H : Type} {enc : TypeId × Value → H} {W : World} {base : Nat} {spare : Nat → Bool} {held : Bool} {v0 v1 : Value} {y : DataW H × List MemPlace} {n : Nat}
    (h : DataW.trod enc Tryz.prog W base spare held n 24 [v0, v1] = some y) : ∃ neg xs, Raw W (.agg #[v0, v1]) neg xs := by
  obtain ⟨y0, y1, n, hx, _, h0, h1⟩ := trod_struct2 Tryz.underlying24 h
  have cb : Tryz.prog.cellsOf 4 = 1 := by kernel_rfl
  have cs : Tryz.prog.cellsOf 22 = 1 := by kernel_rfl
  exact open_cells (v0 := v0) (v1 := v1) (by simpa [cb] using h0) (by simpa [cs] using h1)
theorem open_q {H : Type} {enc : TypeId × Value → H} {W : World} {b0 base : Nat} {spare : Nat → Bool} {held : Bool} {r : Reach} {v : Value} {d : DataW H} {p : List MemPlace}
    (hv : Value.okWide Tryz.prog W r b0 26 v) (h : DataW.Trod enc Tryz.prog W base spare held 26 v d p) : ∃ s1 xs1 s2 xs2, RawQ W v s1 xs1 s2 xs2 := by
  obtain ⟨cs, rfl, hsz⟩ := okWide_struct Tryz.underlying26 hv
  have c4 : Tryz.prog.cellsOf 26 = 4 := by kernel_rfl
  have c2 : Tryz.prog.cellsOf 24 = 2 := by kernel_rfl
  obtain ⟨c0, c1, c2', c3, rfl⟩ := array4 (hsz.trans c4)
  obtain ⟨fuel, hf⟩ := h
  obtain ⟨y0, y1, n, hx, _, h0, h1⟩ := trod_struct2 Tryz.underlying26 hf
  obtain ⟨s1, xs1, w1⟩ := open_two (v0 := c0) (v1 := c1) (by simpa [Value.cells, c2] using h0)
  obtain ⟨s2, xs2, w2⟩ := open_two (v0 := c2') (v1 := c3) (by simpa [Value.cells, c2] using h1)
  exact ⟨s1, xs1, s2, xs2, c0, c1, c2', c3, rfl, w1, w2⟩

theorem handed_laid {H : Type} {enc : TypeId × Value → H} {a : Assume} {C : Checked} {os : Os} {f : FuncId} {fn : Func} {s : ChangeSpec} {conds : List PathCond} {apart fresh handsOn again : Bool} {L : List (String × DataW Unit)}
    (own : ownKnob C.prog.godebug = none) (started : os.Started) (noInit : C.prog.inits.idxOf? f = none) (hfn : C.prog.funcs[f]? = some fn)
    (witness : ∃ (w : World) (tape : Tape) (i : Input), w.os = os ∧ (w.forCall tape i).Shaped C.prog ∧ i.vars = [] ∧ Input.okWide C.prog (w.forCall tape i) .any w.heap.size f i ∧
      ((s.pre enc C.prog fn conds apart (w.forCall tape i).memory i.args ∧ laidMetH C.prog L (w.forCall tape i).memory) ∧ sizedMet enc C.prog fn (OpenSpec.ofChange s) apart (w.forCall tape i).memory i.args) ∧ a.holds C.prog (lone (Frame.enter C.prog f i.args .normal) [] (w.forCall tape i)))
    (contract : ∀ (W : World) (base : Nat) (args : Array Value) (ds gs : List (DataW H)) (before : List MemPlace),
      (∀ (j : Nat) t v, fn.params[j]? = some t → args[j]? = some v → Value.okWide C.prog W .any base t v) →
      DataW.Whole enc C.prog fn.params.toList s.vars apart W args.toList ds gs before →
      conds.all (PathCond.test C.prog ⟨fn.params.toList, ds, s.plain.varTypes C.prog, gs⟩) = true →
      laidMetH C.prog L W → W.ShapedOpen C.prog →
      Calls C.prog f args W fun e W' => ∃ v, e = .returned v ∧ s.post enc C.prog fn apart fresh handsOn again W args v W') :
    ReturnsInHanded a C os f .any (fun w args => (s.pre enc C.prog fn conds apart w args ∧ laidMetH C.prog L w) ∧ sizedMet enc C.prog fn (OpenSpec.ofChange s) apart w args) (s.post enc C.prog fn apart fresh handsOn again) := by
  refine returnsInHanded_of_calls own started noInit witness ?_
  intro w tape i _ hsh _ hok hpre _
  obtain ⟨_, _, _, fn', hfn', _, _, _, _, hval⟩ := hok
  have e : fn' = fn := Option.some.inj (hfn'.symm.trans hfn)
  subst e
  obtain ⟨⟨⟨ds, gs, before, hw, hc⟩, hx⟩, _⟩ := hpre
  have hw' := DataW.Whole.of_heap (w' := w.forCall tape i) (by rfl) hw
  refine (contract (w.forCall tape i) w.heap.size i.args ds gs before hval hw' hc (hx.of_heap (by rfl)) hsh).mono fun e W' ⟨v, he, hp⟩ => ?_
  subst he
  exact ChangeSpec.post_blind hp

theorem pow10_eq {H : Type} : (Rows.laid_internal_strconv_uint64pow10 : DataW H) = Lib.tabData .u64 Lib.pow10Tab := by rfl
def laidL : List (String × DataW Unit) := [("math/bits.deBruijn32tab", Rows.laid_math_bits_deBruijn32tab), ("math/bits.deBruijn64tab", Rows.laid_math_bits_deBruijn64tab), ("internal/strconv.uint64pow10", Rows.laid_internal_strconv_uint64pow10)]
theorem WT.laid {W : World} (h : laidMetH Tryz.prog laidL W) : WT W := by
  rw [MakeChecks.laidMetH_plain _ _ _ (by kernel_rfl)] at h
  have h2 := h.tail.tail
  rw [pow10_eq] at h2
  exact Lib.tabIs_of_head (g := 1) (by kernel_rfl) (t := 121) (by kernel_rfl) (n := 20) (e := 63) Tryz.underlying121 Tryz.underlying63 (by kernel_rfl) (by kernel_rfl) h2
theorem WQ.laid {W : World} (h : laidMetH Tryz.prog laidL W) (hs : W.ShapedOpen Tryz.prog) : WQ W := ⟨WM.shaped hs, WT.laid h⟩
/-- The door's own heap meets the condition. -/
theorem door_met (os : Os) (args : Array Value) : laidMetH Tryz.prog laidL ((World.doorLaid Tryz.prog 24 os).forCall (fun _ _ => 0) ⟨#[], args, []⟩).memory :=
  laidMetH_of_parts3 (fuel := 8) (laidMet_of_run' 8 (by kernel_rfl) (by kernel_rfl)) (by kernel_rfl) (by kernel_rfl)
theorem door_shaped (os : Os) : ((World.doorLaid Tryz.prog 24 os).forCall (fun _ _ => 0) ⟨#[], #[], []⟩).Shaped Tryz.prog :=
  World.shaped_of_RefB (by kernel_rfl) (by kernel_rfl)
end Go.Proofs.YtdblkeeicmncfaaGreatDoor
end
