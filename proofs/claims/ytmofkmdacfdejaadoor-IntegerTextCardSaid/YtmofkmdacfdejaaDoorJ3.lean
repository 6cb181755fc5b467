/-
  Texts of this seat, joined.
-/
import Derived.Test.YtmofkmdacfdejaaDoorJ2
import Derived.Deep.RegionHeld3
import Derived.Test.YtmofkmdacfdejaaDoorRows
import Derived.ProofKit
import Derived.OpenShut
import Derived.ChangeOld
import Derived.Lib.SmallJoins
import Derived.LaidMore
import Derived.Lib.LaidTab
import Derived.Stop.Joined
import Derived.Stop.LaidErr
import Derived.LaidLaws
import Derived.Handed
/- ---- Reg ---- -/
section
/-
  A region that draws its order, by one invariant: each operation is walked once, whatever has come up before it.
-/
set_option maxRecDepth 100000
namespace Go.Proofs.YtmofkmdacfdejaaDoor
open Go.RowKit

def AllOps (F : Nat → Oper → Prop) : Nat → List Oper → Prop
  | _, [] => True
  | k, o :: r => F k o ∧ AllOps F (k + 1) r
theorem AllOps.nil {F : Nat → Oper → Prop} {k : Nat} : AllOps F k [] := True.intro
theorem AllOps.cons {F : Nat → Oper → Prop} {k : Nat} {o : Oper} {r : List Oper} (h : F k o) (t : AllOps F (k + 1) r) : AllOps F k (o :: r) := ⟨h, t⟩
theorem AllOps.get {F : Nat → Oper → Prop} : ∀ {l : List Oper} {k : Nat}, AllOps F k l → ∀ (i : Nat) (o : Oper), l[i]? = some o → F (k + i) o := by
  intro l
  induction l with
  | nil => intro k _ i o h; simp at h
  | cons x r ih =>
    intro k h i o hi
    cases i with
    | zero => simp at hi; subst hi; exact h.1
    | succ i =>
      have := ih h.2 i o (by simpa using hi)
      rwa [Nat.add_assoc, Nat.add_comm 1] at this
/-- The operations that go ahead of this one. -/
def preds (o : Oper) : List Nat := (o.after.toList.filter (Region.binds .any)).map (·.on)
theorem preds_spec {o : Oper} {s : Array Bool} (h : ∀ e ∈ o.after, Region.binds .any e = true → s.getD e.on false = true) : ∀ j ∈ preds o, s.getD j false = true := by
  intro j hj
  unfold preds at hj
  obtain ⟨e, he, rfl⟩ := List.mem_map.1 hj
  obtain ⟨h1, h2⟩ := List.mem_filter.1 he
  exact h e (by simpa using h1) h2
/-- Each operation's edges lead backwards. -/
def backB : Nat → List Oper → Bool
  | _, [] => true
  | k, o :: r => (preds o).all (fun j => decide (j < k)) && backB (k + 1) r
theorem backB_get : ∀ {l : List Oper} {k : Nat}, backB k l = true → ∀ (i : Nat) (o : Oper), l[i]? = some o → ∀ j ∈ preds o, j < k + i := by
  intro l
  induction l with
  | nil => intro k _ i o h; simp at h
  | cons x r ih =>
    intro k h i o hi j hj
    simp only [backB, Bool.and_eq_true, List.all_eq_true, decide_eq_true_iff] at h
    cases i with
    | zero => simp at hi; subst hi; exact h.1 j hj
    | succ i =>
      have := ih h.2 i o (by simpa using hi) j hj
      omega
theorem all_listed {l : List Oper} {s : Array Bool} (hs : s.size = l.length) (hb : backB 0 l = true) (hr : Region.ready .any l.toArray s = []) : ∀ i, i < l.length → s.getD i false = true := by
  intro i
  induction i using Nat.strongRecOn with
  | _ i ih =>
    intro hi
    rcases hv : s.getD i false with _ | _
    · exfalso
      have hmem : i ∈ Region.ready .any l.toArray s := by
        rw [mem_ready]
        refine ⟨?_, l[i], by simp [hi], ?_⟩
        · simp only [Array.getD_eq_getD_getElem?] at hv ⊢
          rw [Array.getElem?_eq_getElem (by omega)] at hv ⊢
          simpa using hv
        · intro e he hbd
          have hp : e.on ∈ preds l[i] := by
            unfold preds
            exact List.mem_map.2 ⟨e, List.mem_filter.2 ⟨by simpa using he, hbd⟩, rfl⟩
          have := backB_get hb i l[i] (by simp [hi]) e.on hp
          exact ih e.on (by omega) (by omega)
      rw [hr] at hmem; cases hmem
    · rfl
def unlisted (s : Array Bool) (n : Nat) : Nat := ((List.range n).filter fun i => !s.getD i true).length
theorem filter_lt {α : Type} (p q : α → Bool) : ∀ (l : List α), (∀ x ∈ l, q x = true → p x = true) → (∃ x ∈ l, p x = true ∧ q x = false) → (l.filter q).length < (l.filter p).length := by
  intro l
  induction l with
  | nil => intro _ ⟨x, hx, _⟩; cases hx
  | cons y r ih =>
    intro h ⟨x, hx, hp, hq⟩
    have hle : (r.filter q).length ≤ (r.filter p).length := by
      have : ∀ (l : List α), (∀ x ∈ l, q x = true → p x = true) → (l.filter q).length ≤ (l.filter p).length := by
        intro l
        induction l with
        | nil => intro _; simp
        | cons z t iht =>
          intro hz
          have := iht (fun x hx => hz x (List.mem_cons_of_mem _ hx))
          have hzz := hz z (by simp)
          simp only [List.filter_cons]
          cases hqz : q z
          · cases hpz : p z <;> simp <;> omega
          · rw [hzz hqz]; simp; exact this
      exact this r (fun x hx => h x (List.mem_cons_of_mem _ hx))
    rcases List.mem_cons.1 hx with rfl | hx
    · simp only [List.filter_cons, hp, hq]; simp; omega
    · have := ih (fun x hx => h x (List.mem_cons_of_mem _ hx)) ⟨x, hx, hp, hq⟩
      have hyy := h y (by simp)
      simp only [List.filter_cons]
      cases hqy : q y
      · cases hpy : p y <;> simp <;> omega
      · rw [hyy hqy]; simp; exact this
theorem unlisted_lt {s : Array Bool} {n i : Nat} (hn : s.size = n) (hi : s.getD i true = false) : unlisted (s.setIfInBounds i true) n < unlisted s n := by
  have hin : i < n := by
    rcases Nat.lt_or_ge i s.size with h | h
    · omega
    · simp [Array.getElem?_eq_none h] at hi
  refine filter_lt _ _ _ ?_ ⟨i, List.mem_range.2 hin, by rw [hi]; rfl, ?_⟩
  · intro x _ hx
    by_cases h : i = x
    · subst h; rw [hi]; rfl
    · rwa [getD_set_ne true h] at hx
  · simp [hn, hin]

theorem wp_region_inv {P : Program} {Q : Exit → Act → World → Prop} {l : List Oper} {id : Nat} {a0 : Act} {w0 : World} (I : Act → Array Bool → Act → World → Prop) (hm : P.follows .mixedOrders = true) (hb : backB 0 l = true) (n : Nat) (hn : a0.tmps.size = n)
    (h0 : ∀ a : Act, a.tmps.size = n → I a (Array.replicate l.length false) a w0.drew)
    (hs : ∀ s a w, I a0 s a w → AllOps (fun i o => s.getD i false = false → (∀ j ∈ preds o, s.getD j false = true) → ∀ K : Act → World → Prop, Hid (∀ a w, I a0 (s.setIfInBounds i true) a w → K a w) →
      if Region.wanted o (yielded l.toArray a.tmps) = true then Oper.wp P o a w K Q else K (a.put o.dst undef) w) 0 l)
    (he : ∀ s a w, (∀ i, i < l.length → s.getD i false = true) → I a0 s a w → Q .normal a w) : (Code.region id l.toArray true).wp P Q a0 w0 := by
  refine wp_region_any hm ?_
  have main : ∀ (f : Nat) (s : Array Bool) (a : Act) (w : World), s.size = l.length → unlisted s l.length ≤ f → I a0 s a w → wpAny P .any l.toArray Q f s a w := by
    intro f
    induction f with
    | zero =>
      intro s a w hz hu hI
      have hr : Region.ready .any l.toArray s = [] := by
        apply List.eq_nil_iff_forall_not_mem.2
        intro i hi
        have := unlisted_lt hz (mem_ready.1 hi).1
        omega
      exact ⟨hr, he s a w (all_listed hz hb hr) hI⟩
    | succ f ih =>
      intro s a w hz hu hI
      refine ⟨fun hr => he s a w (all_listed hz hb hr) hI, fun i hi => ?_⟩
      obtain ⟨h1, o, ho, h2⟩ := mem_ready.1 hi
      have hlt := unlisted_lt hz h1
      have hst := (hs s a w hI).get i o (by simpa using ho)
      rw [Nat.zero_add] at hst
      refine wpOp_step ho (fun K hK => ?_)
      have hu' : s.getD i false = false := by
        simp only [Array.getD_eq_getD_getElem?] at h1 ⊢
        rcases Nat.lt_or_ge i s.size with hlt | hge
        · rw [Array.getElem?_eq_getElem hlt] at h1 ⊢; simpa using h1
        · rw [Array.getElem?_eq_none hge]; rfl
      exact hst hu' (preds_spec h2) K (fun a w h => hK a w (ih _ a w (by simpa using hz) (by omega) h))
  exact main _ _ _ _ (by simp) (by
    unfold unlisted
    exact Nat.le_trans (List.length_filter_le _ _) (by simp)) (h0 a0 hn)

/-- Slots set one after the other. -/
def setAll (a : Act) : List (Nat × Value) → Act
  | [] => a
  | (d, v) :: r => setAll (a.put (some d) v) r
theorem setAll_self (a : Act) (n : Nat) (hn : a.tmps.size = n) : ∀ ds : List Nat, (∀ d ∈ ds, d < n) → setAll a (ds.map fun d => (d, a.tmps.getD d undef)) = a := by
  intro ds
  induction ds with
  | nil => intro _; rfl
  | cons d r ih =>
    intro h
    have hd := h d (by simp)
    have e : a.put (some d) (a.tmps.getD d undef) = a := by
      unfold Act.put
      cases a with
      | mk t df =>
        simp only at hn hd ⊢
        congr 1
        apply Array.ext
        · simp
        · intro i h1 h2
          rw [Array.getElem_setIfInBounds]
          split
          · rename_i hi; subst hi; simp [h2]
          · rfl
    show setAll (a.put (some d) (a.tmps.getD d undef)) _ = a
    rw [e]
    exact ih (fun x hx => h x (List.mem_cons_of_mem _ hx))
theorem old {s : Array Bool} {i j : Nat} (hij : i ≠ j) (h : (s.setIfInBounds i true).getD j false = true) : s.getD j false = true := by
  rwa [getD_set_ne false hij] at h
theorem none_yet {n j : Nat} (h : (Array.replicate n false).getD j false = true) : False := by
  simp only [Array.getD_eq_getD_getElem?, Array.getElem?_replicate] at h
  split at h <;> simp at h

end Go.Proofs.YtmofkmdacfdejaaDoor
end

/- ---- Struct ---- -/
section
/-
  A struct's block: two cells of it, as it is made, and as it is written.
-/
set_option maxRecDepth 100000
namespace Go.Proofs.YtmofkmdacfdejaaDoor
open Go.RowKit

/-- A struct's block as it is made: two cells, not frozen. -/
def Fresh (w : World) (b : Nat) : Prop :=
  w.cell? ⟨b, 0, none⟩ = some (.bool false) ∧ w.cell? ⟨b, 1, none⟩ = some (.slice none 0 0) ∧ w.frozen? ⟨b, 0, none⟩ = false ∧ w.frozen? ⟨b, 1, none⟩ = false
theorem Fresh.ext {w w' : World} {b : Nat} (h : Fresh w b) (e : Ext w w') : Fresh w' b :=
  ⟨e.cell h.1, e.cell h.2.1, e.frozen (lt_of_cell h.1) h.2.2.1, e.frozen (lt_of_cell h.2.1) h.2.2.2⟩
theorem fresh_new (w : World) (t : TypeId) : Fresh (w.alloc (.cells #[.bool false, .slice none 0 0] t)) w.heap.size := by
  obtain ⟨W, hW, _, _, h1, h2, h3, h4⟩ := res_new w t
  rw [hW]
  exact ⟨h1, h2, h3, h4⟩
theorem fresh_snd (w : World) (o : Obj) (t : TypeId) : Fresh ((w.alloc o).alloc (.cells #[.bool false, .slice none 0 0] t)) (w.heap.size + 1) := by
  have := fresh_new (w.alloc o) t
  rw [World.size_alloc] at this
  exact this
theorem Fresh.alloc {w : World} {b : Nat} (h : Fresh w b) (o : Obj) : Fresh (w.alloc o) b := h.ext ((Ext.refl w).alloc o)

theorem Raw.set {w : World} {v : Value} {neg : Bool} {xs : List Nat} (h : Raw w v neg xs) {p : Addr} {u : Value} (hp : w.cell? p = some u) (hu : ∀ x, u ≠ .int .u32 x) (u' : Value) : Raw (w.setCell p u') v neg xs := by
  obtain ⟨ao, cap, h1, h2, h3, h4⟩ := h
  exact ⟨ao, cap, h1, h2, h3, h4.store hp hu u'⟩
/-- A struct's block: what its two cells hold. -/
def Struct (w : World) (b : Nat) (u0 u1 : Value) : Prop := w.cell? ⟨b, 0, none⟩ = some u0 ∧ w.cell? ⟨b, 1, none⟩ = some u1
theorem Struct.ext {w w' : World} {b : Nat} {u0 u1 : Value} (h : Struct w b u0 u1) (e : Ext w w') : Struct w' b u0 u1 := ⟨e.cell h.1, e.cell h.2⟩
theorem Struct.set {w : World} {b b' : Nat} {u0 u1 : Value} (h : Struct w b u0 u1) (hb : b' ≠ b) (j : Nat) (u : Value) : Struct (w.setCell ⟨b', j, none⟩ u) b u0 u1 :=
  ⟨by rw [World.cell?_setCell_far _ _ _ _ hb]; exact h.1, by rw [World.cell?_setCell_far _ _ _ _ hb]; exact h.2⟩
theorem Fresh.set {w : World} {b b' : Nat} (h : Fresh w b) (hb : b' ≠ b) (j : Nat) (u : Value) : Struct (w.setCell ⟨b', j, none⟩ u) b (.bool false) (.slice none 0 0) :=
  Struct.set ⟨h.1, h.2.1⟩ hb j u
theorem Struct.put {w : World} {b : Nat} {u0 u1 v0 v1 : Value} (h : Struct w b u0 u1) : Struct ((w.setCell ⟨b, 0, none⟩ v0).setCell ⟨b, 1, none⟩ v1) b v0 v1 := by
  constructor
  · rw [World.cell?_setCell_other _ _ _ _ (by simp)]
    exact World.cell?_setCell_same _ _ _ h.1
  · refine World.cell?_setCell_same _ _ _ (u := u1) ?_
    rw [World.cell?_setCell_other _ _ _ _ (by simp)]
    exact h.2
theorem Raw.put {w : World} {v : Value} {neg : Bool} {xs : List Nat} {b : Nat} (h : Raw w v neg xs) (k : Struct w b (.bool false) (.slice none 0 0)) (v0 v1 : Value) : Raw ((w.setCell ⟨b, 0, none⟩ v0).setCell ⟨b, 1, none⟩ v1) v neg xs := by
  refine (h.set k.1 (by simp) v0).set (u := .slice none 0 0) ?_ (by simp) v1
  rw [World.cell?_setCell_other _ _ _ _ (by simp)]
  exact k.2
theorem Ext.put {a w : World} (h : Ext a w) {b : Nat} (hb : a.heap.size ≤ b) (v0 v1 : Value) : Ext a ((w.setCell ⟨b, 0, none⟩ v0).setCell ⟨b, 1, none⟩ v1) :=
  (h.setCell (p := ⟨b, 0, none⟩) hb v0).setCell (p := ⟨b, 1, none⟩) hb v1
theorem struct_new (w : World) (u0 u1 : Value) (t : TypeId) : Struct (w.alloc (.cells #[u0, u1] t)) w.heap.size u0 u1 := ⟨by simp, by simp⟩

end Go.Proofs.YtmofkmdacfdejaaDoor
end

/- ---- Keep ---- -/
section
/-
  What an operation of a drawn region leaves: numbers in memory stay, and so do structs but for the variable that is written.
-/
set_option maxRecDepth 100000
namespace Go.Proofs.YtmofkmdacfdejaaDoor
open Go.RowKit

/-- Nothing below B turns; limbs stay; a struct's cells stay a struct's. -/
structure Keep (B : Nat) (w w' : World) : Prop where
  below : Below B w w'
  u32 : ∀ p x, w.cell? p = some (.int .u32 x) → w'.cell? p = some (.int .u32 x)
  bool : ∀ p x, w.cell? p = some (.bool x) → ∃ y, w'.cell? p = some (.bool y)
  slice : ∀ p x n c, w.cell? p = some (.slice x n c) → ∃ y m d, w'.cell? p = some (.slice y m d)
  free : ∀ p, p.block < w.heap.size → w.frozen? p = false → w'.frozen? p = false
theorem Keep.of {B : Nat} {w w' : World} (e : Ext w w') (h : B ≤ w.heap.size) : Keep B w w' :=
  ⟨Below.mono e h, fun _ _ hc => e.cell hc, fun _ x hc => ⟨x, e.cell hc⟩, fun _ x n c hc => ⟨x, n, c, e.cell hc⟩, fun _ hp hf => e.frozen hp hf⟩
theorem Keep.cells {B : Nat} {w w' : World} (k : Keep B w w') {ao : Option Addr} {xs : List Nat} (h : Cells w ao xs) : Cells w' ao xs := by
  rcases h with h | ⟨b, off, rfl, h⟩
  · exact .inl h
  · exact .inr ⟨b, off, rfl, fun i hi => k.u32 _ _ (h i hi)⟩
theorem Keep.isInt {B : Nat} {w w' : World} (k : Keep B w w') {v : Value} {z : Int} (h : IsInt w v z) : IsInt w' v z := by
  obtain ⟨ao, cap, h1, h2, h3, h4⟩ := h
  exact ⟨ao, cap, h1, h2, h3, k.cells h4⟩
theorem Keep.raw {B : Nat} {w w' : World} (k : Keep B w w') {v : Value} {s : Bool} {xs : List Nat} (h : Raw w v s xs) : Raw w' v s xs := by
  obtain ⟨ao, cap, h1, h2, h3, h4⟩ := h
  exact ⟨ao, cap, h1, h2, h3, k.cells h4⟩
theorem IsInt.keep {B : Nat} {w w' : World} {v : Value} {z : Int} (h : IsInt w v z) (k : Keep B w w') : IsInt w' v z := k.isInt h
theorem Raw.keep {B : Nat} {w w' : World} {v : Value} {s : Bool} {xs : List Nat} (h : Raw w v s xs) (k : Keep B w w') : Raw w' v s xs := k.raw h
/-- Two integers and a number. -/
def TupII (w : World) (v : Value) (q r k : Int) : Prop := ∃ v1 v2, v = .tuple #[v1, v2, .int .i64 k] ∧ IsInt w v1 q ∧ IsInt w v2 r
theorem TupII.keep {B : Nat} {w w' : World} {v : Value} {q r n : Int} (h : TupII w v q r n) (k : Keep B w w') : TupII w' v q r n := by
  obtain ⟨v1, v2, rfl, h1, h2⟩ := h
  exact ⟨v1, v2, rfl, k.isInt h1, k.isInt h2⟩

/-- A variable of the type Int. -/
def VarInt (B : Nat) (w : World) (v : Value) : Prop := ∃ b, v = .pointer (some ⟨b, 0, none⟩) ∧ B ≤ b ∧ (∃ x, w.cell? ⟨b, 0, none⟩ = some (.bool x)) ∧ (∃ y m d, w.cell? ⟨b, 1, none⟩ = some (.slice y m d)) ∧ w.frozen? ⟨b, 0, none⟩ = false ∧ w.frozen? ⟨b, 1, none⟩ = false
theorem VarInt.keep {B : Nat} {w w' : World} {v : Value} (h : VarInt B w v) (k : Keep B w w') : VarInt B w' v := by
  obtain ⟨b, rfl, hB, ⟨x, h0⟩, ⟨y, m, d, h1⟩, f0, f1⟩ := h
  exact ⟨b, rfl, hB, k.bool _ _ h0, k.slice _ _ _ _ h1, k.free _ (lt_of_cell h0) f0, k.free _ (lt_of_cell h1) f1⟩
theorem varInt_new {B : Nat} {w : World} (h : B ≤ w.heap.size) (t : TypeId) : VarInt B (w.alloc (.cells #[.bool false, .slice none 0 0] t)) (.pointer (some ⟨w.heap.size, 0, none⟩)) := by
  obtain ⟨W, hW, _, _, h1, h2, h3, h4⟩ := res_new w t
  rw [hW]
  exact ⟨_, rfl, h, ⟨_, h1⟩, ⟨_, _, _, h2⟩, h3, h4⟩
theorem VarInt.ne_new {B : Nat} {w : World} {v : Value} (h : VarInt B w v) : v ≠ .pointer (some ⟨w.heap.size, 0, none⟩) := by
  obtain ⟨b, rfl, hB, ⟨x, h0⟩, _⟩ := h
  intro he
  injection he with he
  injection he with he
  injection he with he
  exact absurd (lt_of_cell h0) (by rw [he]; exact Nat.lt_irrefl _)
/-- A variable that holds this integer. -/
def BoxInt (w : World) (v : Value) (z : Int) : Prop := ∃ b s ao n c, v = .pointer (some ⟨b, 0, none⟩) ∧ w.cell? ⟨b, 0, none⟩ = some (.bool s) ∧ w.cell? ⟨b, 1, none⟩ = some (.slice ao n c) ∧ IsInt w (.agg #[.bool s, .slice ao n c]) z
theorem BoxInt.ext {w w' : World} {v : Value} {z : Int} (h : BoxInt w v z) (e : Ext w w') : BoxInt w' v z := by
  obtain ⟨b, s, ao, n, c, rfl, h0, h1, hI⟩ := h
  exact ⟨b, s, ao, n, c, rfl, e.cell h0, e.cell h1, hI.ext e⟩
/-- A store of a struct into its variable. -/
theorem keep_put {B : Nat} {w : World} {b : Nat} {x : Bool} {y : Option Addr} {m d : Nat} (hB : B ≤ b) (h0 : w.cell? ⟨b, 0, none⟩ = some (.bool x)) (h1 : w.cell? ⟨b, 1, none⟩ = some (.slice y m d)) (x' : Bool) (y' : Option Addr) (m' d' : Nat) :
    Keep B w ((w.setCell ⟨b, 0, none⟩ (.bool x')).setCell ⟨b, 1, none⟩ (.slice y' m' d')) := by
  have k1 : ∀ p : Addr, p ≠ ⟨b, 0, none⟩ → p ≠ ⟨b, 1, none⟩ → ((w.setCell ⟨b, 0, none⟩ (.bool x')).setCell ⟨b, 1, none⟩ (.slice y' m' d')).cell? p = w.cell? p := fun p n0 n1 => by
    rw [World.cell?_setCell_other _ _ _ _ (fun h => n1 h.symm), World.cell?_setCell_other _ _ _ _ (fun h => n0 h.symm)]
  have hS := Struct.put (v0 := .bool x') (v1 := .slice y' m' d') ⟨h0, h1⟩
  refine ⟨((Below.refl _ _).setCell (p := ⟨b, 0, none⟩) hB _).setCell (p := ⟨b, 1, none⟩) hB _, ?_, ?_, ?_, ?_⟩
  · intro p v hp
    rw [k1 p (fun h => by rw [h, h0] at hp; cases hp) (fun h => by rw [h, h1] at hp; cases hp)]; exact hp
  · intro p v hp
    by_cases e0 : p = ⟨b, 0, none⟩
    · subst e0; exact ⟨_, hS.1⟩
    · rw [k1 p e0 (fun h => by rw [h, h1] at hp; cases hp)]; exact ⟨_, hp⟩
  · intro p v n c hp
    by_cases e1 : p = ⟨b, 1, none⟩
    · subst e1; exact ⟨_, _, _, hS.2⟩
    · rw [k1 p (fun h => by rw [h, h0] at hp; cases hp) e1]; exact ⟨_, _, _, hp⟩
  · intro p _ hf
    simpa using hf
/-- .. and its variable holds it; another one holds what it held. -/
theorem boxInt_put {w : World} {b : Nat} {x : Bool} {y : Option Addr} {m d : Nat} (h0 : w.cell? ⟨b, 0, none⟩ = some (.bool x)) (h1 : w.cell? ⟨b, 1, none⟩ = some (.slice y m d)) {s : Bool} {ao : Option Addr} {n c : Nat} {z : Int} (h : IsInt w (.agg #[.bool s, .slice ao n c]) z) :
    BoxInt ((w.setCell ⟨b, 0, none⟩ (.bool s)).setCell ⟨b, 1, none⟩ (.slice ao n c)) (.pointer (some ⟨b, 0, none⟩)) z := by
  have hS := Struct.put (v0 := .bool s) (v1 := .slice ao n c) ⟨h0, h1⟩
  exact ⟨b, s, ao, n, c, rfl, hS.1, hS.2, (keep_put (B := 0) (Nat.zero_le _) h0 h1 s ao n c).isInt h⟩
theorem BoxInt.put {w : World} {b : Nat} {x : Bool} {y : Option Addr} {m d : Nat} {v : Value} {z : Int} (h : BoxInt w v z) (hv : v ≠ .pointer (some ⟨b, 0, none⟩)) (h0 : w.cell? ⟨b, 0, none⟩ = some (.bool x)) (h1 : w.cell? ⟨b, 1, none⟩ = some (.slice y m d)) (s : Bool) (ao : Option Addr) (n c : Nat) :
    BoxInt ((w.setCell ⟨b, 0, none⟩ (.bool s)).setCell ⟨b, 1, none⟩ (.slice ao n c)) v z := by
  obtain ⟨b', s', ao', n', c', rfl, k0, k1, hI⟩ := h
  have hne : b ≠ b' := fun e => hv (by rw [e])
  have hS := (Struct.set (u0 := .bool s') (u1 := .slice ao' n' c') ⟨k0, k1⟩ hne 0 (.bool s)).set hne 1 (.slice ao n c)
  exact ⟨b', s', ao', n', c', rfl, hS.1, hS.2, (keep_put (B := 0) (Nat.zero_le _) h0 h1 s ao n c).isInt hI⟩

end Go.Proofs.YtmofkmdacfdejaaDoor
end

/- ---- LawText ---- -/
section
/-
  What the statement on texts does when it is called.
-/
set_option maxRecDepth 100000
namespace Go.Proofs.YtmofkmdacfdejaaDoor
open Go.RowKit

theorem cpt_calls (w : World) (v : Value) (z : Int) (h : IsInt w v z) (l : Lim 16 z) : Calls Tryd.prog 7 #[v] w (Ret (fun v' w' => IsInt w' v' z) w) := by
  obtain ⟨ao, cap, s, n, rfl, h1, h2, h3, H4, H5, H6⟩ := h.open_
  obtain ⟨k1, k2⟩ := isInt_raw h1 h2 h3 H6.out
  have hz : sgn s (val (limbs n)) = z := by rw [val_limbs]; exact H5.out.symm
  refine (cp_calls w _ s (limbs n) k1 (by unfold Lim at l; rw [← H4.out] at l; omega)).mono ?_
  rintro e w' ⟨vv, rfl, hv, ex⟩
  refine ⟨vv, rfl, ?_, ex⟩
  rw [← hz]
  exact (okB_int hv k2).1
theorem item_newT {w : World} {b1 : Bool} {a1 : Option Addr} {x1 : List Nat} {c1 : Nat} (k1 : x1.length ≤ c1) (l1 : c1 ≤ 9223372036854775807) (h1 : Cells w a1 x1) :
    ∀ k, k < [(b1, x1)].length → Item (w.alloc (.cells #[.bool b1, .slice a1 x1.length c1] 24)) w.heap.size k ([(b1, x1)].getD k (false, [])) := by
  have e := (Ext.refl w).alloc (.cells #[.bool b1, .slice a1 x1.length c1] 24)
  intro k hk
  match k, hk with
  | 0, _ => exact ⟨a1, c1, by simp, by simp, k1, l1, h1.ext e⟩
theorem box_oneT {a w : World} {s : Bool} {ao : Option Addr} {n c : Nat} {q : Int} {t : TypeId} (E : Ext a w) (h : IsInt w (.agg #[.bool s, .slice ao n c]) q) :
    Ext a (w.alloc (.cells #[.bool s, .slice ao n c] t)) ∧ BoxInt (w.alloc (.cells #[.bool s, .slice ao n c] t)) (.pointer (some ⟨w.heap.size, 0, none⟩)) q := by
  have e1 := (Ext.refl w).alloc (.cells #[.bool s, .slice ao n c] t)
  have n1 := struct_new w (.bool s) (.slice ao n c) t
  exact ⟨E.trans e1, ⟨_, _, _, _, _, rfl, n1.1, n1.2, h.ext e1⟩⟩
theorem sm16 {w : World} {v : Value} {s : Bool} {xs : List Nat} (h : Raw w v s xs) (hs : smB (s, xs) = true) : IsInt w v (sgn s (val xs)) ∧ Lim 16 (sgn s (val xs)) := by
  unfold smB at hs
  rw [Bool.and_eq_true, decide_eq_true_iff] at hs
  obtain ⟨h1, h2⟩ := okB_int h hs.2
  refine ⟨h1, ?_⟩
  unfold Lim
  rw [natAbs_sgn, h2]
  exact hs.1
theorem parse_self (w : World) (z : Int) (l : Lim 16 z) : Calls Tryd.prog 8 #[.string ⟨(Lib.itoa z).toArray⟩] w fun e w' => ∃ v, e = .returned (.tuple #[v, .int .i64 0]) ∧ IsInt w' v z ∧ Ext w w' := by
  have hl := itoa_lenT l
  obtain ⟨k1, k2⟩ := parse_itoa z (by omega)
  have := parse_calls w ⟨(Lib.itoa z).toArray⟩ (by show (Lib.itoa z).toArray.size ≤ _; rw [List.size_toArray]; omega)
  refine this.mono ?_
  rintro e w' ⟨v, rfl, hI, ex⟩
  have e1 : (ByteArray.mk (Lib.itoa z).toArray).data.toList = Lib.itoa z := rfl
  rw [e1, k1, if_pos rfl] at hI
  rw [e1, k1, if_pos rfl]
  rw [k2] at hI
  exact ⟨v, rfl, hI, ex⟩

set_option maxRecDepth 100000 in
set_option maxHeartbeats 6400000 in
theorem lawText_calls (w : World) (hT : WT w) (v1 : Value) (s1 : Bool) (xs : List Nat) (h : Raw w v1 s1 xs) (s : ByteArray) (hs : s.size ≤ 9223372036854775807) :
    Calls Tryd.prog 3 #[v1, .string s] w fun e w' => e = .returned (.bool true) ∧ Ext w w' := by
  have hR := h
  obtain ⟨ao, cap, rfl, h1, h2, h3⟩ := h
  obtain ⟨W, hW, eW, c0, c1⟩ := box1 w (.bool s1) (.slice ao xs.length cap) 24
  have HI := Lib.hid (And.intro h1 (And.intro h2 h3))
  have HS := Lib.hid hs
  have HT := Lib.hid hT
  clear h1 h2 h3 hs hT
  go_enter Tryd.func3, Tryd.ntmps3
  go_wp2_with fail
  clear hW
  refine (awake_calls _).mono ?_
  rintro e w1 ⟨rfl, e1⟩
  replace c0 := e1.cell c0
  replace c1 := e1.cell c1
  replace eW := eW.trans e1
  clear e1
  have hsm := Lib.hid (small_calls _ w1.heap.size [(s1, xs)] (by simp) (item_newT HI.out.1 HI.out.2.1 (HI.out.2.2.ext eW)))
  go_wp2_with fail
  refine hsm.out.mono ?_
  rintro e w2 ⟨rfl, e2⟩
  replace e2 := ((Ext.refl w1).alloc _).trans e2
  replace c0 := e2.cell c0
  replace c1 := e2.cell c1
  replace eW := eW.trans e2
  clear e2 hsm HI
  cases hb : [(s1, xs)].all smB
  · clear hb
    go_wp2_with fail
    refine (awake_calls _).mono ?_
    rintro e w3 ⟨rfl, e3⟩
    go_wp2
    go_ret
    exact ⟨rfl, eW.trans e3⟩
  · have i1 := sm16 hR (show smB (s1, xs) = true by simpa using hb)
    have j1 := i1.1.ext eW
    have HL := Lib.hid i1.2
    clear hb i1 hR
    generalize sgn s1 (val xs) = z1 at *
    by_cases hbig : 200 < s.size
    · have g : (200 : Int) < (s.size : Int) := by omega
      clear hbig
      go_wp2_with fail
      refine (awake_calls _).mono ?_
      rintro e w3 ⟨rfl, e3⟩
      go_wp2
      go_ret
      exact ⟨rfl, eW.trans e3⟩
    · have g : ¬ (200 : Int) < (s.size : Int) := by omega
      clear hbig
      go_upto_region 3 with fail
      clear g
      go_cut [5] (fun t wx => Ext w2 wx ∧ t = .string ⟨(Lib.itoa z1).toArray⟩)
      case first =>
        go_wp2_with fail
        refine (cpt_calls _ _ z1 j1 HL.out).mono ?_
        rintro e w3 ⟨v3, rfl, hv3, e3⟩
        go_wp2_with fail
        refine (format_calls _ (HT.out.ext (eW.trans e3)) _ z1 hv3 (HL.out.mono (by omega))).mono ?_
        rintro e w4 ⟨rfl, e4⟩
        go_wp2_with fail
        go_meet
        exact ⟨e3.trans e4, rfl⟩
      case rest =>
        obtain ⟨w3, rfl⟩ : ∃ w3, w3 = wc := ⟨_, rfl⟩
        obtain ⟨e2, rfl⟩ := hcut
        replace c0 := e2.cell c0
        replace c1 := e2.cell c1
        replace eW := eW.trans e2
        replace j1 := j1.ext e2
        clear e2
        go_upto_region 4 with fail
        go_cut [6, 7] (fun p r wx => Ext w3 wx ∧ BoxInt wx p z1 ∧ r = .int .i64 0)
        case first =>
          go_wp2_with fail
          refine (parse_self _ z1 HL.out).mono ?_
          rintro e w4 ⟨v4, rfl, hv4, e4⟩
          obtain ⟨ao1, cap1, sg1, n1, rfl, _⟩ := IsInt.open_ hv4
          go_wp2_with fail
          go_meet
          have B := box_oneT (t := 24) e4 hv4
          exact ⟨B.1, B.2, rfl⟩
        case rest =>
          obtain ⟨w4, rfl⟩ : ∃ w4, w4 = wc := ⟨_, rfl⟩
          obtain ⟨e2, ⟨b5, t5, a5, n5, p5, rfl, x0, x1, i5⟩, rfl⟩ := hcut
          replace c0 := e2.cell c0
          replace c1 := e2.cell c1
          replace eW := eW.trans e2
          replace j1 := j1.ext e2
          clear e2
          obtain ⟨EC, hEC⟩ : ∃ EC : Int, EC = if parseOK s.data.toList then 0 else 2 := ⟨_, rfl⟩
          obtain ⟨Z, hZ⟩ : ∃ Z : Int, Z = if parseOK s.data.toList then parseV s.data.toList else 0 := ⟨_, rfl⟩
          have HEC := Lib.hid hEC
          have HZ := Lib.hid hZ
          clear hEC hZ
          go_upto_region 5 with fail
          go_cut [8, 9] (fun p r wx => Ext w4 wx ∧ BoxInt wx p Z ∧ r = .int .i64 EC)
          case first =>
            go_wp2_with fail
            refine (parse_calls _ s HS.out).mono ?_
            rintro e w5 ⟨v4, rfl, hv4, e4⟩
            rw [← HZ.out] at hv4
            rw [← HEC.out]
            obtain ⟨ao1, cap1, sg1, n1, rfl, _⟩ := IsInt.open_ hv4
            go_wp2_with fail
            go_meet
            have B := box_oneT (t := 24) e4 hv4
            exact ⟨B.1, B.2, rfl⟩
          case rest =>
            obtain ⟨w5, rfl⟩ : ∃ w5, w5 = wc := ⟨_, rfl⟩
            obtain ⟨e2, ⟨b6, t6, a6, n6, p6, rfl, y0, y1, i6⟩, rfl⟩ := hcut
            replace c0 := e2.cell c0
            replace c1 := e2.cell c1
            replace x0 := e2.cell x0
            replace x1 := e2.cell x1
            replace eW := eW.trans e2
            replace j1 := j1.ext e2
            replace i5 := i5.ext e2
            clear e2
            go_upto_region 6 with fail
            go_cut [10, 11] (fun p r wx => Ext w5 wx ∧ BoxInt wx p Z ∧ r = .int .i64 EC)
            case first =>
              go_wp2_with fail
              refine (rparse_calls _ s HS.out).mono ?_
              rintro e w6 ⟨v4, rfl, hv4, e4⟩
              rw [← HZ.out] at hv4
              rw [← HEC.out]
              obtain ⟨ao1, cap1, sg1, n1, rfl, _⟩ := IsInt.open_ hv4
              go_wp2_with fail
              go_meet
              have B := box_oneT (t := 24) e4 hv4
              exact ⟨B.1, B.2, rfl⟩
            case rest =>
              obtain ⟨w6, rfl⟩ : ∃ w6, w6 = wc := ⟨_, rfl⟩
              obtain ⟨e2, ⟨b7, t7, a7, n7, p7, rfl, u0, u1, i7⟩, rfl⟩ := hcut
              replace c0 := e2.cell c0
              replace c1 := e2.cell c1
              replace x0 := e2.cell x0
              replace x1 := e2.cell x1
              replace y0 := e2.cell y0
              replace y1 := e2.cell y1
              replace eW := eW.trans e2
              replace j1 := j1.ext e2
              replace i5 := i5.ext e2
              replace i6 := i6.ext e2
              clear e2
              go_wp2_with fail
              refine (rformat_calls _ _ z1 j1 (HL.out.mono (by omega))).mono ?_
              rintro e w7 ⟨rfl, e7⟩
              replace c0 := e7.cell c0
              replace c1 := e7.cell c1
              replace x0 := e7.cell x0
              replace x1 := e7.cell x1
              replace y0 := e7.cell y0
              replace y1 := e7.cell y1
              replace u0 := e7.cell u0
              replace u1 := e7.cell u1
              replace eW := eW.trans e7
              replace j1 := j1.ext e7
              replace i5 := i5.ext e7
              replace i6 := i6.ext e7
              replace i7 := i7.ext e7
              clear e7
              go_wp2_with fail
              refine (same_true _ _ _ z1 i5 j1).mono ?_
              rintro e w8 ⟨rfl, e8⟩
              replace y0 := e8.cell y0
              replace y1 := e8.cell y1
              replace u0 := e8.cell u0
              replace u1 := e8.cell u1
              go_wp2_with fail
              refine (same_true _ _ _ Z (i6.ext e8) (i7.ext e8)).mono ?_
              rintro e w9 ⟨rfl, e9⟩
              go_wp2
              go_ret
              exact ⟨rfl, (eW.trans e8).trans e9⟩
end Go.Proofs.YtmofkmdacfdejaaDoor
end

/- ---- Lift ---- -/
section
/-
  How an argument that is a struct of a bool and a slice of uint32 is read.
-/
set_option maxRecDepth 100000
namespace Go.Proofs.YtmofkmdacfdejaaDoor
open Go.ChangeShapes Go.WideShapes Go.ChangeAt Go.RowKit Go.Joins

theorem own : ownKnob Tryd.prog.godebug = none := by kernel_rfl
theorem laidOut : laidOutB Tryd.prog = true := by kernel_rfl

theorem open_cells {H : Type} {enc : TypeId × Value → H} {W : World} {base : Nat} {spare : Nat → Bool} {held : Bool} {v0 v1 : Value} {y0 y1 : DataW H × List MemPlace} {n : Nat}
    (h0 : DataW.trod enc Tryd.prog W base spare held n 4 [v0] = some y0) (h1 : DataW.trod enc Tryd.prog W base spare held n 22 [v1] = some y1) : ∃ neg xs, Raw W (.agg #[v0, v1]) neg xs := by
  obtain ⟨b, hb0, _⟩ := DataW.trod_bool Tryd.underlying4 h0
  simp only [List.cons.injEq, and_true] at hb0
  subst hb0
  rcases open_ints Tryd.underlying22 Tryd.underlying38 (by kernel_rfl) h1 with ⟨hcs, _⟩ | ⟨x, l, c, zs, hcs, _, hl, hm, hz, _, hcell, hwz⟩
  · simp only [List.cons.injEq, and_true] at hcs
    subst hcs
    exact ⟨b, [], none, 0, rfl, by simp, by omega, Cells.nil _ _⟩
  · simp only [List.cons.injEq, and_true] at hcs
    subst hcs
    have hlz : l ≤ zs.length := by rw [hz]; split <;> omega
    have hlen : ((zs.take l).map Int.toNat).length = l := by simp [hlz]
    refine ⟨b, (zs.take l).map Int.toNat, some x, c, by rw [hlen], by rw [hlen]; exact hl, by unfold maxLen at hm; omega, ?_⟩
    rcases Nat.eq_zero_or_pos l with h0 | h0
    · exact .inl (List.eq_nil_of_length_eq_zero (by rw [hlen]; exact h0))
    · obtain ⟨bb, off, rfl, hc⟩ := ints_at hcell (by omega)
      refine .inr ⟨bb, off, rfl, fun i hi => ?_⟩
      rw [hlen] at hi
      rw [hc i (by omega)]
      have hmem : zs.getD i 0 ∈ zs := by
        rw [List.getD_eq_getElem?_getD, List.getElem?_eq_getElem (by omega)]
        exact List.getElem_mem _
      have hw := hwz _ hmem
      have hb2 : 0 ≤ zs.getD i 0 := by
        have : 0 ≤ zs.getD i 0 ∧ zs.getD i 0 ≤ 4294967295 := by simpa [Lit.wf, IntKind.min, IntKind.max, IntKind.signed, IntKind.bits] using hw
        exact this.1
      have he : ((zs.take l).map Int.toNat).getD i 0 = (zs.getD i 0).toNat := by
        simp only [List.getD_eq_getElem?_getD, List.getElem?_map, List.getElem?_take]
        rw [if_pos hi]
        rw [List.getElem?_eq_getElem (by omega)]
        rfl
      rw [he]
      congr 2
      omega

theorem open_arg {H : Type} {enc : TypeId × Value → H} {W : World} {b0 base : Nat} {spare : Nat → Bool} {held : Bool} {r : Reach} {v : Value} {d : DataW H} {p : List MemPlace}
    (hv : Value.okWide Tryd.prog W r b0 24 v) (h : DataW.Trod enc Tryd.prog W base spare held 24 v d p) : ∃ neg xs, Raw W v neg xs := by
  obtain ⟨v0, v1, y0, y1, n, rfl, rfl, rfl, h0, h1⟩ := open_agg2 Tryd.underlying24 (by kernel_rfl) (by kernel_rfl) hv h
  exact open_cells h0 h1

end Go.Proofs.YtmofkmdacfdejaaDoor
end

/- ---- Lifth ---- -/
section
/-
  The wrap of a law whose row lists variables.
-/
set_option maxRecDepth 100000
namespace Go.Proofs.YtmofkmdacfdejaaDoor
open Go.ChangeShapes Go.WideShapes Go.ChangeAt Go.RowKit Go.Joins

theorem handed_laid {H : Type} {enc : TypeId × Value → H} {a : Assume} {C : Checked} {os : Os} {f : FuncId} {fn : Func} {s : ChangeSpec} {conds : List PathCond} {apart fresh handsOn again : Bool} {L : List (String × DataW Unit)}
    (own : ownKnob C.prog.godebug = none) (started : os.Started) (noInit : C.prog.inits.idxOf? f = none) (hfn : C.prog.funcs[f]? = some fn)
    (witness : ∃ (w : World) (tape : Tape) (i : Input), w.os = os ∧ (w.forCall tape i).Shaped C.prog ∧ i.vars = [] ∧ Input.okWide C.prog (w.forCall tape i) .any w.heap.size f i ∧
      ((s.pre enc C.prog fn conds apart (w.forCall tape i).memory i.args ∧ laidMetH C.prog L (w.forCall tape i).memory) ∧ sizedMet enc C.prog fn (OpenSpec.ofChange s) apart (w.forCall tape i).memory i.args) ∧ a.holds C.prog (lone (Frame.enter C.prog f i.args .normal) [] (w.forCall tape i)))
    (contract : ∀ (W : World) (base : Nat) (args : Array Value) (ds gs : List (DataW H)) (before : List MemPlace),
      (∀ (j : Nat) t v, fn.params[j]? = some t → args[j]? = some v → Value.okWide C.prog W .any base t v) →
      DataW.Whole enc C.prog fn.params.toList s.vars apart W args.toList ds gs before →
      conds.all (PathCond.test C.prog ⟨fn.params.toList, ds, s.plain.varTypes C.prog, gs⟩) = true →
      laidMetH C.prog L W → W.ShapedOpen C.prog →
      Calls C.prog f args W fun e W' => ∃ v, e = .returned v ∧ s.post enc C.prog fn apart fresh handsOn again W args v W') :
    ReturnsInHanded a C os f .any (fun w args => (s.pre enc C.prog fn conds apart w args ∧ laidMetH C.prog L w) ∧ sizedMet enc C.prog fn (OpenSpec.ofChange s) apart w args) (s.post enc C.prog fn apart fresh handsOn again) := by
  refine returnsInHanded_of_calls own started noInit witness ?_
  intro w tape i _ hsh _ hok hpre _
  obtain ⟨_, _, _, fn', hfn', _, _, _, _, hval⟩ := hok
  have e : fn' = fn := Option.some.inj (hfn'.symm.trans hfn)
  subst e
  obtain ⟨⟨⟨ds, gs, before, hw, hc⟩, hx⟩, _⟩ := hpre
  have hw' := DataW.Whole.of_heap (w' := w.forCall tape i) (by rfl) hw
  refine (contract (w.forCall tape i) w.heap.size i.args ds gs before hval hw' hc (hx.of_heap (by rfl)) hsh).mono fun e W' ⟨v, he, hp⟩ => ?_
  subst he
  exact ChangeSpec.post_blind hp

theorem pow10_eq {H : Type} : (Rows.laid_internal_strconv_uint64pow10 : DataW H) = Lib.tabData .u64 Lib.pow10Tab := by rfl
def laidL : List (String × DataW Unit) := [("math/bits.deBruijn32tab", Rows.laid_math_bits_deBruijn32tab), ("math/bits.deBruijn64tab", Rows.laid_math_bits_deBruijn64tab), ("internal/strconv.uint64pow10", Rows.laid_internal_strconv_uint64pow10)]
theorem WT.laid {W : World} (h : laidMetH Tryd.prog laidL W) : WT W := by
  rw [MakeChecks.laidMetH_plain _ _ _ (by kernel_rfl)] at h
  have h2 := h.tail.tail
  rw [pow10_eq] at h2
  exact Lib.tabIs_of_head (g := 0) (by kernel_rfl) (t := 88) (by kernel_rfl) (n := 20) (e := 45) Tryd.underlying88 Tryd.underlying45 (by kernel_rfl) (by kernel_rfl) h2
/-- The door's own heap meets the condition. -/
theorem door_met (os : Os) (args : Array Value) : laidMetH Tryd.prog laidL ((World.doorLaid Tryd.prog 24 os).forCall (fun _ _ => 0) ⟨#[], args, []⟩).memory :=
  laidMetH_of_parts3 (fuel := 8) (laidMet_of_run' 8 (by kernel_rfl) (by kernel_rfl)) (by kernel_rfl) (by kernel_rfl)
theorem door_shaped (os : Os) : ((World.doorLaid Tryd.prog 24 os).forCall (fun _ _ => 0) ⟨#[], #[], []⟩).Shaped Tryd.prog :=
  World.shaped_of_RefB (by kernel_rfl) (by kernel_rfl)
end Go.Proofs.YtmofkmdacfdejaaDoor
end
