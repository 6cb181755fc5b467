/-
  A region that draws its order, by one invariant: each operation is walked once, whatever has come up before it.
-/
import Derived.Test.YtfjaboolfjgleaaVoc
import Derived.Deep.RegionHeld3
namespace Go.Proofs.Ytfjaboolfjgleaa
open Go.RowKit

def AllOps (F : Nat → Oper → Prop) : Nat → List Oper → Prop
  | _, [] => True
  | k, o :: r => F k o ∧ AllOps F (k + 1) r
theorem AllOps.nil {F : Nat → Oper → Prop} {k : Nat} : AllOps F k [] := True.intro
theorem AllOps.cons {F : Nat → Oper → Prop} {k : Nat} {o : Oper} {r : List Oper} (h : F k o) (t : AllOps F (k + 1) r) : AllOps F k (o :: r) := ⟨h, t⟩
theorem AllOps.get {F : Nat → Oper → Prop} : ∀ {l : List Oper} {k : Nat}, AllOps F k l → ∀ (i : Nat) (o : Oper), l[i]? = some o → F (k + i) o := by
  intro l
  induction l with
  | nil => intro k _ i o h; simp at h
  | cons x r ih =>
    intro k h i o hi
    cases i with
    | zero => simp at hi; subst hi; exact h.1
    | succ i =>
      have := ih h.2 i o (by simpa using hi)
      rwa [Nat.add_assoc, Nat.add_comm 1] at this
/-- The operations that go ahead of this one. -/
def preds (o : Oper) : List Nat := (o.after.toList.filter (Region.binds .any)).map (·.on)
theorem preds_spec {o : Oper} {s : Array Bool} (h : ∀ e ∈ o.after, Region.binds .any e = true → s.getD e.on false = true) : ∀ j ∈ preds o, s.getD j false = true := by
  intro j hj
  unfold preds at hj
  obtain ⟨e, he, rfl⟩ := List.mem_map.1 hj
  obtain ⟨h1, h2⟩ := List.mem_filter.1 he
  exact h e (by simpa using h1) h2
/-- Each operation's edges lead backwards. -/
def backB : Nat → List Oper → Bool
  | _, [] => true
  | k, o :: r => (preds o).all (fun j => decide (j < k)) && backB (k + 1) r
theorem backB_get : ∀ {l : List Oper} {k : Nat}, backB k l = true → ∀ (i : Nat) (o : Oper), l[i]? = some o → ∀ j ∈ preds o, j < k + i := by
  intro l
  induction l with
  | nil => intro k _ i o h; simp at h
  | cons x r ih =>
    intro k h i o hi j hj
    simp only [backB, Bool.and_eq_true, List.all_eq_true, decide_eq_true_iff] at h
    cases i with
    | zero => simp at hi; subst hi; exact h.1 j hj
    | succ i =>
      have := ih h.2 i o (by simpa using hi) j hj
      omega
theorem all_listed {l : List Oper} {s : Array Bool} (hs : s.size = l.length) (hb : backB 0 l = true) (hr : Region.ready .any l.toArray s = []) : ∀ i, i < l.length → s.getD i false = true := by
  intro i
  induction i using Nat.strongRecOn with
  | _ i ih =>
    intro hi
    rcases hv : s.getD i false with _ | _
    · exfalso
      have hmem : i ∈ Region.ready .any l.toArray s := by
        rw [mem_ready]
        refine ⟨?_, l[i], by simp [hi], ?_⟩
        · simp only [Array.getD_eq_getD_getElem?] at hv ⊢
          rw [Array.getElem?_eq_getElem (by omega)] at hv ⊢
          simpa using hv
        · intro e he hbd
          have hp : e.on ∈ preds l[i] := by
            unfold preds
            exact List.mem_map.2 ⟨e, List.mem_filter.2 ⟨by simpa using he, hbd⟩, rfl⟩
          have := backB_get hb i l[i] (by simp [hi]) e.on hp
          exact ih e.on (by omega) (by omega)
      rw [hr] at hmem; cases hmem
    · rfl
def unlisted (s : Array Bool) (n : Nat) : Nat := ((List.range n).filter fun i => !s.getD i true).length
theorem filter_lt {α : Type} (p q : α → Bool) : ∀ (l : List α), (∀ x ∈ l, q x = true → p x = true) → (∃ x ∈ l, p x = true ∧ q x = false) → (l.filter q).length < (l.filter p).length := by
  intro l
  induction l with
  | nil => intro _ ⟨x, hx, _⟩; cases hx
  | cons y r ih =>
    intro h ⟨x, hx, hp, hq⟩
    have hle : (r.filter q).length ≤ (r.filter p).length := by
      have : ∀ (l : List α), (∀ x ∈ l, q x = true → p x = true) → (l.filter q).length ≤ (l.filter p).length := by
        intro l
        induction l with
        | nil => intro _; simp
        | cons z t iht =>
          intro hz
          have := iht (fun x hx => hz x (List.mem_cons_of_mem _ hx))
          have hzz := hz z (by simp)
          simp only [List.filter_cons]
          cases hqz : q z
          · cases hpz : p z <;> simp <;> omega
          · rw [hzz hqz]; simp; exact this
      exact this r (fun x hx => h x (List.mem_cons_of_mem _ hx))
    rcases List.mem_cons.1 hx with rfl | hx
    · simp only [List.filter_cons, hp, hq]; simp; omega
    · have := ih (fun x hx => h x (List.mem_cons_of_mem _ hx)) ⟨x, hx, hp, hq⟩
      have hyy := h y (by simp)
      simp only [List.filter_cons]
      cases hqy : q y
      · cases hpy : p y <;> simp <;> omega
      · rw [hyy hqy]; simp; exact this
theorem unlisted_lt {s : Array Bool} {n i : Nat} (hn : s.size = n) (hi : s.getD i true = false) : unlisted (s.setIfInBounds i true) n < unlisted s n := by
  have hin : i < n := by
    rcases Nat.lt_or_ge i s.size with h | h
    · omega
    · simp [Array.getElem?_eq_none h] at hi
  refine filter_lt _ _ _ ?_ ⟨i, List.mem_range.2 hin, by rw [hi]; rfl, ?_⟩
  · intro x _ hx
    by_cases h : i = x
    · subst h; rw [hi]; rfl
    · rwa [getD_set_ne true h] at hx
  · simp [hn, hin]

theorem wp_region_inv {P : Program} {Q : Exit → Act → World → Prop} {l : List Oper} {id : Nat} {a0 : Act} {w0 : World} (I : Act → Array Bool → Act → World → Prop) (hm : P.follows .mixedOrders = true) (hb : backB 0 l = true) (n : Nat) (hn : a0.tmps.size = n)
    (h0 : ∀ a : Act, a.tmps.size = n → I a (Array.replicate l.length false) a w0.drew)
    (hs : ∀ s a w, I a0 s a w → AllOps (fun i o => s.getD i false = false → (∀ j ∈ preds o, s.getD j false = true) → ∀ K : Act → World → Prop, Hid (∀ a w, I a0 (s.setIfInBounds i true) a w → K a w) →
      if Region.wanted o (yielded l.toArray a.tmps) = true then Oper.wp P o a w K Q else K (a.put o.dst undef) w) 0 l)
    (he : ∀ s a w, (∀ i, i < l.length → s.getD i false = true) → I a0 s a w → Q .normal a w) : (Code.region id l.toArray true).wp P Q a0 w0 := by
  refine wp_region_any hm ?_
  have main : ∀ (f : Nat) (s : Array Bool) (a : Act) (w : World), s.size = l.length → unlisted s l.length ≤ f → I a0 s a w → wpAny P .any l.toArray Q f s a w := by
    intro f
    induction f with
    | zero =>
      intro s a w hz hu hI
      have hr : Region.ready .any l.toArray s = [] := by
        apply List.eq_nil_iff_forall_not_mem.2
        intro i hi
        have := unlisted_lt hz (mem_ready.1 hi).1
        omega
      exact ⟨hr, he s a w (all_listed hz hb hr) hI⟩
    | succ f ih =>
      intro s a w hz hu hI
      refine ⟨fun hr => he s a w (all_listed hz hb hr) hI, fun i hi => ?_⟩
      obtain ⟨h1, o, ho, h2⟩ := mem_ready.1 hi
      have hlt := unlisted_lt hz h1
      have hst := (hs s a w hI).get i o (by simpa using ho)
      rw [Nat.zero_add] at hst
      refine wpOp_step ho (fun K hK => ?_)
      have hu' : s.getD i false = false := by
        simp only [Array.getD_eq_getD_getElem?] at h1 ⊢
        rcases Nat.lt_or_ge i s.size with hlt | hge
        · rw [Array.getElem?_eq_getElem hlt] at h1 ⊢; simpa using h1
        · rw [Array.getElem?_eq_none hge]; rfl
      exact hst hu' (preds_spec h2) K (fun a w h => hK a w (ih _ a w (by simpa using hz) (by omega) h))
  exact main _ _ _ _ (by simp) (by
    unfold unlisted
    exact Nat.le_trans (List.length_filter_le _ _) (by simp)) (h0 a0 hn)

/-- Slots set one after the other. -/
def setAll (a : Act) : List (Nat × Value) → Act
  | [] => a
  | (d, v) :: r => setAll (a.put (some d) v) r
theorem setAll_self (a : Act) (n : Nat) (hn : a.tmps.size = n) : ∀ ds : List Nat, (∀ d ∈ ds, d < n) → setAll a (ds.map fun d => (d, a.tmps.getD d undef)) = a := by
  intro ds
  induction ds with
  | nil => intro _; rfl
  | cons d r ih =>
    intro h
    have hd := h d (by simp)
    have e : a.put (some d) (a.tmps.getD d undef) = a := by
      unfold Act.put
      cases a with
      | mk t df =>
        simp only at hn hd ⊢
        congr 1
        apply Array.ext
        · simp
        · intro i h1 h2
          rw [Array.getElem_setIfInBounds]
          split
          · rename_i hi; subst hi; simp [h2]
          · rfl
    show setAll (a.put (some d) (a.tmps.getD d undef)) _ = a
    rw [e]
    exact ih (fun x hx => h x (List.mem_cons_of_mem _ hx))
theorem old {s : Array Bool} {i j : Nat} (hij : i ≠ j) (h : (s.setIfInBounds i true).getD j false = true) : s.getD j false = true := by
  rwa [getD_set_ne false hij] at h
theorem none_yet {n j : Nat} (h : (Array.replicate n false).getD j false = true) : False := by
  simp only [Array.getD_eq_getD_getElem?, Array.getElem?_replicate] at h
  split at h <;> simp at h

end Go.Proofs.Ytfjaboolfjgleaa
