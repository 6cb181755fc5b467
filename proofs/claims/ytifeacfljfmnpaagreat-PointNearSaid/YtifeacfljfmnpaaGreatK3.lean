/-
  Texts of this seat, joined.
-/
import Derived.Test.YtifeacfljfmnpaaGreatK2
import Derived.LoopN
import Derived.Deep.DeepCutAuto
import Derived.Deep.LoopGhost
import Derived.Laws.AppendOwnNone
section
set_option maxRecDepth 100000
namespace Go.Proofs.YtifeacfljfmnpaaGreat
open Go.RowKit
structure St where
  look : Nat → Option AV
  var : Nat → Option (List Chunk)
structure SH (E : Env) (n B : Nat) (w0 : World) (S : St) (β : Nat → Nat) (a : Act) (w : World) : Prop where
  sl : ∀ t x, S.look t = some x → x.holds E β w (a.tmps.getD t Go.undef)
  vr : ∀ x cs, S.var x = some cs → (x < ro → B ≤ β x) ∧ VarAt E w (β x) cs
  inj : ∀ x y, (S.var x).isSome = true → (S.var y).isSome = true → β x = β y → x = y
  wf : ∀ t x off, S.look t = some (.ptr x off) → (S.var x).isSome = true
  sz : a.tmps.size = n
  nd : a.defers = []
  hp : B ≤ w.heap.size
  bl : Below B w0 w
  nz : ∀ x cs, S.var x = some cs → sizes cs ≠ 0
def St.holds (E : Env) (n B : Nat) (w0 : World) (S : St) (a : Act) (w : World) : Prop := ∃ β, SH E n B w0 S β a w
def valE (d : Nat) : Eff → AV
  | .set x => x
  | .new _ _ off => .ptr d off
  | .put _ _ => .bad
def varEff (dst : Option Nat) : Eff → Option (Nat × List Chunk)
  | .set _ => none
  | .new _ cs _ => dst.map fun d => (d, cs)
  | .put x cs => some (x, cs)
def okE (n : Nat) (S : St) (dst : Option Nat) (e : Eff) : Bool :=
  (match dst with | some d => decide (d < n) | none => true) &&
  match e, dst with
  | .set _, _ => true
  | .new _ cs _, some d => (S.var d).isNone && !(sizes cs == 0)
  | .new _ _ _, none => false
  | .put x cs, none => (S.var x).isSome && (!(sizes cs == 0) && decide (x < ro))
  | .put _ _, some _ => false
def St.app (S : St) (dst : Option Nat) (e : Eff) : St where
  look t := if dst = some t then some (valE t e) else S.look t
  var x := match varEff dst e with
    | some (y, cs) => if x = y then some cs else S.var x
    | none => S.var x

theorem chunk_lt {E : Env} {w : World} {b : Nat} {cs : List Chunk} (h : VarAt E w b cs) (h0 : sizes cs ≠ 0) : b < w.heap.size := by
  obtain ⟨vs, h1, h2⟩ := h
  have hl := chunks_len h1
  match vs, hl with
  | [], hl => simp at hl; omega
  | v :: _, _ => exact z0q (h2 0 v rfl).1

section
variable {P : Program} {E : Env} {β : Nat → Nat} {n B : Nat} {w w' w0 : World} {a : Act} {G : Asm} {C : Cfg} {S : St}
theorem put_getD {a : Act} {d t : Nat} {v : Value} (h : d < a.tmps.size) : (a.put (some d) v).tmps.getD t Go.undef = if d = t then v else a.tmps.getD t Go.undef := by
  simp only [Act.put, Array.getD_eq_getD_getElem?, Array.getElem?_setIfInBounds]
  by_cases hd : d = t
  · subst hd
    rw [if_pos rfl, if_pos rfl, if_pos h]; rfl
  · rw [if_neg hd, if_neg hd]
theorem put_size {a : Act} {d : Option Nat} {v : Value} : (a.put d v).tmps.size = a.tmps.size := by cases d <;> simp [Act.put]
theorem put_defers {a : Act} {d : Option Nat} {v : Value} : (a.put d v).defers = a.defers := by cases d <;> simp [Act.put]
theorem app_set (h : SH E n B w0 S β a w) {dst : Option Nat} {x : AV} {v : Value} (hok : okE n S dst (.set x) = true) (hp : ∀ y off, x = .ptr y off → (S.var y).isSome = true) (hv : x.holds E β w' v) (e : Ext w w') : SH E n B w0 (S.app dst (.set x)) β (a.put dst v) w' := by
  have hk := Kp.of (B := B) e h.hp
  unfold okE at hok
  rw [Bool.and_eq_true] at hok
  obtain ⟨hok1, hok2⟩ := hok
  refine ⟨fun t y hy => ?_, fun y cs hy => ?_, fun y z hy hz => ?_, fun t t' off hy => ?_, by rw [put_size]; exact h.sz, by rw [put_defers]; exact h.nd, Nat.le_trans h.hp e.size, h.bl.trans (Below.mono e h.hp), fun y cs hy => h.nz y cs hy⟩
  · simp only [St.app] at hy
    cases dst with
    | none =>
      rw [if_neg (by simp)] at hy
      exact AV.keep hk (h.sl t y hy)
    | some d =>
      rw [put_getD (by rw [h.sz]; simpa using hok1)]
      by_cases hd : d = t
      · subst hd
        rw [if_pos rfl] at hy ⊢
        injection hy with hy
        subst hy
        exact hv
      · rw [if_neg (by simpa using hd)] at hy
        rw [if_neg hd]
        exact AV.keep hk (h.sl t y hy)
  · obtain ⟨k1, k2⟩ := h.vr y cs hy
    exact ⟨k1, k2.ext e⟩
  · exact h.inj y z hy hz
  · simp only [St.app] at hy
    by_cases hd : dst = some t
    · rw [if_pos hd] at hy
      injection hy with hy
      exact hp t' off hy
    · rw [if_neg hd] at hy
      exact h.wf t t' off hy
theorem app_new (h : SH E n B w0 S β a w) {d : Nat} (hd : d < n) (hno : S.var d = none) {t : TypeId} {cs : List Chunk} {of : Nat} (hof : of < big2) {vs : List Value} (hcs : chunks E w cs vs) (h0 : sizes cs ≠ 0) :
    SH E n B w0 (S.app (some d) (.new t cs of)) (fun x => if x = d then w.heap.size else β x) (a.put (some d) (pv w.heap.size of)) (w.alloc (.cells vs.toArray t)) := by
  have ex := (Ext.refl w).alloc (.cells vs.toArray t)
  have hk := Kp.of (B := B) ex h.hp
  have hb : ∀ x, (S.var x).isSome = true → x ≠ d := fun x hx e => by subst e; rw [hno] at hx; cases hx
  have hlt : ∀ x, (S.var x).isSome = true → β x < w.heap.size := fun x hx => by
    obtain ⟨ds, hds⟩ := Option.isSome_iff_exists.1 hx
    exact chunk_lt (h.vr x ds hds).2 (h.nz x ds hds)
  have hav : ∀ {x : AV} {v : Value}, (∀ y off, x = .ptr y off → y ≠ d) → x.holds E β w v → x.holds E (fun x => if x = d then w.heap.size else β x) (w.alloc (.cells vs.toArray t)) v := by
    intro x v hx hv
    have hv' := AV.keep hk hv
    cases x with
    | ptr y off =>
      have hy := hx y off rfl
      show if off < big2 then v = pv (if y = d then w.heap.size else β y) off else opn E (if y = d then w.heap.size else β y) off v
      rw [if_neg hy]
      exact hv' 
    | _ => exact hv'
  have hsz : (w.alloc (.cells vs.toArray t)).heap.size = w.heap.size + 1 := World.size_alloc _ _
  have happ : ∀ y, (S.app (some d) (.new t cs of)).var y = if y = d then some cs else S.var y := fun y => rfl
  have hlk : ∀ s, (S.app (some d) (.new t cs of)).look s = if some d = some s then some (.ptr s of) else S.look s := fun s => rfl
  have hsome : ∀ y, ((S.app (some d) (.new t cs of)).var y).isSome = true → y ≠ d → (S.var y).isSome = true := fun y hy hd => by rwa [happ, if_neg hd] at hy
  refine ⟨fun s y hy => ?_, fun y ds hy => ?_, fun y z hy hz he => ?_, fun s y off hy => ?_, by rw [put_size]; exact h.sz, by rw [put_defers]; exact h.nd, by rw [hsz]; have := h.hp; omega, h.bl.trans (Below.mono ex h.hp), fun y ds hy => ?_⟩
  · rw [put_getD (by rw [h.sz]; exact hd)]
    rw [hlk] at hy
    by_cases hs : d = s
    · subst hs
      rw [if_pos rfl] at hy ⊢
      injection hy with hy
      subst hy
      refine AV.of_pv ?_ hof
      show pv _ of = pv (if d = d then w.heap.size else β d) of
      rw [if_pos rfl]
    · rw [if_neg (by simpa using hs)] at hy
      rw [if_neg hs]
      refine hav (fun y' off e => ?_) (h.sl s y hy)
      subst e
      exact hb y' (h.wf s y' off hy)
  · rw [happ] at hy
    by_cases hs : y = d
    · subst hs
      rw [if_pos rfl] at hy ⊢
      injection hy with hy
      subst hy
      have hh : (w.alloc (.cells vs.toArray t)).heap[w.heap.size]? = some (.cells vs.toArray t (0, 0)) := heap_alloc_new w _
      refine ⟨fun _ => h.hp, vs, chunks_keep hk hcs, fun i v hi => ⟨?_, ?_⟩⟩
      · simp only [World.cell?, hh]
        simpa using hi
      · simp only [World.frozen?, hh]
        simp
    · rw [if_neg hs] at hy ⊢
      obtain ⟨k1, k2⟩ := h.vr y ds hy
      exact ⟨k1, k2.ext ex⟩
  · by_cases h1 : y = d
    · by_cases h2 : z = d
      · rw [h1, h2]
      · exfalso
        have := hlt z (hsome z hz h2)
        simp only [if_pos h1, if_neg h2] at he
        omega
    · by_cases h2 : z = d
      · exfalso
        have := hlt y (hsome y hy h1)
        simp only [if_neg h1, if_pos h2] at he
        omega
      · simp only [if_neg h1, if_neg h2] at he
        exact h.inj y z (hsome y hy h1) (hsome z hz h2) he
  · rw [happ]
    rw [hlk] at hy
    by_cases hs : some d = some s
    · rw [if_pos hs] at hy
      injection hy with hy
      injection hy with hy1 hy2
      injection hs with hs
      subst hs
      subst hy1
      rw [if_pos rfl]; rfl
    · rw [if_neg hs] at hy
      have := h.wf s y off hy
      rw [if_neg (hb y this)]
      exact this
  · rw [happ] at hy
    split at hy
    · injection hy with hy; subst hy; exact h0
    · exact h.nz y ds hy
theorem app_put (h : SH E n B w0 S β a w) {x : Nat} {cs : List Chunk} (hx : (S.var x).isSome = true) (h0 : sizes cs ≠ 0) (hk : Kp B w w') (hc : ∀ p : Addr, p.block ≠ β x → w'.cell? p = w.cell? p) (hf : ∀ p, w'.frozen? p = w.frozen? p) (hs : w'.heap.size = w.heap.size) (hva : VarAt E w' (β x) cs) :
    SH E n B w0 (S.app none (.put x cs)) β (a.put none Go.undef) w' := by
  have happ : ∀ y, (S.app none (.put x cs)).var y = if y = x then some cs else S.var y := fun y => rfl
  have hlk : ∀ s, (S.app none (.put x cs)).look s = S.look s := fun s => by simp only [St.app]; rw [if_neg (by simp)]
  have hsome : ∀ y, ((S.app none (.put x cs)).var y).isSome = true → (S.var y).isSome = true := fun y hy => by
    rw [happ] at hy
    split at hy
    · rename_i e; rw [e]; exact hx
    · exact hy
  obtain ⟨ox, hox⟩ := Option.isSome_iff_exists.1 hx
  refine ⟨fun s y hy => ?_, fun y ds hy => ?_, fun y z hy hz he => h.inj y z (hsome y hy) (hsome z hz) he, fun s y off hy => ?_, h.sz, h.nd, by rw [hs]; exact h.hp, h.bl.trans hk.below, fun y ds hy => ?_⟩
  · rw [hlk] at hy
    exact AV.keep hk (h.sl s y hy)
  · rw [happ] at hy
    split at hy
    · rename_i e
      subst e
      injection hy with hy
      subst hy
      exact ⟨(h.vr y ox hox).1, hva⟩
    · rename_i hne
      obtain ⟨k1, vs, k2, k3⟩ := h.vr y ds hy
      refine ⟨k1, vs, chunks_keep hk k2, fun i v hi => ?_⟩
      obtain ⟨j1, j2⟩ := k3 i v hi
      refine ⟨?_, by rw [hf]; exact j2⟩
      rw [hc ⟨β y, i, none⟩ (fun e => hne (h.inj y x (by rw [hy]; rfl) hx e))]
      exact j1
  · rw [hlk] at hy
    rw [happ]
    split
    · rfl
    · exact h.wf s y off hy
  · rw [happ] at hy
    split at hy
    · injection hy with hy; subst hy; exact h0
    · exact h.nz y ds hy
theorem opnd_ptr {look : Nat → Option AV} {o : Operand} {x off : Nat} (h : opnd look o = some (.ptr x off)) : ∃ t, look t = some (.ptr x off) := by
  cases o with
  | tmp t => exact ⟨t, h⟩
  | const v =>
    simp only [opnd] at h
    unfold avOf at h
    split at h
    · cases h
    · cases h
    · split at h <;> cases h
    · cases h
    · cases h
    · cases h
  | global g => cases h
  | func f => cases h
theorem mmE_nptr {f : Nat} {look : Nat → Option AV} {l : List Operand} {x off : Nat} (h : mmE f look l = some (.ptr x off)) : False := by
  unfold mmE at h
  split at h
  · split at h
    · split at h <;> cases h
    · cases h
  · cases h
theorem opE_ptr (hC : CfgOK P E C) {look : Nat → Option AV} {var : Nat → Option (List Chunk)} {o : Op} {x off : Nat} (h : opE C G look var o = some (.set (.ptr x off))) : ∃ t off', look t = some (.ptr x off') := by
  cases o with
  | move y =>
    simp only [opE] at h
    obtain ⟨z, hz, he⟩ := Option.map_eq_some_iff.1 h
    injection he with he
    subst he
    obtain ⟨t, ht⟩ := opnd_ptr hz
    exact ⟨t, off, ht⟩
  | assign y =>
    simp only [opE] at h
    obtain ⟨z, hz, he⟩ := Option.map_eq_some_iff.1 h
    injection he with he
    subst he
    obtain ⟨t, ht⟩ := opnd_ptr hz
    exact ⟨t, off, ht⟩
  | pick c y z =>
    simp only [opE] at h
    split at h
    · split at h
      · obtain ⟨u, hz, he⟩ := Option.map_eq_some_iff.1 h
        injection he with he
        subst he
        obtain ⟨t, ht⟩ := opnd_ptr hz
        exact ⟨t, off, ht⟩
      · obtain ⟨u, hz, he⟩ := Option.map_eq_some_iff.1 h
        injection he with he
        subst he
        obtain ⟨t, ht⟩ := opnd_ptr hz
        exact ⟨t, off, ht⟩
      · cases h
    · cases h
  | alloc t => simp only [opE] at h; obtain ⟨z, hz, he⟩ := Option.map_eq_some_iff.1 h; cases he
  | box t y => simp only [opE] at h; split at h <;> cases h
  | build t ps =>
    simp only [opE] at h
    split at h
    · split at h
      · cases h
      · split at h
        · split at h <;> cases h
        · cases h
    · split at h
      · split at h
        · split at h
          · split at h <;> cases h
          · cases h
        · cases h
      · cases h
    · cases h
  | field t y k =>
    simp only [opE] at h
    obtain ⟨u, hz, he⟩ := Option.map_eq_some_iff.1 h
    injection he with he
    subst he
    unfold fieldE at hz
    split at hz
    · split at hz
      · split at hz
        · unfold partV at hz
          split at hz
          · split at hz <;> cases hz
          · cases hz
        · cases hz
      · cases hz
    · cases hz
  | index t y i =>
    simp only [opE] at h
    split at h
    · split at h
      · split at h
        · split at h
          · obtain ⟨u, hz, he⟩ := Option.map_eq_some_iff.1 h
            injection he with he
            subst he
            unfold partV at hz
            split at hz
            · split at hz <;> cases hz
            · cases hz
          · cases h
        · cases h
      · cases h
    · cases h
  | load t y =>
    simp only [opE] at h
    split at h
    · split at h
      · obtain ⟨z, hz, he⟩ := Option.map_eq_some_iff.1 h
        injection he with he
        subst he
        unfold loadE at hz
        split at hz
        · split at hz
          · unfold part1 at hz
            split at hz
            · cases hz
            · split at hz <;> cases hz
          · split at hz
            · split at hz <;> cases hz
            · cases hz
        · cases hz
      · cases h
    · cases h
  | store t y z =>
    simp only [opE] at h
    split at h
    · split at h
      · obtain ⟨z, hz, he⟩ := Option.map_eq_some_iff.1 h; cases he
      · cases h
    · cases h
  | binOp op t y z t2 =>
    simp only [opE] at h
    split at h
    · obtain ⟨u, hz, he⟩ := Option.map_eq_some_iff.1 h
      injection he with he
      subst he
      unfold binE at hz
      split at hz
      · split at hz
        · cases hz
        · cases hz
        · split at hz <;> cases hz
        · cases hz
      · split at hz
        · split at hz <;> cases hz
        · cases hz
      · split at hz
        · exact (shE_nptr hz).elim
        split at hz
        · split at hz
          · cases hz
          · split at hz
            · split at hz
              · cases hz
              · exact (arE_nptr hz).elim
            · split at hz
              · split at hz
                · cases hz
                · exact (arE_nptr hz).elim
              · split at hz
                · cases hz
                · exact (arE_nptr hz).elim
              · exact (arE_nptr hz).elim
            · exact (arE_nptr hz).elim
        · cases hz
      · split at hz
        · split at hz <;> cases hz
        · cases hz
      · cases hz
    · cases h
  | unOp op t y =>
    simp only [opE] at h
    split at h
    · obtain ⟨u, hz, he⟩ := Option.map_eq_some_iff.1 h
      injection he with he
      subst he
      unfold unE at hz
      split at hz
      · cases hz
      · split at hz
        · cases hz
        · exact (wrE_nptr hz).elim
      · split at hz
        · cases hz
        · exact (wrE_nptr hz).elim
      · exact (wrE_nptr hz).elim
      · cases hz
    · cases h
  | convert s d y =>
    simp only [opE] at h
    split at h
    · obtain ⟨u, hz, he⟩ := Option.map_eq_some_iff.1 h
      injection he with he
      subst he
      unfold cvtE at hz
      split at hz
      · split at hz
        · exact (wrE_nptr hz).elim
        · cases hz
      · cases hz
    · cases h
  | fieldAddr t y k =>
    simp only [opE] at h
    split at h
    · rename_i y' off' d hy hd
      split at h
      rotate_left
      · cases h
      injection h with h
      injection h with h
      injection h with h1 h2
      subst h1
      unfold opndP at hy
      split at hy
      · rename_i y2 off2 hy2
        split at hy
        · injection hy with hy
          injection hy with e1 e2
          subst e1
          obtain ⟨t, ht⟩ := opnd_ptr hy2
          exact ⟨t, off2, ht⟩
        · cases hy
      · cases hy
    · cases h
  | indexAddr t y i =>
    simp only [opE] at h
    obtain ⟨⟨z, of⟩, hz, he⟩ := Option.map_eq_some_iff.1 h
    injection he with he
    injection he with e1 e2
    subst e1
    have go : ∃ off', opnd look y = some (.ptr z off') := by
      unfold idxE at hz
      split at hz
      · split at hz
        · split at hz
          · split at hz
            · rename_i y' off' bb size hx ha
              split at hz
              · split at hz
                · injection hz with hz
                  injection hz with e1 e2
                  subst e1
                  exact ⟨off', hx⟩
                · cases hz
              · split at hz
                · injection hz with hz
                  injection hz with e1 e2
                  subst e1
                  exact ⟨off', hx⟩
                · cases hz
            · cases hz
          · split at hz
            · split at hz
              · rename_i y' off' bb size hx ha
                split at hz
                · injection hz with hz
                  injection hz with e1 e2
                  subst e1
                  unfold opndP at hx
                  split at hx
                  · rename_i y2 off2 hy2
                    split at hx
                    · injection hx with hx
                      injection hx with e1 e2
                      subst e1
                      exact ⟨off2, hy2⟩
                    · cases hx
                  · cases hx
                · cases hz
              · cases hz
            · cases hz
        · cases hz
      · cases hz
    obtain ⟨off', ho⟩ := go
    obtain ⟨t, ht⟩ := opnd_ptr ho
    exact ⟨t, off', ht⟩
  | buildSlice t len ps =>
    simp only [opE] at h
    split at h
    · split at h
      · split at h
        · split at h <;> cases h
        · cases h
      · cases h
    · cases h
  | extract y i =>
    simp only [opE] at h
    split at h
    · split at h <;> cases h
    · cases h
  | call c =>
    simp only [opE] at h
    obtain ⟨u, hz, he⟩ := Option.map_eq_some_iff.1 h
    injection he with he
    subst he
    unfold callE at hz
    split at hz
    · split at hz
      · split at hz
        · exact absurd rfl (hC.nptr _ _ _ _ _ hz x off)
        · cases hz
      · cases hz
    · split at hz
      · split at hz
        · split at hz
          · rename_i ch _ _
            unfold lenE at hz
            split at hz <;> cases hz
          · split at hz
            · unfold slenE at hz
              split at hz <;> cases hz
            · cases hz
        · split at hz <;> cases hz
        · cases hz
      · cases hz
    · split at hz
      · split at hz
        · split at hz <;> cases hz
        · cases hz
      · cases hz
    · exact (mmE_nptr hz).elim
    · exact (mmE_nptr hz).elim
    · cases hz
  | _ => simp [opE] at h
theorem step_sound (hC : CfgAt P E C B w0) (hG : G.holds E) (h : SH E n B w0 S β a w) {o : Oper} {e : Eff} (ho : opE C G S.look S.var o.op = some e) (hok : okE n S o.dst e = true) (K : Act → World → Prop) (Q : Exit → Act → World → Prop)
    (hK : ∀ a' w', (S.app o.dst e).holds E n B w0 a' w' → K a' w') : Oper.wp P o a w K Q := by
  refine opE_sound hC.ok (hC.wk w h.bl) hG h.sl h.vr ho K Q ?_ ?_ ?_ ?_
  · rintro x cs rfl
    unfold okE at hok
    generalize o.dst = dst at *
    cases dst with
    | some d => simp at hok
    | none =>
      simp only [Bool.and_eq_true, Bool.not_eq_true', beq_eq_false_iff_ne, decide_eq_true_iff] at hok
      exact hok.2.2.2
  · rintro x v w' rfl hv ex
    refine hK _ _ ⟨β, app_set h hok (fun y off hy => ?_) hv ex⟩
    subst hy
    obtain ⟨t, off', ht⟩ := opE_ptr hC.ok ho
    exact h.wf t y off' ht
  · rintro t cs vs off rfl hof hcs
    unfold okE at hok
    generalize o.dst = dst at *
    cases dst with
    | none => simp at hok
    | some d =>
      simp only [Bool.and_eq_true, decide_eq_true_iff, Bool.not_eq_true', beq_eq_false_iff_ne] at hok
      exact hK _ _ ⟨_, app_new h hok.1 (by simpa using hok.2.1) hof hcs hok.2.2⟩
  · rintro x cs w' rfl hk hc hf hs hva
    unfold okE at hok
    generalize o.dst = dst at *
    cases dst with
    | some d => simp at hok
    | none =>
      simp only [Bool.and_eq_true, Bool.not_eq_true', beq_eq_false_iff_ne, decide_eq_true_iff] at hok
      exact hK _ _ ⟨β, app_put h hok.2.1 hok.2.2.1 hk hc hf hs hva⟩
end
end Go.Proofs.YtifeacfljfmnpaaGreat
end

section
set_option maxRecDepth 100000
namespace Go.Proofs.YtifeacfljfmnpaaGreat
open Go.RowKit
def effE (C : Cfg) (G : Asm) (n : Nat) (ops : Array Oper) (S : St) (o : Oper) : Option Eff :=
  match o.guard with
  | none => match opE C G S.look S.var o.op with
    | some e => if okE n S o.dst e then some e else none
    | none => none
  | some (j, want) => match (ops[j]?).bind (·.dst) with
    | some t => match S.look t with
      | some (.val false [.b tt]) => match tt.ev G with
        | some b => if b == want then
            match opE C G S.look S.var o.op with
            | some e => if okE n S o.dst e then some e else none
            | none => none
          else if okE n S o.dst (.set .bad) then some (.set .bad) else none
        | none => none
      | some .bad => if okE n S o.dst (.set .bad) then some (.set .bad) else none
      | _ => none
    | none => none
section
variable {P : Program} {E : Env} {n B : Nat} {w w0 : World} {a : Act} {G : Asm} {C : Cfg} {S : St}
theorem effE_sound (hC : CfgAt P E C B w0) (hG : G.holds E) (h : S.holds E n B w0 a w) {ops : Array Oper} {o : Oper} {e : Eff} (ho : effE C G n ops S o = some e) (K : Act → World → Prop) (Q : Exit → Act → World → Prop)
    (hK : ∀ a' w', (S.app o.dst e).holds E n B w0 a' w' → K a' w') : if Region.wanted o (yielded ops a.tmps) = true then Oper.wp P o a w K Q else K (a.put o.dst Go.undef) w := by
  obtain ⟨β, h⟩ := h
  have go : (match opE C G S.look S.var o.op with | some e => if okE n S o.dst e then some e else none | none => none) = some e → Oper.wp P o a w K Q := by
    intro hh
    split at hh
    · rename_i e' he'
      split at hh
      · rename_i hok
        injection hh with hh
        subst hh
        exact step_sound hC hG h he' hok K Q hK
      · cases hh
    · cases hh
  unfold effE at ho
  split at ho
  · rename_i hg
    have hw : Region.wanted o (yielded ops a.tmps) = true := by simp [Region.wanted, hg]
    rw [if_pos hw]
    exact go ho
  · rename_i j want hg
    split at ho
    · rename_i t ht
      split at ho
      · rename_i tt hl
        split at ho
        · rename_i b hb
          have hv := h.sl t _ hl
          obtain ⟨⟨l1, r1, h1, h2, h3⟩, _⟩ := hv
          simp only [Chunk.holds] at h2
          simp only [chunks] at h3
          subst h2 h3
          injection h1 with h1
          rw [BT.ev_spec hG hb] at h1
          have hy : yielded ops a.tmps j = some b := by
            have ha : a.tmps[t]? = some (.bool b) := by
              rw [Array.getD_eq_getD_getElem?] at h1
              cases hh : a.tmps[t]? with
              | none => rw [hh] at h1; simp [Go.undef] at h1
              | some u => rw [hh] at h1; simp at h1; rw [h1]
            simp only [yielded, ht, Option.bind_some, ha]
          split at ho
          · rename_i hbw
            have hbe : b = want := by simpa using hbw
            have hw : Region.wanted o (yielded ops a.tmps) = true := by simp [Region.wanted, hg, hy, hbe]
            rw [if_pos hw]
            exact go ho
          · rename_i hbw
            have hw : ¬ Region.wanted o (yielded ops a.tmps) = true := by
              simp only [Region.wanted, hg, hy]
              intro hh
              exact hbw (by simpa using hh)
            rw [if_neg hw]
            split at ho
            · rename_i hok
              injection ho with ho
              subst ho
              exact hK _ _ ⟨β, app_set h hok (fun y off e => by cases e) (show Go.undef = Go.undef from rfl) (Ext.refl w)⟩
            · cases ho
        · cases ho
      · rename_i hl
        have hv : a.tmps.getD t Go.undef = Go.undef := h.sl t _ hl
        have hy : yielded ops a.tmps j = none := by
          rw [Array.getD_eq_getD_getElem?] at hv
          cases hh : a.tmps[t]? with
          | none => simp only [yielded, ht, Option.bind_some, hh]
          | some u =>
            rw [hh] at hv
            simp only [Option.getD_some] at hv
            subst hv
            simp only [yielded, ht, Option.bind_some, hh, Go.undef]
        have hw : ¬ Region.wanted o (yielded ops a.tmps) = true := by
          simp [Region.wanted, hg, hy]
        rw [if_neg hw]
        split at ho
        · rename_i hok
          injection ho with ho
          subst ho
          exact hK _ _ ⟨β, app_set h hok (fun y off e => by cases e) (show Go.undef = Go.undef from rfl) (Ext.refl w)⟩
        · cases ho
      · cases ho
    · cases ho

def runE (C : Cfg) (G : Asm) (n : Nat) (ops : Array Oper) : List Oper → St → Option St
  | [], S => some S
  | o :: l, S => match effE C G n ops S o with
    | some e => runE C G n ops l (S.app o.dst e)
    | none => none
theorem runE_sound (hC : CfgAt P E C B w0) (hG : G.holds E) {ops : Array Oper} {Q : Exit → Act → World → Prop} : ∀ (l : List Oper) (S S' : St) (a : Act) (w : World), S.holds E n B w0 a w → runE C G n ops l S = some S' →
    (∀ a' w', S'.holds E n B w0 a' w' → Q .normal a' w') → wpList P ops Q l a w
  | [], S, S', a, w, h, hr, hQ => by
    simp only [runE] at hr
    injection hr with hr
    subst hr
    exact wpList_nil (hQ a w h)
  | o :: l, S, S', a, w, h, hr, hQ => by
    unfold runE at hr
    split at hr
    · rename_i e he
      refine wpList_step fun K hK => ?_
      exact effE_sound hC hG h he K Q (fun a' w' h' => hK _ _ (runE_sound hC hG l _ S' a' w' h' hr hQ))
    · cases hr

def tm : Operand → List Nat
  | .tmp t => [t]
  | _ => []
def rdOp : Op → List Nat
  | .move x => tm x
  | .assign x => tm x
  | .pick c x y => tm c ++ (tm x ++ tm y)
  | .box _ x => tm x
  | .build _ ps => ps.toList.flatMap fun p => tm p.2
  | .buildSlice _ _ ps => ps.toList.flatMap fun p => tm p.2
  | .load _ x => tm x
  | .store _ x y => tm x ++ tm y
  | .binOp _ _ x y _ => tm x ++ tm y
  | .unOp _ _ x => tm x
  | .convert _ _ x => tm x
  | .fieldAddr _ x _ => tm x
  | .field _ x _ => tm x
  | .indexAddr _ x i => tm x ++ tm i
  | .index _ x i => tm x ++ tm i
  | .extract x _ => tm x
  | .call c => (match c.callee with | .value f => tm f | _ => []) ++ c.args.toList.flatMap tm
  | _ => []
def rdS (ops : Array Oper) (o : Oper) : List Nat :=
  rdOp o.op ++ match o.guard with
    | none => []
    | some (j, _) => match (ops[j]?).bind (·.dst) with | some t => [t] | none => []
def memV : AV → List Nat
  | .ptr x off => if off < big then [] else [x]
  | _ => []
def rdV (S : St) (o : Oper) : List Nat :=
  match o.op with
  | .load _ x => match opndP S.look x with | some (y, _) => [y] | _ => []
  | .store _ x _ => match opndP S.look x with | some (y, _) => [y] | _ => []
  | .buildSlice _ _ _ => match o.dst with | some d => [d] | none => []
  | .call c => match opnds S.look c.args.toList with | some xs => xs.flatMap memV | none => []
  | .alloc _ => match o.dst with | some d => [d] | none => []
  | .box _ _ => match o.dst with | some d => [d] | none => []
  | _ => []
theorem z14q {f g : Nat → Option AV} {x : Operand} (h : ∀ t ∈ tm x, f t = g t) : opnd f x = opnd g x := by
  cases x with
  | tmp t => exact h t (by simp [tm])
  | _ => rfl
theorem opndP_congr {f g : Nat → Option AV} {x : Operand} (h : ∀ t ∈ tm x, f t = g t) : opndP f x = opndP g x := by
  unfold opndP
  rw [z14q h]
theorem memOf_congr {f g : Nat → Option (List Chunk)} : ∀ {xs : List AV}, (∀ x ∈ xs.flatMap memV, f x = g x) → xs.map (memOf f) = xs.map (memOf g)
  | [], _ => rfl
  | x :: xs, h => by
    rw [List.map_cons, List.map_cons, memOf_congr (xs := xs) (fun y hy => h y (by rw [List.flatMap_cons]; exact List.mem_append_right _ hy))]
    congr 1
    cases x with
    | ptr y off =>
      simp only [memOf]
      split
      · rfl
      · rename_i hlt
        exact h y (by rw [List.flatMap_cons]; exact List.mem_append_left _ (by simp [memV, hlt]))
    | _ => rfl
theorem opnds_congr {f g : Nat → Option AV} : ∀ {xs : List Operand}, (∀ t ∈ xs.flatMap tm, f t = g t) → opnds f xs = opnds g xs
  | [], _ => rfl
  | x :: xs, h => by
    unfold opnds
    rw [z14q (x := x) (fun t ht => h t (by simp [ht])), opnds_congr (xs := xs) (fun t ht => h t (by rw [List.flatMap_cons]; exact List.mem_append_right _ ht))]
theorem partsE_congr {f g : Nat → Option AV} : ∀ {ps : List (Nat × Operand)} {fs : List (Nat × Nat)} {k b : Nat}, (∀ t ∈ ps.flatMap (fun p => tm p.2), f t = g t) → partsE f ps fs k b = partsE g ps fs k b
  | [], [], _, _, _ => rfl
  | [], _ :: _, _, _, _ => rfl
  | _ :: _, [], _, _, _ => rfl
  | (i, x) :: ps, (off, size) :: fs, k, b, h => by
    unfold partsE
    rw [z14q (x := x) (fun t ht => h t (by simp [ht])), partsE_congr (ps := ps) (fs := fs) (k := k + 1) (b := b + size) (fun t ht => h t (by rw [List.flatMap_cons]; exact List.mem_append_right _ ht))]
theorem partsZ_congr {f g : Nat → Option AV} : ∀ {fs : List (Nat × Nat)} {ps : List (Nat × Operand)} {zs : List Chunk} {k b : Nat}, (∀ t ∈ ps.flatMap (fun p => tm p.2), f t = g t) → partsZ f fs ps zs k b = partsZ g fs ps zs k b
  | [], [], _, _, _, _ => rfl
  | _ :: _, [], _, _, _, _ => rfl
  | [], _ :: _, _, _, _, _ => rfl
  | (off, size) :: fs, (i, x) :: ps, zs, k, b, h => by
    simp only [partsZ]
    split
    · rw [z14q (x := x) (fun t ht => h t (by simp [ht])), partsZ_congr (fs := fs) (ps := (i, x) :: ps) h]
      split
      · split
        · split
          · rw [partsZ_congr (fs := fs) (ps := ps) (fun t ht => h t (by rw [List.flatMap_cons]; exact List.mem_append_right _ ht))]
          · rfl
        · rfl
      · rfl
    · rfl
theorem mmE_congr {f g : Nat → Option AV} {i : Nat} : ∀ {l : List Operand}, (∀ t ∈ l.flatMap tm, f t = g t) → mmE i f l = mmE i g l
  | [], _ => rfl
  | [_], _ => rfl
  | [x, y], h => by
    simp only [mmE]
    rw [z14q (x := x) (fun t ht => h t (by simp [ht])), z14q (x := y) (fun t ht => h t (by simp [ht]))]
  | _ :: _ :: _ :: _, _ => rfl
theorem opE_congr {S S' : St} {o : Oper} (hs : ∀ t ∈ rdOp o.op, S.look t = S'.look t) (hv : ∀ x ∈ rdV S o, S.var x = S'.var x) : opE C G S.look S.var o.op = opE C G S'.look S'.var o.op := by
  obtain ⟨dst, op, ty, pos, after, guard⟩ := o
  cases op with
  | move x => simp only [opE]; rw [z14q hs]
  | assign x => simp only [opE]; rw [z14q hs]
  | pick c x y =>
    simp only [rdOp, List.mem_append] at hs
    simp only [opE]
    rw [z14q (x := c) (fun t ht => hs t (.inl ht)), z14q (x := x) (fun t ht => hs t (.inr (.inl ht))), z14q (x := y) (fun t ht => hs t (.inr (.inr ht)))]
  | alloc t => rfl
  | box t x => simp only [opE]; rw [z14q hs]
  | build t ps =>
    have e : ∀ fs zs, partsB S.look fs ps.toList zs = partsB S'.look fs ps.toList zs := fun fs zs => by
      unfold partsB
      rw [partsE_congr hs, partsZ_congr hs]
    simp only [opE, e]
  | buildSlice t len ps =>
    have e : ∀ fs k b, partsE S.look ps.toList fs k b = partsE S'.look ps.toList fs k b := fun fs k b => partsE_congr hs
    simp only [opE, e]
  | load t x =>
    have e := opndP_congr (x := x) hs
    simp only [opE, rdV] at hv ⊢
    rw [← e]
    split
    · rename_i y off hy
      rw [hy] at hv
      rw [hv y (by simp)]
    · rfl
  | store t x y =>
    simp only [rdOp, List.mem_append] at hs
    have e := opndP_congr (f := S.look) (g := S'.look) (x := x) (fun t ht => hs t (.inl ht))
    have e2 := z14q (f := S.look) (g := S'.look) (x := y) (fun t ht => hs t (.inr ht))
    simp only [opE, rdV] at hv ⊢
    rw [← e, ← e2]
    split
    · rename_i z off b cs hz hc
      rw [hz] at hv
      rw [hv z (by simp)]
    · rfl
  | binOp op t x y t2 =>
    simp only [rdOp, List.mem_append] at hs
    simp only [opE]
    rw [z14q (x := x) (fun t ht => hs t (.inl ht)), z14q (x := y) (fun t ht => hs t (.inr ht))]
  | unOp op t x => simp only [opE]; rw [z14q hs]
  | convert s d x => simp only [opE]; rw [z14q hs]
  | fieldAddr t x k => simp only [opE]; rw [opndP_congr hs]
  | field t x k => simp only [opE, fieldE]; rw [z14q hs]
  | indexAddr t x i =>
    simp only [rdOp, List.mem_append] at hs
    simp only [opE, idxE]
    rw [z14q (x := i) (fun t ht => hs t (.inr ht)), z14q (x := x) (fun t ht => hs t (.inl ht)), opndP_congr (x := x) (fun t ht => hs t (.inl ht))]
  | index t x i =>
    simp only [rdOp, List.mem_append] at hs
    simp only [opE]
    rw [z14q (x := i) (fun t ht => hs t (.inr ht)), z14q (x := x) (fun t ht => hs t (.inl ht))]
  | extract x i => simp only [opE]; rw [z14q hs]
  | call c =>
    simp only [rdOp, List.mem_append] at hs
    simp only [opE, callE, rdV] at hv ⊢
    congr 1
    split
    · rename_i f hf
      rw [hf] at hs
      rw [← z14q (f := S.look) (x := f) (fun t ht => hs t (.inl ht)), ← opnds_congr (f := S.look) (xs := c.args.toList) (fun t ht => hs t (.inr ht))]
      split
      · split
        · rename_i xs hxs
          rw [hxs] at hv
          rw [memOf_congr (f := S.var) (g := S'.var) hv]
        · rfl
      · rfl
    · split
      · rename_i x _ har
        rw [z14q (x := x) (fun t ht => hs t (.inr (by rw [har]; simpa using ht)))]
      · rfl
    · split
      · rename_i x y _ har
        rw [z14q (x := x) (fun t ht => hs t (.inr (by rw [har]; simp [ht]))), z14q (x := y) (fun t ht => hs t (.inr (by rw [har]; simp [ht])))]
      · rfl
    · exact mmE_congr fun t ht => hs t (.inr ht)
    · exact mmE_congr fun t ht => hs t (.inr ht)
    · rfl
  | _ => rfl
theorem okE_congr {S S' : St} {o : Oper} {e : Eff} (he : opE C G S.look S.var o.op = some e ∨ e = .set .bad) (hv : ∀ x ∈ rdV S o, S.var x = S'.var x) : okE n S o.dst e = okE n S' o.dst e := by
  rcases he with he | rfl
  · cases e with
    | set x => rfl
    | new t cs off =>
      obtain ⟨dst, op, ty, pos, after, guard⟩ := o
      unfold okE
      cases dst with
      | none => rfl
      | some d =>
        have : S.var d = S'.var d := by
          cases op with
          | alloc t => exact hv d (by simp [rdV])
          | box t x => exact hv d (by simp [rdV])
          | buildSlice t len ps => exact hv d (by simp [rdV])
          | move x => simp [opE] at he
          | assign x => simp [opE] at he
          | pick c x y =>
            simp only [opE] at he
            split at he
            · split at he
              · obtain ⟨_, _, h⟩ := Option.map_eq_some_iff.1 he; cases h
              · obtain ⟨_, _, h⟩ := Option.map_eq_some_iff.1 he; cases h
              · cases he
            · cases he
          | build t ps =>
            simp only [opE] at he
            split at he
            · split at he
              · cases he
              · split at he
                · split at he <;> cases he
                · cases he
            · split at he
              · split at he
                · split at he
                  · split at he <;> cases he
                  · cases he
                · cases he
              · cases he
            · cases he
          | field t y k =>
            simp only [opE] at he
            obtain ⟨_, _, h⟩ := Option.map_eq_some_iff.1 he
            cases h
          | index t y i =>
            simp only [opE] at he
            split at he
            · split at he
              · split at he
                · split at he
                  · obtain ⟨_, _, h⟩ := Option.map_eq_some_iff.1 he; cases h
                  · cases he
                · cases he
              · cases he
            · cases he
          | load t x =>
            simp only [opE] at he
            split at he
            · split at he
              · obtain ⟨_, _, h⟩ := Option.map_eq_some_iff.1 he; cases h
              · cases he
            · cases he
          | store t x y =>
            simp only [opE] at he
            split at he
            · split at he
              · obtain ⟨_, _, h⟩ := Option.map_eq_some_iff.1 he; cases h
              · cases he
            · cases he
          | binOp op t x y t2 =>
            simp only [opE] at he
            split at he
            · obtain ⟨_, _, h⟩ := Option.map_eq_some_iff.1 he; cases h
            · cases he
          | unOp op t x =>
            simp only [opE] at he
            split at he
            · obtain ⟨_, _, h⟩ := Option.map_eq_some_iff.1 he; cases h
            · cases he
          | convert s d x =>
            simp only [opE] at he
            split at he
            · obtain ⟨_, _, h⟩ := Option.map_eq_some_iff.1 he; cases h
            · cases he
          | indexAddr t x i =>
            simp only [opE] at he
            obtain ⟨_, _, h⟩ := Option.map_eq_some_iff.1 he
            cases h
          | fieldAddr t x k =>
            simp only [opE] at he
            split at he
            · split at he <;> cases he
            · cases he
          | extract x i =>
            simp only [opE] at he
            split at he
            · split at he <;> cases he
            · cases he
          | call c =>
            simp only [opE] at he
            obtain ⟨_, _, h⟩ := Option.map_eq_some_iff.1 he
            cases h
          | _ => simp [opE] at he
        simp only [this]
    | put x cs =>
      obtain ⟨dst, op, ty, pos, after, guard⟩ := o
      unfold okE
      cases dst with
      | some d => rfl
      | none =>
        have : S.var x = S'.var x := by
          cases op with
          | store t y z =>
            simp only [opE] at he
            split at he
            · rename_i y' off b cs' hy hz
              split at he
              · obtain ⟨_, _, h⟩ := Option.map_eq_some_iff.1 he
                injection h with h
                subst h
                exact hv y' (by simp [rdV, hy])
              · cases he
            · cases he
          | move x => simp [opE] at he
          | assign x => simp [opE] at he
          | alloc t => simp [opE] at he
          | box t x =>
            simp only [opE] at he
            split at he <;> cases he
          | pick c x y =>
            simp only [opE] at he
            split at he
            · split at he
              · obtain ⟨_, _, h⟩ := Option.map_eq_some_iff.1 he; cases h
              · obtain ⟨_, _, h⟩ := Option.map_eq_some_iff.1 he; cases h
              · cases he
            · cases he
          | build t ps =>
            simp only [opE] at he
            split at he
            · split at he
              · cases he
              · split at he
                · split at he <;> cases he
                · cases he
            · split at he
              · split at he
                · split at he
                  · split at he <;> cases he
                  · cases he
                · cases he
              · cases he
            · cases he
          | field t y k =>
            simp only [opE] at he
            obtain ⟨_, _, h⟩ := Option.map_eq_some_iff.1 he
            cases h
          | index t y i =>
            simp only [opE] at he
            split at he
            · split at he
              · split at he
                · split at he
                  · obtain ⟨_, _, h⟩ := Option.map_eq_some_iff.1 he; cases h
                  · cases he
                · cases he
              · cases he
            · cases he
          | load t x =>
            simp only [opE] at he
            split at he
            · split at he
              · obtain ⟨_, _, h⟩ := Option.map_eq_some_iff.1 he; cases h
              · cases he
            · cases he
          | binOp op t x y t2 =>
            simp only [opE] at he
            split at he
            · obtain ⟨_, _, h⟩ := Option.map_eq_some_iff.1 he; cases h
            · cases he
          | unOp op t x =>
            simp only [opE] at he
            split at he
            · obtain ⟨_, _, h⟩ := Option.map_eq_some_iff.1 he; cases h
            · cases he
          | convert s d x =>
            simp only [opE] at he
            split at he
            · obtain ⟨_, _, h⟩ := Option.map_eq_some_iff.1 he; cases h
            · cases he
          | indexAddr t x i =>
            simp only [opE] at he
            obtain ⟨_, _, h⟩ := Option.map_eq_some_iff.1 he
            cases h
          | fieldAddr t x k =>
            simp only [opE] at he
            split at he
            · split at he <;> cases he
            · cases he
          | extract x i =>
            simp only [opE] at he
            split at he
            · split at he <;> cases he
            · cases he
          | call c =>
            simp only [opE] at he
            obtain ⟨_, _, h⟩ := Option.map_eq_some_iff.1 he
            cases h
          | buildSlice t len ps =>
            simp only [opE] at he
            split at he
            · split at he
              · split at he
                · split at he <;> cases he
                · cases he
              · cases he
            · cases he
          | _ => simp [opE] at he
        simp only [this]
  · rfl
theorem effE_congr {S S' : St} {ops : Array Oper} {o : Oper} {e : Eff} (hs : ∀ t ∈ rdS ops o, S.look t = S'.look t) (hv : ∀ x ∈ rdV S o, S.var x = S'.var x) (h : effE C G n ops S o = some e) : effE C G n ops S' o = some e := by
  have ho := opE_congr (C := C) (G := G) (fun t ht => hs t (List.mem_append_left _ ht)) hv
  have go : (match opE C G S.look S.var o.op with | some e => if okE n S o.dst e then some e else none | none => none) = some e → (match opE C G S'.look S'.var o.op with | some e => if okE n S' o.dst e then some e else none | none => none) = some e := by
    intro hh
    rw [← ho]
    split at hh
    · rename_i e' he'
      rw [okE_congr (n := n) (.inl he') hv] at hh
      exact hh
    · cases hh
  unfold effE at h ⊢
  cases hg : o.guard with
  | none =>
    rw [hg] at h
    exact go h
  | some p =>
    obtain ⟨j, want⟩ := p
    rw [hg] at h
    simp only at h ⊢
    cases ht : (ops[j]?).bind (·.dst) with
    | none => rw [ht] at h; cases h
    | some t =>
      rw [ht] at h
      simp only at h ⊢
      have hst : S.look t = S'.look t := hs t (by unfold rdS; rw [hg]; simp [ht])
      rw [← hst]
      split at h
      · rename_i tt hl
        split at h
        · rename_i b hb
          split at h
          · rename_i hbw
            rw [if_pos hbw]
            exact go h
          · rename_i hbw
            rw [if_neg hbw]
            rw [← okE_congr (C := C) (G := G) (n := n) (S := S) (.inr rfl) hv]
            exact h
        · cases h
      · rw [← okE_congr (C := C) (G := G) (n := n) (S := S) (.inr rfl) hv]
        exact h
      · cases h
end
end Go.Proofs.YtifeacfljfmnpaaGreat
end

section
set_option maxRecDepth 100000
namespace Go.Proofs.YtifeacfljfmnpaaGreat
open Go.RowKit
structure Rec where
  dst : Option Nat
  eff : Eff
  rs : List Nat
  rv : List Nat
  ps : List Nat
def Rec.wV (r : Rec) : Option Nat := (varEff r.dst r.eff).map (·.1)
def recsE (C : Cfg) (G : Asm) (n : Nat) (ops : Array Oper) : List Oper → St → Option (List Rec × St)
  | [], S => some ([], S)
  | o :: l, S => match effE C G n ops S o with
    | some e => match recsE C G n ops l (S.app o.dst e) with
      | some (rs, S') => some (⟨o.dst, e, rdS ops o, rdV S o, preds o⟩ :: rs, S')
      | none => none
    | none => none
def stF (s : Nat → Bool) : Nat → List Rec → St → St
  | _, [], S => S
  | i, r :: rs, S => stF s (i + 1) rs (if s i then S.app r.dst r.eff else S)
def noconf (a b : Rec) : Bool :=
  (match b.dst with | some d => !a.rs.contains d | none => true) && ((match a.dst with | some d => !b.rs.contains d && !(b.dst == some d) | none => true) &&
  ((match b.wV with | some x => !a.rv.contains x | none => true) && (match a.wV with | some x => !b.rv.contains x && !(b.wV == some x) | none => true)))
def okFrom (i : Nat) (a : Rec) : List Rec → Bool
  | [] => true
  | b :: r => (b.ps.contains i || noconf a b) && okFrom i a r
def okPairs : Nat → List Rec → Bool
  | _, [] => true
  | i, a :: r => okFrom i a r && okPairs (i + 1) r
theorem okFrom_get {i : Nat} {a : Rec} : ∀ {l : List Rec}, okFrom i a l = true → ∀ (k : Nat) (b : Rec), l[k]? = some b → i ∈ b.ps ∨ noconf a b = true
  | [], _, _, _, h => by simp at h
  | c :: l, h, k, b, hb => by
    simp only [okFrom, Bool.and_eq_true, Bool.or_eq_true, List.contains_iff_mem] at h
    match k, hb with
    | 0, hb => injection hb with hb; subst hb; exact h.1
    | k + 1, hb => exact okFrom_get h.2 k b hb
theorem okPairs_get : ∀ {l : List Rec} {j : Nat}, okPairs j l = true → ∀ (i k : Nat) (a b : Rec), i < k → l[i]? = some a → l[k]? = some b → j + i ∈ b.ps ∨ noconf a b = true
  | [], _, _, _, _, _, _, _, h, _ => by simp at h
  | c :: l, j, h, i, k, a, b, hik, ha, hb => by
    simp only [okPairs, Bool.and_eq_true] at h
    match k, hik, hb with
    | k + 1, hik, hb =>
      match i, ha with
      | 0, ha => injection ha with ha; subst ha; exact okFrom_get h.1 k b hb
      | i + 1, ha =>
        have := okPairs_get h.2 i k a b (by omega) ha hb
        rwa [show j + 1 + i = j + (i + 1) by omega] at this

theorem St.ext' {S S' : St} (h1 : ∀ t, S.look t = S'.look t) (h2 : ∀ x, S.var x = S'.var x) : S = S' := by
  obtain ⟨a, b⟩ := S
  obtain ⟨c, d⟩ := S'
  obtain rfl : a = c := funext h1
  obtain rfl : b = d := funext h2
  rfl
theorem stF_congr {s s' : Nat → Bool} : ∀ (rs : List Rec) (i : Nat) (S : St), (∀ k, k < rs.length → s (i + k) = s' (i + k)) → stF s i rs S = stF s' i rs S
  | [], _, _, _ => rfl
  | r :: rs, i, S, h => by
    unfold stF
    rw [show s i = s' i from h 0 (by simp)]
    exact stF_congr rs (i + 1) _ (fun k hk => by
      have := h (k + 1) (by simpa using hk)
      rwa [show i + (k + 1) = i + 1 + k by omega] at this)
theorem stF_shift {s : Nat → Bool} : ∀ (rs : List Rec) (i : Nat) (S : St), stF s (i + 1) rs S = stF (fun k => s (k + 1)) i rs S
  | [], _, _ => rfl
  | r :: rs, i, S => by
    unfold stF
    exact stF_shift rs (i + 1) _
theorem stF_none {s : Nat → Bool} : ∀ (rs : List Rec) (i : Nat) (S : St), (∀ k, s k = false) → stF s i rs S = S
  | [], _, _, _ => rfl
  | r :: rs, i, S, h => by
    unfold stF
    rw [h i]
    exact stF_none rs (i + 1) S h
theorem stF_look {s s' : Nat → Bool} {t : Nat} : ∀ (rs : List Rec) (i : Nat) (S S' : St), S.look t = S'.look t → (∀ k r, rs[k]? = some r → r.dst = some t → s (i + k) = s' (i + k)) → (stF s i rs S).look t = (stF s' i rs S').look t
  | [], _, _, _, h, _ => h
  | r :: rs, i, S, S', h, hk => by
    unfold stF
    refine stF_look rs (i + 1) _ _ ?_ (fun k r' hr hd => by
      have := hk (k + 1) r' hr hd
      rwa [show i + (k + 1) = i + 1 + k by omega] at this)
    by_cases hd : r.dst = some t
    · rw [show s i = s' i from hk 0 r rfl hd]
      split
      · simp only [St.app, hd, if_true]
      · exact h
    · have e : ∀ U : St, (U.app r.dst r.eff).look t = U.look t := fun U => by simp only [St.app]; rw [if_neg hd]
      split <;> split <;> simp only [e, h]
theorem app_var_ne {U : St} {r : Rec} {x : Nat} (hd : r.wV ≠ some x) : (U.app r.dst r.eff).var x = U.var x := by
  simp only [St.app]
  unfold Rec.wV at hd
  cases hv : varEff r.dst r.eff with
  | none => rfl
  | some p =>
    obtain ⟨y, cs⟩ := p
    rw [hv] at hd
    simp only
    rw [if_neg (fun e => hd (by rw [e]; rfl))]
theorem app_var_eq {U U' : St} {r : Rec} {x : Nat} (hd : r.wV = some x) : (U.app r.dst r.eff).var x = (U'.app r.dst r.eff).var x := by
  simp only [St.app]
  unfold Rec.wV at hd
  cases hv : varEff r.dst r.eff with
  | none => rw [hv] at hd; cases hd
  | some p =>
    obtain ⟨y, cs⟩ := p
    rw [hv] at hd
    injection hd with hd
    simp only at hd ⊢
    rw [if_pos hd.symm, if_pos hd.symm]
theorem stF_var {s s' : Nat → Bool} {x : Nat} : ∀ (rs : List Rec) (i : Nat) (S S' : St), S.var x = S'.var x → (∀ k r, rs[k]? = some r → r.wV = some x → s (i + k) = s' (i + k)) → (stF s i rs S).var x = (stF s' i rs S').var x
  | [], _, _, _, h, _ => h
  | r :: rs, i, S, S', h, hk => by
    unfold stF
    refine stF_var rs (i + 1) _ _ ?_ (fun k r' hr hd => by
      have := hk (k + 1) r' hr hd
      rwa [show i + (k + 1) = i + 1 + k by omega] at this)
    by_cases hd : r.wV = some x
    · rw [show s i = s' i from hk 0 r rfl hd]
      split
      · exact app_var_eq hd
      · exact h
    · split <;> split <;> simp only [app_var_ne hd, h]
theorem app_comm {S : St} {a b : Rec} (hd : ∀ d, a.dst = some d → b.dst ≠ some d) (hv : ∀ x, a.wV = some x → b.wV ≠ some x) : (S.app a.dst a.eff).app b.dst b.eff = (S.app b.dst b.eff).app a.dst a.eff := by
  refine St.ext' (fun t => ?_) (fun x => ?_)
  · simp only [St.app]
    by_cases h1 : a.dst = some t
    · rw [if_neg (hd t h1), if_pos h1, if_pos h1]
    · rw [if_neg h1, if_neg h1]
  · by_cases h1 : a.wV = some x
    · rw [app_var_ne (hv x h1)]
      exact app_var_eq h1
    · by_cases h2 : b.wV = some x
      · rw [app_var_ne (U := S.app b.dst b.eff) h1]
        exact app_var_eq h2
      · rw [app_var_ne h2, app_var_ne h1, app_var_ne h1, app_var_ne h2]
theorem stF_comm {s : Nat → Bool} {a : Rec} : ∀ (rs : List Rec) (i : Nat) (S : St), (∀ k b, rs[k]? = some b → s (i + k) = true → (∀ d, a.dst = some d → b.dst ≠ some d) ∧ (∀ x, a.wV = some x → b.wV ≠ some x)) →
    stF s i rs (S.app a.dst a.eff) = (stF s i rs S).app a.dst a.eff
  | [], _, _, _ => rfl
  | b :: rs, i, S, h => by
    unfold stF
    have ih := fun U => stF_comm rs (i + 1) U (fun k c hc hs => h (k + 1) c hc (by rwa [show i + (k + 1) = i + 1 + k by omega]))
    by_cases hs : s i = true
    · obtain ⟨h1, h2⟩ := h 0 b rfl hs
      rw [if_pos hs, if_pos hs, app_comm h1 h2]
      exact ih _
    · rw [if_neg hs, if_neg hs]
      exact ih _
theorem stF_add {s s' : Nat → Bool} {a : Rec} : ∀ (rs : List Rec) (i j : Nat) (S : St), rs[j]? = some a → s (i + j) = false → s' (i + j) = true → (∀ k, k ≠ i + j → s' k = s k) →
    (∀ k b, j < k → rs[k]? = some b → s (i + k) = true → (∀ d, a.dst = some d → b.dst ≠ some d) ∧ (∀ x, a.wV = some x → b.wV ≠ some x)) →
    stF s' i rs S = (stF s i rs S).app a.dst a.eff
  | [], _, _, _, h, _, _, _, _ => by simp at h
  | b :: rs, i, 0, S, h, h1, h2, h3, h4 => by
    injection h with h
    subst h
    unfold stF
    rw [Nat.add_zero] at h1 h2 h3
    rw [h1, h2, if_pos rfl, if_neg (by simp)]
    rw [← stF_comm rs (i + 1) S (fun k c hc hs => h4 (k + 1) c (by omega) hc (by rwa [show i + (k + 1) = i + 1 + k by omega]))]
    exact stF_congr _ _ _ (fun k _ => h3 _ (by omega))
  | b :: rs, i, j + 1, S, h, h1, h2, h3, h4 => by
    unfold stF
    rw [h3 i (by omega)]
    exact stF_add rs (i + 1) j _ h (by rwa [show i + 1 + j = i + (j + 1) by omega]) (by rwa [show i + 1 + j = i + (j + 1) by omega]) (fun k hk => h3 k (by omega)) (fun k c hk hc hs => h4 (k + 1) c (by omega) hc (by rwa [show i + (k + 1) = i + 1 + k by omega]))

section
variable {P : Program} {E : Env} {n B : Nat} {w w0 : World} {a : Act} {G : Asm} {C : Cfg}
theorem recsE_spec {ops : Array Oper} : ∀ (l : List Oper) (S S' : St) (rs : List Rec), recsE C G n ops l S = some (rs, S') → rs.length = l.length ∧ S' = stF (fun _ => true) 0 rs S ∧
    ∀ i o, l[i]? = some o → ∃ r, rs[i]? = some r ∧ r.dst = o.dst ∧ r.ps = preds o ∧ r.rs = rdS ops o ∧ r.rv = rdV (stF (fun k => decide (k < i)) 0 rs S) o ∧ effE C G n ops (stF (fun k => decide (k < i)) 0 rs S) o = some r.eff
  | [], S, S', rs, h => by
    simp only [recsE] at h
    injection h with h
    injection h with h1 h2
    subst h1 h2
    exact ⟨rfl, rfl, fun i o h => by simp at h⟩
  | o :: l, S, S', rs, h => by
    unfold recsE at h
    split at h
    · rename_i e he
      split at h
      · rename_i rs2 S2 h2
        injection h with h
        injection h with h3 h4
        subst h3 h4
        obtain ⟨k1, k2, k3⟩ := recsE_spec l _ _ _ h2
        refine ⟨by simp [k1], ?_, fun i o' ho => ?_⟩
        · rw [k2]
          show _ = stF (fun _ => true) 1 rs2 _
          rw [stF_shift rs2 0]
          rfl
        · match i, ho with
          | 0, ho =>
            injection ho with ho
            subst ho
            have e0 : stF (fun k => decide (k < 0)) 0 (⟨o.dst, e, rdS ops o, rdV S o, preds o⟩ :: rs2) S = S := stF_none _ _ _ (fun k => by simp)
            exact ⟨_, rfl, rfl, rfl, rfl, by rw [e0], by rw [e0]; exact he⟩
          | i + 1, ho =>
            obtain ⟨r, j1, j2, j3, j4, j5, j6⟩ := k3 i o' ho
            have e1 : stF (fun k => decide (k < i + 1)) 0 (⟨o.dst, e, rdS ops o, rdV S o, preds o⟩ :: rs2) S = stF (fun k => decide (k < i)) 0 rs2 (S.app o.dst e) := by
              show stF (fun k => decide (k < i + 1)) 1 rs2 (if decide (0 < i + 1) then S.app o.dst e else S) = _
              rw [stF_shift rs2 0, if_pos (by simp)]
              refine stF_congr _ _ _ (fun k _ => ?_)
              simp
            exact ⟨r, j1, j2, j3, j4, by rw [e1]; exact j5, by rw [e1]; exact j6⟩
      · cases h
    · cases h
theorem SH.drew {S : St} {β : Nat → Nat} (h : SH E n B w0 S β a w) : SH E n B w0 S β a w.drew := by
  have ex := (Ext.refl w).drew
  have hk := Kp.of (B := B) ex h.hp
  exact ⟨fun t x hx => AV.keep hk (h.sl t x hx), fun x cs hx => ⟨(h.vr x cs hx).1, (h.vr x cs hx).2.ext ex⟩, h.inj, h.wf, h.sz, h.nd, h.hp, h.bl.drew, h.nz⟩
theorem allOps_of {F : Nat → Oper → Prop} : ∀ {l : List Oper} {k : Nat}, (∀ i o, l[i]? = some o → F (k + i) o) → AllOps F k l
  | [], _, _ => AllOps.nil
  | o :: l, k, h => AllOps.cons (h 0 o rfl) (allOps_of (fun i o ho => by have := h (i + 1) o ho; rwa [show k + (i + 1) = k + 1 + i by omega] at this))
theorem set_getD {s : Array Bool} {i k : Nat} (h : i < s.size) : (s.setIfInBounds i true).getD k false = (s.getD k false || k == i) := by
  simp only [Array.getD_eq_getD_getElem?, Array.getElem?_setIfInBounds]
  by_cases hk : i = k
  · subst hk
    rw [if_pos rfl, if_pos h]
    simp
  · rw [if_neg hk]
    have : (k == i) = false := by simp; omega
    rw [this, Bool.or_false]
theorem drawn_sound (hm : P.follows .mixedOrders = true) (hC : CfgAt P E C B w0) (hG : G.holds E) {id : Nat} {l : List Oper} {S S' : St} {rs : List Rec} {Q : Exit → Act → World → Prop} (h : S.holds E n B w0 a w) (hb : backB 0 l = true)
    (hr : recsE C G n l.toArray l S = some (rs, S')) (hp : okPairs 0 rs = true) (hQ : ∀ a' w', S'.holds E n B w0 a' w' → Q .normal a' w') : (Code.region id l.toArray true).wp P Q a w := by
  obtain ⟨k1, k2, k3⟩ := recsE_spec l S S' rs hr
  obtain ⟨β0, h0⟩ := h
  refine wp_region_inv (fun a0 s a' w' => a0 = a → (s.size = l.length ∧ (∀ k, s.getD k false = true → ∀ o, l[k]? = some o → ∀ j ∈ preds o, s.getD j false = true) ∧ (stF (fun k => s.getD k false) 0 rs S).holds E n B w0 a' w')) hm hb n h0.sz ?_ ?_ ?_
  · rintro a' _ rfl
    refine ⟨by simp, fun k hk => (none_yet hk).elim, ?_⟩
    rw [stF_none rs 0 S (fun k => by
      rcases hh : (Array.replicate l.length false).getD k false with _ | _
      · rfl
      · exact (none_yet hh).elim)]
    exact ⟨β0, h0.drew⟩
  · intro s a' w' hI
    obtain ⟨hz, hcl, hst⟩ := hI rfl
    refine allOps_of (fun i o ho => ?_)
    rw [Nat.zero_add]
    intro hu hpr K hK
    obtain ⟨r, j1, j2, j3, j4, j5, j6⟩ := k3 i o ho
    have hil : i < l.length := (List.getElem?_eq_some_iff.1 ho).1
    have hlo : ∀ (k : Nat) (b : Rec), rs[k]? = some b → ∃ o', l[k]? = some o' ∧ b.ps = preds o' := by
      intro k b hb'
      have hkl : k < l.length := by rw [← k1]; exact (List.getElem?_eq_some_iff.1 hb').1
      obtain ⟨r', i1, _, i3, _⟩ := k3 k l[k] (List.getElem?_eq_getElem hkl)
      rw [hb'] at i1
      injection i1 with i1
      subst i1
      exact ⟨_, List.getElem?_eq_getElem hkl, i3⟩
    have later : ∀ (k : Nat) (b : Rec), i < k → rs[k]? = some b → s.getD k false = true → noconf r b = true := by
      intro k b hik hb' hs
      rcases okPairs_get hp i k r b hik j1 hb' with hin | hnc
      · exfalso
        rw [Nat.zero_add] at hin
        obtain ⟨o', ho', hps⟩ := hlo k b hb'
        have := hcl k hs o' ho' i (by rw [← hps]; exact hin)
        rw [this] at hu; cases hu
      · exact hnc
    have earlier : ∀ (k : Nat) (b : Rec), k < i → rs[k]? = some b → s.getD k false = true ∨ noconf b r = true := by
      intro k b hki hb'
      rcases okPairs_get hp k i b r hki hb' j1 with hin | hnc
      · rw [Nat.zero_add] at hin
        exact .inl (hpr k (by rw [← j3]; exact hin))
      · exact .inr hnc
    have agreeS : ∀ t ∈ rdS l.toArray o, (stF (fun k => decide (k < i)) 0 rs S).look t = (stF (fun k => s.getD k false) 0 rs S).look t := by
      intro t ht
      refine stF_look rs 0 S S rfl (fun k b hb' hd => ?_)
      rw [Nat.zero_add]
      rw [← j4] at ht
      rcases Nat.lt_trichotomy k i with hk | hk | hk
      · rw [decide_eq_true hk]
        rcases earlier k b hk hb' with hs | hnc
        · exact hs.symm
        · exfalso
          simp only [noconf, hd, Bool.and_eq_true, Bool.not_eq_true'] at hnc
          have := hnc.2.1.1
          simp [ht] at this
      · subst hk
        rw [hu]; simp
      · rw [decide_eq_false (by omega)]
        rcases hs : s.getD k false with _ | _
        · rfl
        · exfalso
          have hnc := later k b hk hb' hs
          simp only [noconf, hd, Bool.and_eq_true, Bool.not_eq_true'] at hnc
          have := hnc.1
          simp [ht] at this
    have agreeV : ∀ x ∈ rdV (stF (fun k => decide (k < i)) 0 rs S) o, (stF (fun k => decide (k < i)) 0 rs S).var x = (stF (fun k => s.getD k false) 0 rs S).var x := by
      intro x hx
      refine stF_var rs 0 S S rfl (fun k b hb' hd => ?_)
      rw [Nat.zero_add]
      rw [← j5] at hx
      rcases Nat.lt_trichotomy k i with hk | hk | hk
      · rw [decide_eq_true hk]
        rcases earlier k b hk hb' with hs | hnc
        · exact hs.symm
        · exfalso
          simp only [noconf, hd, Bool.and_eq_true, Bool.not_eq_true'] at hnc
          have := hnc.2.2.2.1
          simp [hx] at this
      · subst hk
        rw [hu]; simp
      · rw [decide_eq_false (by omega)]
        rcases hs : s.getD k false with _ | _
        · rfl
        · exfalso
          have hnc := later k b hk hb' hs
          simp only [noconf, hd, Bool.and_eq_true, Bool.not_eq_true'] at hnc
          have := hnc.2.2.1
          simp [hx] at this
    have he := effE_congr agreeS agreeV j6
    refine effE_sound hC hG hst he K Q (fun a2 w2 h2 => hK.out a2 w2 (fun _ => ⟨by simpa using hz, ?_, ?_⟩))
    · intro k hk o' ho' j hj
      rw [set_getD (by omega)] at hk ⊢
      rw [Bool.or_eq_true] at hk ⊢
      rcases hk with hk | hk
      · exact .inl (hcl k hk o' ho' j hj)
      · have hki : k = i := by simpa using hk
        subst hki
        rw [ho] at ho'
        injection ho' with ho'
        subst ho'
        exact .inl (hpr j hj)
    · have hadd := stF_add (s := fun k => s.getD k false) (s' := fun k => (s.setIfInBounds i true).getD k false) rs 0 i S j1 (by rw [Nat.zero_add]; exact hu) (by rw [Nat.zero_add]; show (s.setIfInBounds i true).getD i false = true; rw [set_getD (by omega)]; simp) (fun k hk => by
        show (s.setIfInBounds i true).getD k false = s.getD k false
        rw [set_getD (by omega)]
        have : (k == i) = false := by simp; omega
        rw [this, Bool.or_false]) (fun k b hik hb' hs => by
        rw [Nat.zero_add] at hs
        have hnc := later k b hik hb' hs
        simp only [noconf, Bool.and_eq_true] at hnc
        refine ⟨fun d hd => ?_, fun x hx => ?_⟩
        · have := hnc.2.1
          rw [hd] at this
          simp only [Bool.and_eq_true, Bool.not_eq_true'] at this
          intro e
          rw [e] at this
          simp at this
        · have := hnc.2.2.2
          rw [hx] at this
          simp only [Bool.and_eq_true, Bool.not_eq_true'] at this
          intro e
          rw [e] at this
          simp at this)
      rw [hadd, j2]
      exact h2
  · intro s a' w' hall hI
    obtain ⟨hz, hcl, hst⟩ := hI rfl
    refine hQ a' w' ?_
    rw [k2]
    rw [stF_congr rs 0 S (s' := fun _ => true) (fun k hk => by rw [Nat.zero_add]; exact hall k (by rw [← k1]; exact hk))] at hst
    exact hst
end
end Go.Proofs.YtifeacfljfmnpaaGreat
end

section
set_option maxRecDepth 100000
namespace Go.Proofs.YtifeacfljfmnpaaGreat
open Go.RowKit
inductive Tree where
  | leaf (l : List (Bool × List Chunk))
  | ite (b : BT) (t e : Tree)
def Tree.pick (E : Env) : Tree → List (Bool × List Chunk)
  | .leaf l => l
  | .ite b t e => if b.den E then t.pick E else e.pick E
inductive Ex where
  | norm
  | ret
  | exit (id : Nat)
def Ex.to : Ex → Exit
  | .norm => .normal
  | .ret => .ret
  | .exit id => .exit id
def BT.base : BT → BT
  | .not x => x.base
  | t => t
def needO (C : Cfg) (G : Asm) (ops : Array Oper) (S : St) (o : Oper) : Option BT :=
  let pk := match o.op with
    | .pick c _ _ => match opnd S.look c with
      | some (.val false [.b tt]) => match tt.ev G with | none => some tt.base | some _ => none
      | _ => none
    | .binOp _ _ x y _ => match opnd S.look x, opnd S.look y with
      | some (.val false [.b s]), some (.val false [.b t]) => match s.ev G with
        | none => some s.base
        | some _ => match t.ev G with | none => some t.base | some _ => none
      | _, _ => none
    | .call c => match c.callee with
      | .value f => match opnd S.look f with
        | some (.val false [.fn g]) => match opnds S.look c.args.toList with
          | some xs => C.need g xs (xs.map (memOf S.var)) G
          | none => none
        | _ => none
      | _ => none
    | _ => none
  match o.guard with
  | none => pk
  | some (j, _) => match (ops[j]?).bind (·.dst) with
    | some t => match S.look t with
      | some (.val false [.b tt]) => match tt.ev G with | none => some tt.base | some _ => pk
      | _ => pk
    | none => pk
def needE (C : Cfg) (G : Asm) (n : Nat) (ops : Array Oper) : List Oper → St → Option BT
  | [], _ => none
  | o :: l, S => match effE C G n ops S o with
    | some e => needE C G n ops l (S.app o.dst e)
    | none => needO C G ops S o
def regE (C : Cfg) (G : Asm) (n : Nat) (l : List Oper) (drawn : Bool) (S : St) : Option St :=
  if drawn then
    match recsE C G n l.toArray l S with
    | some (rs, S') => if okPairs 0 rs && backB 0 l then some S' else none
    | none => none
  else runE C G n l.toArray l S
def regT (C : Cfg) (n : Nat) (l : List Oper) (drawn : Bool) (k : Asm → St → Option Tree) : Nat → Asm → St → Option Tree
  | 0, _, _ => none
  | f + 1, G, S => match regE C G n l drawn S with
    | some S' => k G S'
    | none => match needE C G n l.toArray l S with
      | some b => match regT C n l drawn k f ((b, true) :: G) S, regT C n l drawn k f ((b, false) :: G) S with
        | some t, some e => some (.ite b t e)
        | _, _ => none
      | none => none
def St.drop (S : St) (d : Nat) : St where
  look t := match S.look t with
    | some (.ptr x off) => if x = d then none else some (.ptr x off)
    | o => o
  var x := if x = d then none else S.var x
theorem St.drop_holds {E : Env} {n B : Nat} {w0 : World} {S : St} {a : Act} {w : World} (h : S.holds E n B w0 a w) (d : Nat) : (S.drop d).holds E n B w0 a w := by
  obtain ⟨β, h⟩ := h
  have hl : ∀ t x, (S.drop d).look t = some x → S.look t = some x ∧ ∀ y off, x = .ptr y off → y ≠ d := by
    intro t x hx
    simp only [St.drop] at hx
    split at hx
    · rename_i y off hy
      split at hx
      · cases hx
      · rename_i hne
        injection hx with hx
        subst hx
        refine ⟨hy, fun y' off' e => ?_⟩
        injection e with e1 e2
        rw [← e1]; exact hne
    · rename_i hno
      exact ⟨hx, fun y off e => absurd (e ▸ hx) (hno y off)⟩
  have hv : ∀ x cs, (S.drop d).var x = some cs → S.var x = some cs ∧ x ≠ d := by
    intro x cs hx
    simp only [St.drop] at hx
    split at hx
    · cases hx
    · rename_i hne
      exact ⟨hx, hne⟩
  refine ⟨β, fun t x hx => h.sl t x (hl t x hx).1, fun x cs hx => h.vr x cs (hv x cs hx).1, fun x y hx hy => ?_, fun t x off hx => ?_, h.sz, h.nd, h.hp, h.bl, fun x cs hx => h.nz x cs (hv x cs hx).1⟩
  · obtain ⟨cs, hcs⟩ := Option.isSome_iff_exists.1 hx
    obtain ⟨ds, hds⟩ := Option.isSome_iff_exists.1 hy
    exact h.inj x y (by rw [(hv x cs hcs).1]; rfl) (by rw [(hv y ds hds).1]; rfl)
  · obtain ⟨h1, h2⟩ := hl t _ hx
    have hne := h2 x off rfl
    show (if x = d then none else S.var x).isSome = true
    rw [if_neg hne]
    exact h.wf t x off h1
def St.drops (S : St) : List Nat → St
  | [] => S
  | d :: l => (S.drop d).drops l
theorem St.drops_holds {E : Env} {n B : Nat} {w0 : World} {a : Act} {w : World} : ∀ (l : List Nat) {S : St}, S.holds E n B w0 a w → (S.drops l).holds E n B w0 a w
  | [], _, h => h
  | d :: l, _, h => St.drops_holds l (St.drop_holds h d)
def allocO (o : Oper) : List Nat :=
  match o.op, o.dst with
  | .alloc _, some d => [d]
  | .box _ _, some d => [d]
  | .buildSlice _ _ _, some d => [d]
  | _, _ => []
def allocs : Code → List Nat
  | .region _ ops _ => ops.toList.flatMap allocO
  | .seq a b => allocs a ++ allocs b
  | .block _ c => allocs c
  | .cond _ a b => allocs a ++ allocs b
  | _ => []
def loopE (l : List Nat) (step : (Asm → St → Ex → Option Tree) → Asm → St → Option Tree) (k : Asm → St → Ex → Option Tree) : Nat → Asm → St → Option Tree
  | 0, _, _ => none
  | f + 1, G, S => step (fun G S e => match e with | .norm => loopE l step k f G (S.drops l) | e => k G S e) G S
def exec (C : Cfg) (n : Nat) : Code → (Asm → St → Ex → Option Tree) → Asm → St → Option Tree
  | .skip, k, G, S => k G S .norm
  | .ret, k, G, S => k G S .ret
  | .exit id, k, G, S => k G S (.exit id)
  | .region _ ops drawn, k, G, S => regT C n ops.toList drawn (fun G S => k G S .norm) 64 G S
  | .seq a b, k, G, S => exec C n a (fun G S e => match e with | .norm => exec C n b k G S | e => k G S e) G S
  | .loop c, k, G, S => loopE (allocs c) (fun k G S => exec C n c k G S) k 40 G S
  | .block id c, k, G, S => exec C n c (fun G S e => match e with | .exit j => if j = id then k G S .norm else k G S (.exit j) | e => k G S e) G S
  | .cond c x y, k, G, S => match opnd S.look c with
    | some (.val false [.b tt]) => match tt.ev G with
      | some true => exec C n x k G S
      | some false => exec C n y k G S
      | none => match tt.ev ((tt.base, true) :: G), tt.ev ((tt.base, false) :: G) with
        | some b1, some b2 =>
          match (if b1 then exec C n x k ((tt.base, true) :: G) S else exec C n y k ((tt.base, true) :: G) S), (if b2 then exec C n x k ((tt.base, false) :: G) S else exec C n y k ((tt.base, false) :: G) S) with
          | some t, some e => some (.ite tt.base t e)
          | _, _ => none
        | _, _ => none
    | _ => none
  | _, _, _, _ => none

section
variable {P : Program} {E : Env} {n B : Nat} {w w0 : World} {a : Act} {C : Cfg}
theorem asm_cons {G : Asm} (hG : G.holds E) {b : BT} {v : Bool} (h : b.den E = v) : Asm.holds E ((b, v) :: G) := by
  intro p hp
  rcases List.mem_cons.1 hp with rfl | hp
  · exact h
  · exact hG p hp
theorem regE_sound (hm : P.follows .mixedOrders = true) (hC : CfgAt P E C B w0) {G : Asm} (hG : G.holds E) {id : Nat} {l : List Oper} {drawn : Bool} {S S' : St} {Q : Exit → Act → World → Prop} (h : S.holds E n B w0 a w)
    (hr : regE C G n l drawn S = some S') (hQ : ∀ a' w', S'.holds E n B w0 a' w' → Q .normal a' w') : (Code.region id l.toArray drawn).wp P Q a w := by
  unfold regE at hr
  cases drawn with
  | false =>
    simp only [Bool.false_eq_true, if_false] at hr
    exact wp_region_lit (runE_sound hC hG l S S' a w h hr hQ)
  | true =>
    simp only [if_true] at hr
    split at hr
    · rename_i rs S2 h2
      split at hr
      · rename_i hok
        rw [Bool.and_eq_true] at hok
        injection hr with hr
        subst hr
        exact drawn_sound hm hC hG h hok.2 h2 hok.1 hQ
      · cases hr
    · cases hr
theorem regT_sound (hm : P.follows .mixedOrders = true) (hC : CfgAt P E C B w0) {id : Nat} {l : List Oper} {drawn : Bool} {k : Asm → St → Option Tree} {Q : Exit → Act → World → Prop} : ∀ (f : Nat) (G : Asm) (S : St) (T : Tree), G.holds E → S.holds E n B w0 a w →
    regT C n l drawn k f G S = some T →
    (∀ G' S' T', k G' S' = some T' → G'.holds E → T.pick E = T'.pick E → ∀ a' w', S'.holds E n B w0 a' w' → Q .normal a' w') → (Code.region id l.toArray drawn).wp P Q a w
  | 0, _, _, _, _, _, h, _ => by simp [regT] at h
  | f + 1, G, S, T, hG, hS, h, hk => by
    unfold regT at h
    split at h
    · rename_i S' hS'
      exact regE_sound hm hC hG hS hS' (fun a' w' h' => hk G S' T h hG rfl a' w' h')
    · split at h
      · rename_i b hb
        split at h
        · rename_i t e ht he
          injection h with h
          subst h
          rcases hbv : b.den E with _ | _
          · exact regT_sound hm hC f _ S e (asm_cons hG hbv) hS he (fun G' S' T' h1 h2 h3 => hk G' S' T' h1 h2 (by rw [Tree.pick, hbv, if_neg (by simp)]; exact h3))
          · exact regT_sound hm hC f _ S t (asm_cons hG hbv) hS ht (fun G' S' T' h1 h2 h3 => hk G' S' T' h1 h2 (by rw [Tree.pick, hbv, if_pos rfl]; exact h3))
        · cases h
      · cases h
theorem exec_sound (hm : P.follows .mixedOrders = true) (hC : CfgAt P E C B w0) : ∀ (c : Code) (k : Asm → St → Ex → Option Tree) (Q : Exit → Act → World → Prop) (G : Asm) (S : St) (T : Tree) (a : Act) (w : World), G.holds E → S.holds E n B w0 a w →
    exec C n c k G S = some T →
    (∀ G' S' e T', k G' S' e = some T' → G'.holds E → T.pick E = T'.pick E → ∀ a' w', S'.holds E n B w0 a' w' → Q e.to a' w') → c.wp P Q a w := by
  intro c
  induction c with
  | skip => intro k Q G S T a w hG hS h hk; exact wp_skip (hk G S .norm T h hG rfl a w hS)
  | ret => intro k Q G S T a w hG hS h hk; exact wp_ret (hk G S .ret T h hG rfl a w hS)
  | exit id => intro k Q G S T a w hG hS h hk; exact wp_exit (hk G S (.exit id) T h hG rfl a w hS)
  | region id ops drawn =>
    intro k Q G S T a w hG hS h hk
    have := regT_sound (id := id) hm hC 64 G S T hG hS h (fun G' S' T' h1 h2 h3 a' w' h4 => hk G' S' .norm T' h1 h2 h3 a' w' h4)
    simpa using this
  | seq x y ihx ihy =>
    intro k Q G S T a w hG hS h hk
    refine wp_seq (ihx _ _ G S T a w hG hS h (fun G' S' e T' h1 h2 h3 a' w' h4 => ?_))
    cases e with
    | norm => exact ihy k Q G' S' T' a' w' h2 h4 h1 (fun G2 S2 e2 T2 j1 j2 j3 => hk G2 S2 e2 T2 j1 j2 (h3.trans j3))
    | ret => exact hk G' S' .ret T' h1 h2 h3 a' w' h4
    | exit id => exact hk G' S' (.exit id) T' h1 h2 h3 a' w' h4
  | block id c ih =>
    intro k Q G S T a w hG hS h hk
    refine wp_block (ih _ _ G S T a w hG hS h (fun G' S' e T' h1 h2 h3 a' w' h4 => ?_))
    cases e with
    | norm => exact hk G' S' .norm T' h1 h2 h3 a' w' h4
    | ret => exact hk G' S' .ret T' h1 h2 h3 a' w' h4
    | exit j =>
      simp only at h1
      show (if j = id then Q .normal a' w' else Q (.exit j) a' w')
      by_cases hj : j = id
      · rw [if_pos hj] at h1 ⊢
        exact hk G' S' .norm T' h1 h2 h3 a' w' h4
      · rw [if_neg hj] at h1 ⊢
        exact hk G' S' (.exit j) T' h1 h2 h3 a' w' h4
  | loop c ih =>
    intro k Q G S T a w hG hS h hk
    simp only [exec] at h
    have key : ∀ (f : Nat) (G : Asm) (S : St) (T : Tree) (a : Act) (w : World), G.holds E → S.holds E n B w0 a w → loopE (allocs c) (fun k G S => exec C n c k G S) k f G S = some T →
        (∀ G' S' e T', k G' S' e = some T' → G'.holds E → T.pick E = T'.pick E → ∀ a' w', S'.holds E n B w0 a' w' → Q e.to a' w') → Code.rounds P c Q f a w := by
      intro f
      induction f with
      | zero => intro G S T a w hG hS h hk; cases h
      | succ f ihf =>
        intro G S T a w hG hS h hk
        rw [rounds_succ]
        simp only [loopE] at h
        refine ih _ _ G S T a w hG hS h (fun G' S' e T' h1 h2 h3 a' w' h4 => ?_)
        cases e with
        | norm => exact ihf G' _ T' a' w' h2 (St.drops_holds _ h4) h1 (fun G2 S2 e2 T2 j1 j2 j3 => hk G2 S2 e2 T2 j1 j2 (h3.trans j3))
        | ret => exact hk G' S' .ret T' h1 h2 h3 a' w' h4
        | exit id => exact hk G' S' (.exit id) T' h1 h2 h3 a' w' h4
    exact wp_loop_rounds 40 (key 40 G S T a w hG hS h hk)
  | cond c x y ihx ihy =>
    intro k Q G S T a w hG hS h hk
    simp only [exec] at h
    split at h
    · rename_i tt hc
      obtain ⟨β, hS'⟩ := hS
      have hv := z13q (E := E) (β := β) (w := w) hS'.sl hc
      have hSS : S.holds E n B w0 a w := ⟨β, hS'⟩
      obtain ⟨⟨l1, r1, h1, h2, h3⟩, _⟩ := hv
      simp only [Chunk.holds] at h2
      simp only [chunks] at h3
      subst h2 h3
      injection h1 with h1
      split at h
      · rename_i hev
        rw [BT.ev_spec hG hev] at h1
        exact wp_cond_true h1 (ihx k Q G S T a w hG hSS h hk)
      · rename_i hev
        rw [BT.ev_spec hG hev] at h1
        exact wp_cond_false h1 (ihy k Q G S T a w hG hSS h hk)
      · split at h
        · rename_i b1 b2 e1 e2
          split at h
          · rename_i t e ht he
            injection h with h
            subst h
            rcases hbv : tt.base.den E with _ | _
            · have hG2 := asm_cons hG hbv
              rw [BT.ev_spec hG2 e2] at h1
              have hk2 : ∀ G' S' x T', k G' S' x = some T' → G'.holds E → e.pick E = T'.pick E → ∀ a' w', S'.holds E n B w0 a' w' → Q x.to a' w' := fun G' S' x T' j1 j2 j3 => hk G' S' x T' j1 j2 (by rw [Tree.pick, hbv, if_neg (by simp)]; exact j3)
              cases b2 with
              | true => exact wp_cond_true h1 (ihx k Q _ S e a w hG2 hSS he hk2)
              | false => exact wp_cond_false h1 (ihy k Q _ S e a w hG2 hSS he hk2)
            · have hG2 := asm_cons hG hbv
              rw [BT.ev_spec hG2 e1] at h1
              have hk2 : ∀ G' S' x T', k G' S' x = some T' → G'.holds E → t.pick E = T'.pick E → ∀ a' w', S'.holds E n B w0 a' w' → Q x.to a' w' := fun G' S' x T' j1 j2 j3 => hk G' S' x T' j1 j2 (by rw [Tree.pick, hbv, if_pos rfl]; exact j3)
              cases b1 with
              | true => exact wp_cond_true h1 (ihx k Q _ S t a w hG2 hSS ht hk2)
              | false => exact wp_cond_false h1 (ihy k Q _ S t a w hG2 hSS ht hk2)
          · cases h
        · cases h
    · cases h
  | _ => intro k Q G S T a w hG hS h hk; simp [exec] at h

def resE (C : Cfg) (S : St) : List ResultVar → Option (List (Bool × List Chunk))
  | [] => some []
  | r :: rs =>
    match (match r with
      | .tmp t => S.look t
      | .cell t ty => match S.look t with
        | some (.ptr x off) => if off < big then match S.var x with
          | some cs => loadE C cs off ty
          | none => none else none
        | _ => none), resE C S rs with
    | some (.val b cs), some l => some ((b, cs) :: l)
    | _, _ => none
def toAV : List (Bool × List Chunk) → AV
  | [p] => .val p.1 p.2
  | l => .tup l
def rv1 (tmps : Array Value) (r : ResultVar) : Sem Value :=
  match r with
  | .tmp t => pure (tmps.getD t Go.undef)
  | .cell a t => do loadVar t (← asAddr (tmps.getD a Go.undef))
theorem results_eq (fn : Func) (tmps : Array Value) : results fn tmps = (do let vs ← fn.results.mapM (rv1 tmps); pure (if h : vs.size = 1 then vs[0] else .tuple vs)) := by
  unfold results
  congr 1
theorem resE_one (hC : CfgOK P E C) {S : St} {β : Nat → Nat} (h : SH E n B w0 S β a w) {r : ResultVar} {b : Bool} {cs : List Chunk} (hr : (match r with
      | .tmp t => S.look t
      | .cell t ty => match S.look t with
        | some (.ptr x off) => if off < big then match S.var x with
          | some cs => loadE C cs off ty
          | none => none else none
        | _ => none) = some (.val b cs)) :
    ∃ v, (rv1 a.tmps r).run P w = .ok v w ∧ one E w (b, cs) v := by
  cases r with
  | tmp t => exact ⟨_, rfl, h.sl t _ hr⟩
  | cell t ty =>
    simp only at hr
    split at hr
    · rename_i x off hx
      split at hr
      rotate_left
      · cases hr
      rename_i hlt
      split at hr
      · rename_i ds hd
        have he : a.tmps.getD t Go.undef = .pointer (some ⟨β x, off, none⟩) := Eq.trans (AV.pv_of (h.sl t _ hx) (big_lt hlt)) (pv_lt hlt)
        obtain ⟨v, k1, k2⟩ := loadE_sound (β := β) hC hr (h.vr x ds hd).2
        refine ⟨v, ?_, k2⟩
        simp only [rv1, he]
        simp only [Instr.loadAt, Instr.sureAddr, Sem.run_bind, Sem.run_pure, Result.andThen_ok] at k1
        simp only [asAddr, Sem.run_bind, Sem.run_pure, Result.andThen_ok]
        exact k1
      · cases hr
    · cases hr
theorem resE_sound (hC : CfgOK P E C) {S : St} (h : S.holds E n B w0 a w) {fn : Func} {rs : List ResultVar} (hf : fn.results = rs.toArray) (h4 : rs.length ≤ 4) {l : List (Bool × List Chunk)} (hr : resE C S rs = some l) :
    ∃ β v, (results fn a.tmps).run P w = .ok v w ∧ (toAV l).holds E β w v := by
  obtain ⟨β, h⟩ := h
  have step : ∀ (r : ResultVar) (rs : List ResultVar) (l : List (Bool × List Chunk)), resE C S (r :: rs) = some l → ∃ b cs l', l = (b, cs) :: l' ∧ resE C S rs = some l' ∧
      ∃ v, (rv1 a.tmps r).run P w = .ok v w ∧ one E w (b, cs) v := by
    intro r rs l hr
    unfold resE at hr
    split at hr
    · rename_i b cs l' h1 h2
      injection hr with hr
      exact ⟨b, cs, l', hr.symm, h2, resE_one hC h h1⟩
    · cases hr
  match rs, h4 with
  | [], _ =>
    simp only [resE] at hr
    injection hr with hr
    subst hr
    exact ⟨β, .tuple #[], by simp [results, hf], [], rfl, rfl⟩
  | [r1], _ =>
    obtain ⟨b1, c1, l1, rfl, hr1, v1, e1, o1⟩ := step _ _ _ hr
    simp only [resE] at hr1
    injection hr1 with hr1
    subst hr1
    exact ⟨β, v1, by rw [results_eq, hf]; simp [e1], o1⟩
  | [r1, r2], _ =>
    obtain ⟨b1, c1, l1, rfl, hr1, v1, e1, o1⟩ := step _ _ _ hr
    obtain ⟨b2, c2, l2, rfl, hr2, v2, e2, o2⟩ := step _ _ _ hr1
    simp only [resE] at hr2
    injection hr2 with hr2
    subst hr2
    exact ⟨β, .tuple #[v1, v2], by rw [results_eq, hf]; simp [e1, e2], [v1, v2], rfl, v1, _, rfl, o1, v2, _, rfl, o2, rfl⟩
  | [r1, r2, r3], _ =>
    obtain ⟨b1, c1, l1, rfl, hr1, v1, e1, o1⟩ := step _ _ _ hr
    obtain ⟨b2, c2, l2, rfl, hr2, v2, e2, o2⟩ := step _ _ _ hr1
    obtain ⟨b3, c3, l3, rfl, hr3, v3, e3, o3⟩ := step _ _ _ hr2
    simp only [resE] at hr3
    injection hr3 with hr3
    subst hr3
    exact ⟨β, .tuple #[v1, v2, v3], by rw [results_eq, hf]; simp [e1, e2, e3], [v1, v2, v3], rfl, v1, _, rfl, o1, v2, _, rfl, o2, v3, _, rfl, o3, rfl⟩
  | [r1, r2, r3, r4], _ =>
    obtain ⟨b1, c1, l1, rfl, hr1, v1, e1, o1⟩ := step _ _ _ hr
    obtain ⟨b2, c2, l2, rfl, hr2, v2, e2, o2⟩ := step _ _ _ hr1
    obtain ⟨b3, c3, l3, rfl, hr3, v3, e3, o3⟩ := step _ _ _ hr2
    obtain ⟨b4, c4, l4, rfl, hr4, v4, e4, o4⟩ := step _ _ _ hr3
    simp only [resE] at hr4
    injection hr4 with hr4
    subst hr4
    exact ⟨β, .tuple #[v1, v2, v3, v4], by rw [results_eq, hf]; simp [e1, e2, e3, e4], [v1, v2, v3, v4], rfl, v1, _, rfl, o1, v2, _, rfl, o2, v3, _, rfl, o3, v4, _, rfl, o4, rfl⟩

def funE (C : Cfg) (fn : Func) (G : Asm) (args : List AV) : Option Tree :=
  match fn.body with
  | some c => exec C fn.ntmps c (fun _ S e => match e with
    | .norm => (resE C S fn.results.toList).map .leaf
    | .ret => (resE C S fn.results.toList).map .leaf
    | .exit _ => none) G ⟨fun t => args[t]?, fun _ => none⟩
  | none => none
def noPtr : AV → Bool
  | .ptr _ _ => false
  | _ => true
theorem z5q (hm : P.follows .mixedOrders = true) (hC : CfgOK P E C) {G : Asm} (hG : G.holds E) {f : FuncId} {fn : Func} (hf : P.funcs[f]? = some fn) (h4 : fn.results.toList.length ≤ 4) {args : List AV} {T : Tree} (hT : funE C fn G args = some T) (hn : args.length ≤ fn.ntmps) (hnp : args.all noPtr = true)
    (w : World) (vs : List Value) (hl : vs.length = args.length) (hv : ∀ (i : Nat) (x : AV), args[i]? = some x → ∃ β v, vs[i]? = some v ∧ x.holds E β w v) (hwk : ∀ w', Ext w w' → C.wok w' := by intros; exact True.intro) :
    Calls P f vs.toArray w fun e w' => ∃ β v, e = .returned v ∧ (toAV (T.pick E)).holds E β w' v ∧ Ext w w' := by
  unfold funE at hT
  split at hT
  · rename_i c hb
    refine calls_of_wp hf hb ?_
    refine exec_sound (B := w.heap.size) (w0 := w) (n := fn.ntmps) hm ⟨hC, hwk⟩ c _ _ G _ T _ w hG ⟨fun _ => 0, ?_⟩ hT ?_
    · refine ⟨fun t x hx => ?_, fun x cs h => (by cases h), fun x y h => (by cases h), fun t x off h => ?_, ?_, rfl, Nat.le_refl _, Below.refl _ _, fun x cs h => (by cases h)⟩
      · obtain ⟨β, v, h1, h2⟩ := hv t x hx
        have hlt := (List.getElem?_eq_some_iff.1 h1).1
        have e : (vs.toArray ++ Array.replicate (fn.ntmps - vs.toArray.size) Go.undef).getD t Go.undef = v := by
          rw [Array.getD_eq_getD_getElem?, Array.getElem?_append_left (by simpa using hlt)]
          simp [h1]
        rw [e]
        have hnp' : noPtr x = true := List.all_eq_true.1 hnp x (List.mem_of_getElem? hx)
        cases x with
        | ptr y off => cases hnp'
        | _ => exact h2
      · have hnp' : noPtr (.ptr x off) = true := List.all_eq_true.1 hnp _ (List.mem_of_getElem? h)
        cases hnp'
      · simp; omega
    · intro G' S' e T' h1 h2 h3 a' w' h4'
      have fin : (resE C S' fn.results.toList).map Tree.leaf = some T' → a'.defers = [] ∧ ∃ v, (results fn a'.tmps).run P w' = .ok v w' ∧ (∃ β v', Ending.returned v = .returned v' ∧ (toAV (T.pick E)).holds E β w' v' ∧ Ext w w') := by
        intro hh
        obtain ⟨l, hl, rfl⟩ := Option.map_eq_some_iff.1 hh
        obtain ⟨β, v, r1, r2⟩ := resE_sound hC h4' (fn := fn) (rs := fn.results.toList) (by simp) h4 hl
        obtain ⟨β', hS⟩ := h4'
        exact ⟨hS.nd, v, r1, β, v, rfl, by rw [h3]; exact r2, hS.bl⟩
      cases e with
      | norm => exact fin h1
      | ret => exact fin h1
      | exit id => cases h1
  · cases hT
def funR (C : Cfg) (fn : Func) (G : Asm) (cs : List Chunk) (off : Nat) : Option Tree :=
  match fn.body with
  | some c => exec C fn.ntmps c (fun _ S e => match e with
    | .norm => (resE C S fn.results.toList).map .leaf
    | .ret => (resE C S fn.results.toList).map .leaf
    | .exit _ => none) G ⟨fun t => if t = 0 then some (.ptr ro off) else none, fun x => if x = ro then some cs else none⟩
  | none => none
theorem row_sound (hm : P.follows .mixedOrders = true) (hC : CfgOK P E C) {G : Asm} (hG : G.holds E) {f : FuncId} {fn : Func} (hf : P.funcs[f]? = some fn) (h4 : fn.results.toList.length ≤ 4) {cs : List Chunk} {off : Nat} {T : Tree} (hT : funR C fn G cs off = some T) (hn : 1 ≤ fn.ntmps)
    (w : World) (b : Nat) (hcs : VarAt E w b cs) (h0 : sizes cs ≠ 0) (hwk : ∀ w', Ext w w' → C.wok w' := by intros; exact True.intro) (hof : off < big2 := by (unfold big2; simp only [big]; omega)) :
    Calls P f #[pv b off] w fun e w' => ∃ β v, e = .returned v ∧ (toAV (T.pick E)).holds E β w' v ∧ Ext w w' := by
  unfold funR at hT
  split at hT
  · rename_i c hb
    refine calls_of_wp hf hb ?_
    refine exec_sound (B := w.heap.size) (w0 := w) (n := fn.ntmps) hm ⟨hC, hwk⟩ c _ _ G _ T _ w hG ⟨fun _ => b, ?_⟩ hT ?_
    · refine ⟨fun t x hx => ?_, fun x ds h => ?_, fun x y hx hy _ => ?_, fun t x off' h => ?_, ?_, rfl, Nat.le_refl _, Below.refl _ _, fun x ds h => ?_⟩
      · simp only at hx
        split at hx
        · rename_i ht
          injection hx with hx
          subst hx ht
          refine AV.of_pv ?_ hof
          show Array.getD _ 0 _ = pv b off
          rw [Array.getD_eq_getD_getElem?, Array.getElem?_append_left (by simp)]
          simp
        · cases hx
      · simp only at h
        split at h
        · rename_i hx
          injection h with h
          subst h
          exact ⟨fun hlt => absurd hlt (by omega), hcs⟩
        · cases h
      · simp only at hx hy
        split at hx
        · split at hy
          · rename_i e1 e2; rw [e1, e2]
          · cases hy
        · cases hx
      · simp only at h
        split at h
        · injection h with h
          injection h with h1 h2
          subst h1
          simp
        · cases h
      · simp; omega
      · simp only at h
        split at h
        · injection h with h; subst h; exact h0
        · cases h
    · intro G' S' e T' h1 h2 h3 a' w' h4'
      have fin : (resE C S' fn.results.toList).map Tree.leaf = some T' → a'.defers = [] ∧ ∃ v, (results fn a'.tmps).run P w' = .ok v w' ∧ (∃ β v', Ending.returned v = .returned v' ∧ (toAV (T.pick E)).holds E β w' v' ∧ Ext w w') := by
        intro hh
        obtain ⟨l, hl, rfl⟩ := Option.map_eq_some_iff.1 hh
        obtain ⟨β, v, r1, r2⟩ := resE_sound hC h4' (fn := fn) (rs := fn.results.toList) (by simp) h4 hl
        obtain ⟨β', hS⟩ := h4'
        exact ⟨hS.nd, v, r1, β, v, rfl, by rw [h3]; exact r2, hS.bl⟩
      cases e with
      | norm => exact fin h1
      | ret => exact fin h1
      | exit id => cases h1
  · cases hT
end
end Go.Proofs.YtifeacfljfmnpaaGreat
end

section
set_option maxRecDepth 100000
namespace Go.Proofs.YtifeacfljfmnpaaGreat
open Go.RowKit
abbrev Con := List AV → Asm → Option AV
structure ConOK (P : Program) (E : Env) (f : Nat) (k : Con) : Prop where
  calls : ∀ args G r, k args G = some r → G.holds E → ∀ (β : Nat → Nat) (w : World) (vs : List Value), (∀ (i : Nat) (x : AV), args[i]? = some x → ∃ v, vs[i]? = some v ∧ x.holds E β w v) → vs.length = args.length →
    Calls P f vs.toArray w (fun e w' => ∃ v, e = .returned v ∧ r.holds E β w' v ∧ Ext w w')
  nptr : ∀ args G r, k args G = some r → ∀ x off, r ≠ .ptr x off
  body : ∃ fn, P.funcs[f]? = some fn ∧ fn.name ≠ "runtime.NumGoroutine" ∧ fn.body.isNone = false
def tabE : List (Nat × Con) → Nat → List AV → Asm → Option AV
  | [], _, _, _ => none
  | p :: l, f, args, G => if p.1 == f then p.2 args G else tabE l f args G
theorem tabE_mem {l : List (Nat × Con)} {f : Nat} {args : List AV} {G : Asm} {r : AV} (h : tabE l f args G = some r) : ∃ k, (f, k) ∈ l ∧ k args G = some r := by
  induction l with
  | nil => simp [tabE] at h
  | cons p l ih =>
    unfold tabE at h
    split at h
    · rename_i hp
      have : p.1 = f := by simpa using hp
      exact ⟨p.2, by rw [← this]; simp, h⟩
    · obtain ⟨k, h1, h2⟩ := ih h
      exact ⟨k, List.mem_cons_of_mem _ h1, h2⟩
structure TabOK (P : Program) (E : Env) (l : List (Nat × Con)) : Prop where
  all : ∀ p ∈ l, ConOK P E p.1 p.2
theorem TabOK.nil {P : Program} {E : Env} : TabOK P E [] := ⟨fun p h => by simp at h⟩
theorem TabOK.cons {P : Program} {E : Env} {f : Nat} {k : Con} {l : List (Nat × Con)} (h : ConOK P E f k) (t : TabOK P E l) : TabOK P E ((f, k) :: l) := ⟨fun p hp => by
  rcases List.mem_cons.1 hp with rfl | hp
  · exact h
  · exact t.all p hp⟩
section
variable {P : Program} {E : Env} {β : Nat → Nat} {w : World}
theorem z10q {t : IT} {l : Nat} {v : Value} : one E w (true, [.int t l]) v ↔ IsInt w v (t.den E) ∧ Lim l (t.den E) := by
  constructor
  · rintro ⟨vs, rfl, a, r, h1, ⟨x, y, rfl, hI, hl⟩, h3⟩
    simp only [chunks] at h3
    subst h3
    rw [List.append_nil] at h1
    subst h1
    exact ⟨hI, hl⟩
  · rintro ⟨hI, hl⟩
    obtain ⟨ao, cap, rfl, h1, h2, h3⟩ := hI
    exact ⟨[_, _], rfl, [_, _], [], rfl, ⟨_, _, rfl, ⟨ao, cap, rfl, h1, h2, h3⟩, hl⟩, rfl⟩
theorem z9q {k : IntKind} {t : IT} {v : Value} : one E w (false, [.n k t]) v ↔ v = .int k (t.den E) := by
  constructor
  · rintro ⟨⟨a, r, h1, h2, h3⟩, _⟩
    simp only [Chunk.holds] at h2
    simp only [chunks] at h3
    subst h2 h3
    injection h1
  · rintro rfl
    exact ⟨⟨[_], [], rfl, rfl, rfl⟩, rfl⟩
theorem z11q {t : BT} {v : Value} : one E w (false, [.b t]) v ↔ v = .bool (t.den E) := by
  constructor
  · rintro ⟨⟨a, r, h1, h2, h3⟩, _⟩
    simp only [Chunk.holds] at h2
    simp only [chunks] at h3
    subst h2 h3
    injection h1
  · rintro rfl
    exact ⟨⟨[_], [], rfl, rfl, rfl⟩, rfl⟩
theorem args1 {x : AV} {vs : List Value} (h : ∀ (i : Nat) (y : AV), [x][i]? = some y → ∃ v, vs[i]? = some v ∧ y.holds E β w v) (hl : vs.length = [x].length) : ∃ v, vs = [v] ∧ x.holds E β w v := by
  obtain ⟨v, h1, h2⟩ := h 0 x rfl
  match vs, hl, h1 with
  | [u], _, h1 => injection h1 with h1; subst h1; exact ⟨u, rfl, h2⟩
theorem args2 {x y : AV} {vs : List Value} (h : ∀ (i : Nat) (z : AV), [x, y][i]? = some z → ∃ v, vs[i]? = some v ∧ z.holds E β w v) (hl : vs.length = [x, y].length) : ∃ v u, vs = [v, u] ∧ x.holds E β w v ∧ y.holds E β w u := by
  obtain ⟨v, h1, h2⟩ := h 0 x rfl
  obtain ⟨u, h3, h4⟩ := h 1 y rfl
  match vs, hl, h1, h3 with
  | [a, b], _, h1, h3 =>
    injection h1 with h1
    injection h3 with h3
    subst h1 h3
    exact ⟨a, b, rfl, h2, h4⟩
end
def lo (l : Nat) : Bool := decide (l ≤ 400000)
def kII (g : IT → IT → IT) (lm : Nat → Nat → Nat) : Con
  | [.val true [.int x l], .val true [.int y m]], _ => if lo l && lo m then some (.val true [.int (g x y) (lm l m)]) else none
  | _, _ => none
def kIIn (g : IT → IT → IT) : Con
  | [.val true [.int x l], .val true [.int y m]], _ => if lo l && lo m then some (.val false [.n .i64 (g x y)]) else none
  | _, _ => none
def kI (g : IT → IT) (lm : Nat → Nat) : Con
  | [.val true [.int x l]], _ => if lo l then some (.val true [.int (g x) (lm l)]) else none
  | _, _ => none
def kIn (g : IT → IT) : Con
  | [.val true [.int x _]], _ => some (.val false [.n .i64 (g x)])
  | _, _ => none
def kIb (g : IT → BT) : Con
  | [.val true [.int x _]], _ => some (.val false [.b (g x)])
  | _, _ => none
def k0 (t : IT) (l : Nat) : Con
  | [], _ => some (.val true [.int t l])
  | _, _ => none
theorem kII_ok {P : Program} {E : Env} {f : Nat} {g : IT → IT → IT} {lm : Nat → Nat → Nat} (G : Int → Int → Int) (hg : ∀ x y, (g x y).den E = G (x.den E) (y.den E))
    (hc : ∀ (w : World) (v1 v2 : Value) (z1 z2 : Int) (l m : Nat), IsInt w v1 z1 → IsInt w v2 z2 → Lim l z1 → Lim m z2 → l ≤ 400000 → m ≤ 400000 → Calls P f #[v1, v2] w (Ret (fun v w' => IsInt w' v (G z1 z2)) w))
    (hl : ∀ z1 z2 l m, Lim l z1 → Lim m z2 → Lim (lm l m) (G z1 z2)) (hb : ∃ fn, P.funcs[f]? = some fn ∧ fn.name ≠ "runtime.NumGoroutine" ∧ fn.body.isNone = false) : ConOK P E f (kII g lm) := by
  refine ⟨?_, ?_, hb⟩
  · intro args As r h hG β w vs hv hlen
    unfold kII at h
    split at h
    · rename_i x l y m
      split at h
      · rename_i hlo
        injection h with h
        subst h
        simp only [lo, Bool.and_eq_true, decide_eq_true_iff] at hlo
        obtain ⟨v, u, rfl, h1, h2⟩ := args2 hv hlen
        obtain ⟨i1, l1⟩ := z10q.1 h1
        obtain ⟨i2, l2⟩ := z10q.1 h2
        refine (hc w v u _ _ l m i1 i2 l1 l2 hlo.1 hlo.2).mono ?_
        rintro e w' ⟨v', rfl, hI, ex⟩
        exact ⟨v', rfl, z10q.2 (by rw [hg]; exact ⟨hI, hl _ _ _ _ l1 l2⟩), ex⟩
      · cases h
    · cases h
  · intro args As r h x off
    unfold kII at h
    split at h
    · split at h
      · injection h with h; subst h; intro e; cases e
      · cases h
    · cases h
theorem kIIn_ok {P : Program} {E : Env} {f : Nat} {g : IT → IT → IT} (G : Int → Int → Int) (hg : ∀ x y, (g x y).den E = G (x.den E) (y.den E))
    (hc : ∀ (w : World) (v1 v2 : Value) (z1 z2 : Int), IsInt w v1 z1 → IsInt w v2 z2 → Calls P f #[v1, v2] w (fun e w' => e = .returned (.int .i64 (G z1 z2)) ∧ Ext w w'))
    (hb : ∃ fn, P.funcs[f]? = some fn ∧ fn.name ≠ "runtime.NumGoroutine" ∧ fn.body.isNone = false) : ConOK P E f (kIIn g) := by
  refine ⟨?_, ?_, hb⟩
  · intro args As r h hG β w vs hv hlen
    unfold kIIn at h
    split at h
    · rename_i x l y m
      split at h
      · injection h with h
        subst h
        obtain ⟨v, u, rfl, h1, h2⟩ := args2 hv hlen
        refine (hc w v u _ _ (z10q.1 h1).1 (z10q.1 h2).1).mono ?_
        rintro e w' ⟨rfl, ex⟩
        exact ⟨_, rfl, z9q.2 (by rw [hg]), ex⟩
      · cases h
    · cases h
  · intro args As r h x off
    unfold kIIn at h
    split at h
    · split at h
      · injection h with h; subst h; intro e; cases e
      · cases h
    · cases h
theorem kI_ok {P : Program} {E : Env} {f : Nat} {g : IT → IT} {lm : Nat → Nat} (G : Int → Int) (hg : ∀ x, (g x).den E = G (x.den E))
    (hc : ∀ (w : World) (v1 : Value) (z1 : Int) (l : Nat), IsInt w v1 z1 → Lim l z1 → l ≤ 400000 → Calls P f #[v1] w (Ret (fun v w' => IsInt w' v (G z1)) w))
    (hl : ∀ z1 l, Lim l z1 → Lim (lm l) (G z1)) (hb : ∃ fn, P.funcs[f]? = some fn ∧ fn.name ≠ "runtime.NumGoroutine" ∧ fn.body.isNone = false) : ConOK P E f (kI g lm) := by
  refine ⟨?_, ?_, hb⟩
  · intro args As r h hG β w vs hv hlen
    unfold kI at h
    split at h
    · rename_i x l
      split at h
      · rename_i hlo
        injection h with h
        subst h
        simp only [lo, decide_eq_true_iff] at hlo
        obtain ⟨v, rfl, h1⟩ := args1 hv hlen
        obtain ⟨i1, l1⟩ := z10q.1 h1
        refine (hc w v _ l i1 l1 hlo).mono ?_
        rintro e w' ⟨v', rfl, hI, ex⟩
        exact ⟨v', rfl, z10q.2 (by rw [hg]; exact ⟨hI, hl _ _ l1⟩), ex⟩
      · cases h
    · cases h
  · intro args As r h x off
    unfold kI at h
    split at h
    · split at h
      · injection h with h; subst h; intro e; cases e
      · cases h
    · cases h
theorem kIn_ok {P : Program} {E : Env} {f : Nat} {g : IT → IT} (G : Int → Int) (hg : ∀ x, (g x).den E = G (x.den E))
    (hc : ∀ (w : World) (v1 : Value) (z1 : Int), IsInt w v1 z1 → Calls P f #[v1] w (fun e w' => e = .returned (.int .i64 (G z1)) ∧ Ext w w'))
    (hb : ∃ fn, P.funcs[f]? = some fn ∧ fn.name ≠ "runtime.NumGoroutine" ∧ fn.body.isNone = false) : ConOK P E f (kIn g) := by
  refine ⟨?_, ?_, hb⟩
  · intro args As r h hG β w vs hv hlen
    unfold kIn at h
    split at h
    · injection h with h
      subst h
      obtain ⟨v, rfl, h1⟩ := args1 hv hlen
      refine (hc w v _ (z10q.1 h1).1).mono ?_
      rintro e w' ⟨rfl, ex⟩
      exact ⟨_, rfl, z9q.2 (by rw [hg]), ex⟩
    · cases h
  · intro args As r h x off
    unfold kIn at h
    split at h
    · injection h with h; subst h; intro e; cases e
    · cases h
theorem kIb_ok {P : Program} {E : Env} {f : Nat} {g : IT → BT} (G : Int → Bool) (hg : ∀ x, (g x).den E = G (x.den E))
    (hc : ∀ (w : World) (v1 : Value) (z1 : Int), IsInt w v1 z1 → Calls P f #[v1] w (fun e w' => e = .returned (.bool (G z1)) ∧ Ext w w'))
    (hb : ∃ fn, P.funcs[f]? = some fn ∧ fn.name ≠ "runtime.NumGoroutine" ∧ fn.body.isNone = false) : ConOK P E f (kIb g) := by
  refine ⟨?_, ?_, hb⟩
  · intro args As r h hG β w vs hv hlen
    unfold kIb at h
    split at h
    · injection h with h
      subst h
      obtain ⟨v, rfl, h1⟩ := args1 hv hlen
      refine (hc w v _ (z10q.1 h1).1).mono ?_
      rintro e w' ⟨rfl, ex⟩
      exact ⟨_, rfl, z11q.2 (by rw [hg]), ex⟩
    · cases h
  · intro args As r h x off
    unfold kIb at h
    split at h
    · injection h with h; subst h; intro e; cases e
    · cases h
theorem k0_ok {P : Program} {E : Env} {f : Nat} {t : IT} {l : Nat} (z : Int) (hg : t.den E = z)
    (hc : ∀ (w : World), Calls P f #[] w (Ret (fun v w' => IsInt w' v z) w))
    (hl : Lim l z) (hb : ∃ fn, P.funcs[f]? = some fn ∧ fn.name ≠ "runtime.NumGoroutine" ∧ fn.body.isNone = false) : ConOK P E f (k0 t l) := by
  refine ⟨?_, ?_, hb⟩
  · intro args As r h hG β w vs hv hlen
    unfold k0 at h
    split at h
    · injection h with h
      subst h
      obtain rfl : vs = [] := by simpa using hlen
      refine (hc w).mono ?_
      rintro e w' ⟨v', rfl, hI, ex⟩
      exact ⟨v', rfl, z10q.2 (by rw [hg]; exact ⟨hI, hl⟩), ex⟩
    · cases h
  · intro args As r h x off
    unfold k0 at h
    split at h
    · injection h with h; subst h; intro e; cases e
    · cases h

end Go.Proofs.YtifeacfljfmnpaaGreat
end

section
set_option maxRecDepth 100000
namespace Go.Proofs.YtifeacfljfmnpaaGreat
structure Pat (H L h l a b c d : Int) : Prop where
  a0 : 0 ≤ a
  b0 : b ≤ 0
  c0 : c ≤ 0
  d0 : 0 ≤ d
  hb : d * h - b * l = H
  lb : a * l - c * h = L
def Led (X Y a b c d Z V : Int) : Prop := Z = a * X + b * Y ∧ V = c * X + d * Y

theorem quo_bounds {u v q : Int} (hv : 0 < v) (hq : q = u / v) : q * v ≤ u ∧ u < (q + 1) * v := by
  subst hq
  exact ⟨Int.ediv_mul_le u (Int.ne_of_gt hv), Int.lt_ediv_add_one_mul_self u hv⟩
theorem quo_nonneg {u v q : Int} (hu : 0 ≤ u) (hv : 0 < v) (hq : q = u / v) : 0 ≤ q := by
  subst hq; exact Int.ediv_nonneg hu (Int.le_of_lt hv)

section
variable {H L h l a b c d X Y N x' y' Z V q : Int}
theorem Pat.quo (P : Pat H L h l a b c d) (hh : h = a * H + b * L) (hl : l = c * H + d * L) (hX : X = H * N + x') (hY : Y = L * N + y') (hx0 : 0 ≤ x') (hx1 : x' ≤ N) (hy0 : 0 ≤ y') (hy1 : y' ≤ N) (hN : 0 < N)
    (hd : Led X Y a b c d Z V) (k1 : 0 < l + c) (k2 : 0 < l + d) (k3 : 0 ≤ h + a) (e1 : q = (h + a) / (l + c)) (e2 : q = (h + b) / (l + d)) :
    0 < V ∧ q * V ≤ Z ∧ Z < (q + 1) * V ∧ 0 ≤ q := by
  obtain ⟨hZ, hV⟩ := hd
  have hq0 := quo_nonneg k3 k1 e1
  have b1 := quo_bounds k1 e1
  have b2 := quo_bounds k2 e2
  have ez : Z = h * N + (a * x' + b * y') := by
    rw [hZ, hX, hY, hh]
    simp only [Int.mul_add, Int.add_mul, Int.mul_assoc]
    omega
  have ev : V = l * N + (c * x' + d * y') := by
    rw [hV, hX, hY, hl]
    simp only [Int.mul_add, Int.add_mul, Int.mul_assoc]
    omega
  have m1 : a * x' ≤ a * N := Int.mul_le_mul_of_nonneg_left hx1 P.a0
  have m2 : 0 ≤ a * x' := Int.mul_nonneg P.a0 hx0
  have m3 : b * y' ≤ 0 := Int.mul_nonpos_of_nonpos_of_nonneg P.b0 hy0
  have m4 : b * N ≤ b * y' := Int.mul_le_mul_of_nonpos_left P.b0 hy1
  have m5 : c * x' ≤ 0 := Int.mul_nonpos_of_nonpos_of_nonneg P.c0 hx0
  have m6 : c * N ≤ c * x' := Int.mul_le_mul_of_nonpos_left P.c0 hx1
  have m7 : d * y' ≤ d * N := Int.mul_le_mul_of_nonneg_left hy1 P.d0
  have m8 : 0 ≤ d * y' := Int.mul_nonneg P.d0 hy0
  have z1 : Z ≤ (h + a) * N := by rw [Int.add_mul]; omega
  have z2 : (h + b) * N ≤ Z := by rw [Int.add_mul]; omega
  have v1 : V ≤ (l + d) * N := by rw [Int.add_mul]; omega
  have v2 : (l + c) * N ≤ V := by rw [Int.add_mul]; omega
  have v0 : 0 < (l + c) * N := Int.mul_pos k1 hN
  refine ⟨by omega, ?_, ?_, hq0⟩
  · have w1 : q * V ≤ q * ((l + d) * N) := Int.mul_le_mul_of_nonneg_left v1 hq0
    have w2 : q * (l + d) * N ≤ (h + b) * N := Int.mul_le_mul_of_nonneg_right b2.1 (Int.le_of_lt hN)
    rw [Int.mul_assoc] at w2
    omega
  · have w1 : (q + 1) * ((l + c) * N) ≤ (q + 1) * V := Int.mul_le_mul_of_nonneg_left v2 (by omega)
    have w2 : (h + a) * N < (q + 1) * (l + c) * N := Int.mul_lt_mul_of_pos_right b1.2 hN
    rw [Int.mul_assoc] at w2
    omega
theorem Pat.next (P : Pat H L h l a b c d) (k1 : 0 < l + c) (k2 : 0 < l + d) (k3 : 0 ≤ h + a) (e1 : q = (h + a) / (l + c)) (e2 : q = (h + b) / (l + d)) :
    Pat L H l (h - q * l) d c (b - q * d) (a - q * c) ∧ 0 ≤ a - q * c ∧ a - q * c < l ∧ q * d - b ≤ h - q * l ∧ h - q * l < l ∧ 0 ≤ q * d - b := by
  have hq0 := quo_nonneg k3 k1 e1
  have b1 := (quo_bounds k1 e1).2
  have b2 := (quo_bounds k2 e2).1
  have n1 : q * c ≤ 0 := Int.mul_nonpos_of_nonneg_of_nonpos hq0 P.c0
  have n2 : 0 ≤ q * d := Int.mul_nonneg hq0 P.d0
  have a0 := P.a0
  have b0 := P.b0
  have c0 := P.c0
  have d0 := P.d0
  rw [Int.add_mul, Int.mul_add] at b1
  rw [Int.mul_add] at b2
  refine ⟨⟨d0, c0, by omega, by omega, ?_, ?_⟩, by omega, by omega, by omega, by omega, by omega⟩
  · rw [← P.lb, Int.sub_mul, Int.mul_sub]
    have : c * (q * l) = q * c * l := by rw [Int.mul_left_comm, Int.mul_assoc]
    omega
  · rw [← P.hb, Int.sub_mul, Int.mul_sub]
    have : d * (q * l) = q * d * l := by rw [Int.mul_left_comm, Int.mul_assoc]
    omega
end
theorem small_factor {u l H B : Int} (hu : u ≤ l) (h0 : 0 ≤ u) (h : u * l ≤ H) (hH : H < B * B) (hB : 0 ≤ B) : u < B := by
  rcases (show u < B ∨ B ≤ u by omega) with hlt | hge
  · exact hlt
  · have h1 : B * B ≤ u * u := Int.mul_le_mul hge hge hB h0
    have h2 : u * u ≤ u * l := Int.mul_le_mul_of_nonneg_left hu h0
    omega

structure Leh (X Y N H L h l a b c d : Int) : Prop where
  pat : Pat H L h l a b c d ∨ Pat L H h l b a d c
  hh : h = a * H + b * L
  hl : l = c * H + d * L
  k3 : 0 ≤ h + a
  k4 : 0 ≤ h + b
  l0 : 0 ≤ l
  lh : l ≤ h
  hH : h ≤ H
  ba : -1000000000 < a ∧ a < 1000000000
  bb : -1000000000 < b ∧ b < 1000000000
  bc : -1000000000 < c ∧ c < 1000000000
  bd : -1000000000 < d ∧ d < 1000000000
  gcd : Int.gcd (a * X + b * Y) (c * X + d * Y) = Int.gcd X Y
  v0 : 0 ≤ c * X + d * Y
  vz : c * X + d * Y ≤ a * X + b * Y
  zX : a * X + b * Y ≤ X
  vY : c * X + d * Y ≤ Y
  low : b ≠ 0 → c * X + d * Y < Y

theorem Leh.start {X Y N H L : Int} (h0 : 0 ≤ L) (hLH : L ≤ H) (hY0 : 0 ≤ Y) (hYX : Y ≤ X) : Leh X Y N H L H L 1 0 0 1 where
  pat := .inl ⟨by omega, by omega, by omega, by omega, by omega, by omega⟩
  hh := by omega
  hl := by omega
  k3 := by omega
  k4 := by omega
  l0 := h0
  lh := hLH
  hH := by omega
  ba := by omega
  bb := by omega
  bc := by omega
  bd := by omega
  gcd := by simp
  v0 := by omega
  vz := by omega
  zX := by omega
  vY := by omega
  low := by omega

theorem gcd_step (Z V q : Int) : Int.gcd V (Z - q * V) = Int.gcd Z V := by
  rw [Int.gcd_sub_mul_right_right, Int.gcd_comm]

theorem Leh.facts {X Y N H L h l a b c d q : Int} (I : Leh X Y N H L h l a b c d) {x' y' : Int} (hX : X = H * N + x') (hY : Y = L * N + y') (hx0 : 0 ≤ x') (hx1 : x' ≤ N) (hy0 : 0 ≤ y') (hy1 : y' ≤ N) (hN : 0 < N)
    (hL : L ≤ H) (hH : H < 1000000000000000000) (k1 : 0 < l + c) (k2 : 0 < l + d) (e1 : q = (h + a) / (l + c)) (e2 : q = (h + b) / (l + d)) :
    Leh X Y N H L l (h - q * l) c d (a - q * c) (b - q * d) ∧ 0 ≤ q ∧ h - q * l < l ∧ (-1000000000 < q * c ∧ q * c < 1000000000) ∧ (-1000000000 < q * d ∧ q * d < 1000000000) ∧ 0 ≤ q * l ∧ q * l ≤ h := by
  have hq0 := quo_nonneg I.k3 k1 e1
  have hl0 := I.l0
  have hlh := I.lh
  have hhH := I.hH
  have fit : ∀ u l', u ≤ l' → 0 ≤ u → (u * l' ≤ H ∨ u * l' ≤ L) → u < 1000000000 := by
    intro u l' h1 h2 h3
    rcases h3 with h3 | h3
    · exact small_factor h1 h2 h3 (B := 1000000000) (by omega) (by omega)
    · exact small_factor h1 h2 h3 (B := 1000000000) (by omega) (by omega)
  have main : (0 < c * X + d * Y ∧ q * (c * X + d * Y) ≤ a * X + b * Y ∧ a * X + b * Y < (q + 1) * (c * X + d * Y)) ∧
      (Pat H L l (h - q * l) c d (a - q * c) (b - q * d) ∨ Pat L H l (h - q * l) d c (b - q * d) (a - q * c)) ∧
      (0 ≤ h - q * l ∧ h - q * l < l) ∧ (-1000000000 < a - q * c ∧ a - q * c < 1000000000) ∧ (-1000000000 < b - q * d ∧ b - q * d < 1000000000) ∧
      (-1000000000 < q * c ∧ q * c < 1000000000) ∧ (-1000000000 < q * d ∧ q * d < 1000000000) := by
    rcases I.pat with P | P
    · obtain ⟨v1, v2, v3, _⟩ := P.quo I.hh I.hl hX hY hx0 hx1 hy0 hy1 hN ⟨rfl, rfl⟩ k1 k2 I.k3 e1 e2
      obtain ⟨P', n1, n2, n3, n4, n5⟩ := P.next k1 k2 I.k3 e1 e2
      have hb' := P'.hb
      have lb' := P'.lb
      have p1 : 0 ≤ c * (h - q * l) * -1 := by
        have := Int.mul_nonpos_of_nonpos_of_nonneg P.c0 (show 0 ≤ h - q * l by omega)
        omega
      have p2 : 0 ≤ d * (h - q * l) := Int.mul_nonneg P.d0 (by omega)
      have f1 := fit (a - q * c) l (by omega) n1 (.inr (by omega))
      have e : (q * d - b) * l = -((b - q * d) * l) := by rw [← Int.neg_mul]; congr 1; omega
      have f2 := fit (q * d - b) l (by omega) n5 (.inl (by rw [e]; omega))
      have n6 : q * c ≤ 0 := Int.mul_nonpos_of_nonneg_of_nonpos hq0 P.c0
      have n7 : 0 ≤ q * d := Int.mul_nonneg hq0 P.d0
      have a0 := P.a0
      have b0 := P.b0
      exact ⟨⟨v1, v2, v3⟩, .inr P', ⟨by omega, n4⟩, ⟨by omega, f1⟩, ⟨by omega, by omega⟩, ⟨by omega, by omega⟩, by omega, by omega⟩
    · have e1' : q = (h + b) / (l + d) := e2
      have hX' : Y = L * N + y' := hY
      have hd : Led Y X b a d c (a * X + b * Y) (c * X + d * Y) := ⟨Int.add_comm _ _, Int.add_comm _ _⟩
      obtain ⟨v1, v2, v3, _⟩ := P.quo (by rw [I.hh]; omega) (by rw [I.hl]; omega) hY hX hy0 hy1 hx0 hx1 hN hd k2 k1 I.k4 e2 e1
      obtain ⟨P', n1, n2, n3, n4, n5⟩ := P.next k2 k1 I.k4 e2 e1
      have hb' := P'.hb
      have lb' := P'.lb
      have p1 : 0 ≤ d * (h - q * l) * -1 := by
        have := Int.mul_nonpos_of_nonpos_of_nonneg P.c0 (show 0 ≤ h - q * l by omega)
        omega
      have p2 : 0 ≤ c * (h - q * l) := Int.mul_nonneg P.d0 (by omega)
      have f1 := fit (b - q * d) l (by omega) n1 (.inl (by omega))
      have e : (q * c - a) * l = -((a - q * c) * l) := by rw [← Int.neg_mul]; congr 1; omega
      have f2 := fit (q * c - a) l (by omega) n5 (.inr (by rw [e]; omega))
      have n6 : q * d ≤ 0 := Int.mul_nonpos_of_nonneg_of_nonpos hq0 P.c0
      have n7 : 0 ≤ q * c := Int.mul_nonneg hq0 P.d0
      have a0 := P.a0
      have b0 := P.b0
      exact ⟨⟨v1, v2, v3⟩, .inl P', ⟨by omega, n4⟩, ⟨by omega, by omega⟩, ⟨by omega, f1⟩, ⟨by omega, by omega⟩, by omega, by omega⟩
  obtain ⟨⟨v1, v2, v3⟩, hp, ⟨l1, l2⟩, g1, g2, g3, g4⟩ := main
  have ev : (a - q * c) * X + (b - q * d) * Y = (a * X + b * Y) - q * (c * X + d * Y) := by
    rw [Int.sub_mul, Int.sub_mul, Int.mul_add, Int.mul_assoc, Int.mul_assoc]; omega
  have vz := I.vz
  have zX := I.zX
  rw [Int.add_mul] at v3
  have hVY := I.vY
  refine ⟨?_, hq0, l2, g3, g4, Int.mul_nonneg hq0 hl0, by omega⟩
  refine { pat := hp, hh := I.hl, hl := ?_, k3 := by omega, k4 := by omega, l0 := l1, lh := by omega, hH := by omega, ba := I.bc, bb := I.bd, bc := g1, bd := g2, gcd := ?_, v0 := ?_, vz := ?_, zX := by omega, vY := ?_, low := ?_ }
  · rw [I.hh, I.hl, Int.sub_mul, Int.sub_mul, Int.mul_add, Int.mul_assoc, Int.mul_assoc]; omega
  · rw [ev, gcd_step]; exact I.gcd
  · rw [ev]; omega
  · rw [ev]; omega
  · rw [ev]; omega
  · intro _; rw [ev]; omega

end Go.Proofs.YtifeacfljfmnpaaGreat
end

section
set_option maxRecDepth 100000
namespace Go.Proofs.YtifeacfljfmnpaaGreat
open Go.RowKit
def CombRel (w : World) (g : Nat) (xs ys : List Nat) (p q : Int) (k : Nat) (c : Int) (zs : List Nat) (wr : World) : Prop :=
  zs.length = xs.length ∧ Dig zs ∧ Blk wr g zs ∧ Ext w wr ∧ ((val (zs.take k) : Nat) : Int) + ((1000000000 ^ k : Nat) : Int) * c = p * ((val (xs.take k) : Nat) : Int) + q * ((val (ys.take k) : Nat) : Int) ∧
    -3000000000 ≤ c ∧ c ≤ 3000000000
section
variable {w : World} {g : Nat} {xs ys : List Nat} {p q : Int} {k : Nat} {c : Int} {zs : List Nat} {wr : World}
theorem CombRel.step (h : CombRel w g xs ys p q k c zs wr) (hg : w.heap.size ≤ g) (hk : k < xs.length) (c' : Int) (d : Nat) (hd : d < 1000000000)
    (he : (d : Int) + 1000000000 * c' = c + p * ((xs.getD k 0 : Nat) : Int) + q * ((ys.getD k 0 : Nat) : Int)) (h1 : -3000000000 ≤ c') (h2 : c' ≤ 3000000000) {V : Int} (hV : V = d) :
    CombRel w g xs ys p q (k + 1) c' (zs.set k d) (wr.setCell ⟨g, k, none⟩ (.int .u32 V)) := by
  obtain ⟨e1, e2, e3, e4, e5, _, _⟩ := h
  refine ⟨by simpa using e1, e2.set k hd, e3.set' k d (by omega) hV, e4.setCell (p := ⟨g, k, none⟩) hg _, ?_, h1, h2⟩
  rw [val_take_set _ _ _ (by omega), val_take_succ' xs, val_take_succ' ys, Nat.pow_succ]
  generalize 1000000000 ^ k = P at *
  generalize xs.getD k 0 = x at *
  generalize ys.getD k 0 = y at *
  generalize val (zs.take k) = A at *
  generalize val (xs.take k) = X at *
  generalize val (ys.take k) = Y at *
  have e : (P : Int) * ((d : Int) + 1000000000 * c') = (P : Int) * (c + p * (x : Int) + q * (y : Int)) := by rw [he]
  simp only [Int.natCast_add, Int.natCast_mul, Int.mul_add] at e e5 ⊢
  rw [show ((1000000000 : Nat) : Int) = 1000000000 from rfl]
  have m1 : (P : Int) * (p * (x : Int)) = p * ((P : Int) * (x : Int)) := Int.mul_left_comm _ _ _
  have m2 : (P : Int) * (q * (y : Int)) = q * ((P : Int) * (y : Int)) := Int.mul_left_comm _ _ _
  have m3 : (P : Int) * (1000000000 * c') = (P : Int) * 1000000000 * c' := (Int.mul_assoc _ _ _).symm
  omega
theorem CombRel.done (h : CombRel w g xs ys p q xs.length c zs wr) (hy : ys.length ≤ xs.length) {Z : Nat} (hZ : (Z : Int) = p * ((val xs : Nat) : Int) + q * ((val ys : Nat) : Int)) (hlt : Z < 1000000000 ^ xs.length) : val zs = Z := by
  obtain ⟨e1, e2, e3, e4, e5, _, _⟩ := h
  rw [List.take_of_length_le (by omega), List.take_of_length_le (Nat.le_refl _), List.take_of_length_le hy, ← hZ] at e5
  have hb := val_lt e2
  rw [e1] at hb
  generalize 1000000000 ^ xs.length = P at *
  rcases Int.lt_trichotomy c 0 with h1 | h1 | h1
  · have := Int.mul_le_mul_of_nonneg_left (show c ≤ -1 by omega) (show (0 : Int) ≤ (P : Int) by omega)
    omega
  · subst h1; omega
  · have := Int.mul_le_mul_of_nonneg_left (show 1 ≤ c by omega) (show (0 : Int) ≤ (P : Int) by omega)
    omega
end
theorem prod_bounds {p : Int} (hp : -1000000000 < p ∧ p < 1000000000) {x : Nat} (hx : x < 1000000000) : -1000000000000000000 ≤ p * (x : Int) ∧ p * (x : Int) ≤ 1000000000000000000 := by
  rcases Int.lt_or_le p 0 with h | h
  · have h1 : (-p) * (x : Int) ≤ 1000000000 * 1000000000 := Int.mul_le_mul (by omega) (by omega) (by omega) (by omega)
    have h2 : 0 ≤ (-p) * (x : Int) := Int.mul_nonneg (by omega) (by omega)
    rw [Int.neg_mul] at h1 h2
    omega
  · have h1 : p * (x : Int) ≤ 1000000000 * 1000000000 := Int.mul_le_mul (by omega) (by omega) (by omega) (by omega)
    have h2 : 0 ≤ p * (x : Int) := Int.mul_nonneg h (by omega)
    omega

set_option maxRecDepth 100000 in
set_option maxHeartbeats 1600000 in
theorem combine_calls (w : World) (ax ay : Option Addr) (xs ys : List Nat) (cx cy : Nat) (p q : Int) (Z : Nat) (lx : xs.length ≤ 1099511627776) (hyx : ys.length ≤ xs.length) (hx : Cells w ax xs) (hy : Cells w ay ys) (dx : Dig xs) (dy : Dig ys)
    (hp : -1000000000 < p ∧ p < 1000000000) (hq : -1000000000 < q ∧ q < 1000000000) (hZ : (Z : Int) = p * ((val xs : Nat) : Int) + q * ((val ys : Nat) : Int)) (hlt : Z < 1000000000 ^ xs.length) :
    Calls Tryz.prog 249 #[.slice ax xs.length cx, .slice ay ys.length cy, .int .i64 p, .int .i64 q] w (Ret (IsLimbs Z) w) := by
  have hmk := run_mk xs.length (by omega) ↑xs.length (by omega)
  have HZ := Lib.hid (And.intro hZ hlt)
  have HP := Lib.hid (And.intro hp hq)
  clear hZ hlt hp hq
  go_enter Tryz.func249, Tryz.ntmps249
  go_wp2
  clear hmk
  have h0 : CombRel w w.heap.size xs ys p q 0 0 (List.replicate xs.length 0) (w.alloc (.cells (u32s (List.replicate xs.length 0)) 149)) :=
    ⟨by simp, Dig.replicate _, Blk.new _ _, (Ext.refl w).alloc _, by simp [val], by omega, by omega⟩
  go_loopw [10, 11, 12, 13, 19] (fun c _ _ _ n wr => ∃ (k : Nat) (cv : Int) (zs : List Nat), k ≤ xs.length ∧ n = .int .i64 k ∧ c = .int .i64 cv ∧ CombRel w w.heap.size xs ys p q k cv zs wr) (fun _ _ _ _ n _ => xs.length - (intOf n).toNat)
  case atStart => exact ⟨0, 0, _, Nat.zero_le _, rfl, rfl, h0⟩
  case round =>
    obtain ⟨k, cv, zs, hk, rfl, rfl, hR⟩ := hrel
    clear h0
    by_cases hk2 : k < xs.length
    · have hzc := hR.2.2.1.cell k (by have := hR.1; omega)
      have hzf := hR.2.2.1.frozen k
      obtain ⟨b1, o1, rfl, hx1⟩ := hx.at_ (by omega)
      have hcx := hR.2.2.2.1.cell (hx1 k hk2)
      have bx0 := dx k
      have by0 := dy k
      have c1 := hR.2.2.2.2.2.1
      have c2 := hR.2.2.2.2.2.2
      have hst := fun c' d hd he h1 h2 V hV => hR.step (Nat.le_refl _) hk2 c' d hd he h1 h2 (V := V) hV
      obtain ⟨M, hM⟩ : ∃ M : Int, M = p * ((xs.getD k 0 : Nat) : Int) := ⟨_, rfl⟩
      obtain ⟨N, hN⟩ : ∃ N : Int, N = q * ((ys.getD k 0 : Nat) : Int) := ⟨_, rfl⟩
      obtain ⟨m1, m2⟩ := prod_bounds HP.out.1 bx0
      obtain ⟨n1, n2⟩ := prod_bounds HP.out.2 by0
      rw [← hM] at m1 m2
      rw [← hN] at n1 n2
      obtain ⟨T, hT⟩ : ∃ T : Int, T = cv + M + N := ⟨_, rfl⟩
      rw [← hM, ← hN, ← hT] at hst
      obtain ⟨q1, hq1⟩ : ∃ q1 : Int, q1 = T.tdiv 1000000000 := ⟨_, rfl⟩
      obtain ⟨r1, hr1⟩ : ∃ r1 : Int, r1 = T.tmod 1000000000 := ⟨_, rfl⟩
      have hqr := Int.tmod_add_mul_tdiv T 1000000000
      have hrl := Int.tmod_lt_of_pos T (show (0 : Int) < 1000000000 by omega)
      have hrg : -1000000000 < r1 := by rw [hr1]; have := Int.lt_tmod_of_pos T (show (0 : Int) < 1000000000 by omega); omega
      rw [← hq1, ← hr1] at hqr
      rw [← hr1] at hrl
      have HST := Lib.hid hst
      have HT := Lib.hid (And.intro hT (And.intro hqr (And.intro m1 (And.intro m2 (And.intro n1 n2)))))
      have hN0 : ¬ k < ys.length → N = 0 := fun h => by rw [hN, List.getD_eq_getElem?_getD, List.getElem?_eq_none (by omega)]; simp
      have hMI := hM.symm
      have kn : (k : Int) < (xs.length : Int) := by omega
      have hrT := hr1.symm
      have hqT := hq1.symm
      have b1 : (-1000000000000000001 : Int) ≤ M := by omega
      have b2 : M ≤ (1000000000000000002 : Int) := by omega
      have b3 : (-1000000000000000003 : Int) ≤ N := by omega
      have b4 : N ≤ (1000000000000000004 : Int) := by omega
      clear hst hT hqr hM hr1 hq1 m1 m2 n1 n2
      by_cases hky : k < ys.length
      · obtain ⟨b2', o2, rfl, hy1⟩ := hy.at_ (by omega)
        have hcy := hR.2.2.2.1.cell (hy1 k hky)
        have hNI := hN.symm
        have kny : (k : Int) < (ys.length : Int) := by omega
        have HH := HT.out
        have t1 : cv + M + N = T := by omega
        have t2 : (-3000000000000000005 : Int) ≤ T := by omega
        have t3 : T ≤ (3000000000000000006 : Int) := by omega
        have HQ := Lib.hid (show -2999999990 ≤ q1 ∧ q1 ≤ 2999999990 by omega)
        have u1 : (-2999999991 : Int) ≤ q1 := by have := HQ.out.1; omega
        have u2 : q1 ≤ (2999999992 : Int) := by have := HQ.out.2; omega
        have bx : ((xs.getD k 0 : Nat) : Int) ≤ 999999999 := by omega
        have by_ : ((ys.getD k 0 : Nat) : Int) ≤ 1000000001 := by omega
        clear hN hN0 hx1 hy1 hR bx0 by0 HH
        generalize xs.getD k 0 = x at *
        generalize ys.getD k 0 = y at *
        by_cases hr : r1 < 0
        · obtain ⟨d, hd⟩ : ∃ d : Nat, r1 + 1000000000 = (d : Int) := ⟨(r1 + 1000000000).toNat, by omega⟩
          have hd2 : (d : Int) < 1000000000 := by omega
          have HS := Lib.hid (HST.out (q1 - 1) d (by omega) (by have := HT.out; omega) (by have := HQ.out; omega) (by have := HQ.out; omega) d rfl)
          go_wp2
          go_roundw
          case rel => exact ⟨k + 1, _, _, by omega, by go_num, rfl, HS.out⟩
          case measure => simp [intOf]; omega
        · obtain ⟨d, hd⟩ : ∃ d : Nat, r1 = (d : Int) := ⟨r1.toNat, by omega⟩
          have hd2 : (d : Int) < 1000000000 := by omega
          have HS := Lib.hid (HST.out q1 d (by omega) (by have := HT.out; omega) (by have := HQ.out; omega) (by have := HQ.out; omega) d rfl)
          rw [hd] at hrT hr
          clear hd hrl hrg
          go_wp2
          go_roundw
          case rel => exact ⟨k + 1, _, _, by omega, by go_num, rfl, HS.out⟩
          case measure => simp [intOf]; omega
      · have HN := Lib.hid (hN0 hky)
        have t1 : cv + M = T := by have := HT.out; have := HN.out; omega
        have t2 : (-3000000000000000005 : Int) ≤ T := by omega
        have t3 : T ≤ (3000000000000000006 : Int) := by omega
        have HQ := Lib.hid (show -2999999990 ≤ q1 ∧ q1 ≤ 2999999990 by have := HT.out; omega)
        have u1 : (-2999999991 : Int) ≤ q1 := by have := HQ.out.1; omega
        have u2 : q1 ≤ (2999999992 : Int) := by have := HQ.out.2; omega
        have kny : (ys.length : Int) ≤ (k : Int) := by omega
        have bx : ((xs.getD k 0 : Nat) : Int) ≤ 999999999 := by omega
        clear hN hN0 hx1 hR bx0 by0
        generalize xs.getD k 0 = x at *
        generalize ys.getD k 0 = y at *
        by_cases hr : r1 < 0
        · obtain ⟨d, hd⟩ : ∃ d : Nat, r1 + 1000000000 = (d : Int) := ⟨(r1 + 1000000000).toNat, by omega⟩
          have hd2 : (d : Int) < 1000000000 := by omega
          have HS := Lib.hid (HST.out (q1 - 1) d (by omega) (by have := HT.out; omega) (by have := HQ.out; omega) (by have := HQ.out; omega) d rfl)
          go_wp2
          go_roundw
          case rel => exact ⟨k + 1, _, _, by omega, by go_num, rfl, HS.out⟩
          case measure => simp [intOf]; omega
        · obtain ⟨d, hd⟩ : ∃ d : Nat, r1 = (d : Int) := ⟨r1.toNat, by omega⟩
          have hd2 : (d : Int) < 1000000000 := by omega
          have HS := Lib.hid (HST.out q1 d (by omega) (by have := HT.out; omega) (by have := HQ.out; omega) (by have := HQ.out; omega) d rfl)
          rw [hd] at hrT hr
          clear hd hrl hrg
          go_wp2
          go_roundw
          case rel => exact ⟨k + 1, _, _, by omega, by go_num, rfl, HS.out⟩
          case measure => simp [intOf]; omega
    · obtain rfl : k = xs.length := by omega
      have hD := hR.done hyx HZ.out.1 HZ.out.2
      have hE := hR.2.2.2.1
      have hT := trim_calls wr (some ⟨w.heap.size, 0, none⟩) zs zs.length (Nat.le_refl _) (by rw [hR.1]; omega) hR.2.2.1.cells hR.2.1
      have hF := hR.2.2.1.cells.trim hR.2.1
      have hl : (limbs (val zs)).length ≤ zs.length := by rw [← trimN_length hR.2.1]; exact trimN_le _ _
      rw [hD] at hT hF hl
      rw [hR.1] at hT hl
      have T := Lib.hid hT
      have HF := Lib.hid (And.intro hF hl)
      clear hR hT hF hl hD
      go_wp2_with fail
      refine T.out.mono ?_
      rintro e w' ⟨rfl, rfl⟩
      go_wp2
      go_ret
      exact ⟨_, rfl, ⟨_, _, rfl, HF.out.2, by omega, HF.out.1⟩, hE⟩

end Go.Proofs.YtifeacfljfmnpaaGreat
end

section
set_option maxRecDepth 100000
namespace Go.Proofs.YtifeacfljfmnpaaGreat
open Go.RowKit
def Four (w : World) (g : Nat) (a b c d : Int) : Prop :=
  (w.cell? ⟨g, 0, none⟩ = some (.int .i64 a) ∧ w.cell? ⟨g, 1, none⟩ = some (.int .i64 b) ∧ w.cell? ⟨g, 2, none⟩ = some (.int .i64 c) ∧ w.cell? ⟨g, 3, none⟩ = some (.int .i64 d)) ∧
  (w.frozen? ⟨g, 0, none⟩ = false ∧ w.frozen? ⟨g, 1, none⟩ = false ∧ w.frozen? ⟨g, 2, none⟩ = false ∧ w.frozen? ⟨g, 3, none⟩ = false)
section
variable {w w' : World} {g : Nat} {a b c d : Int}
theorem four_new (w : World) (a b c d : Int) (t : TypeId) : Four (w.alloc (.cells #[.int .i64 a, .int .i64 b, .int .i64 c, .int .i64 d] t)) w.heap.size a b c d := by
  refine ⟨⟨by simp, by simp, by simp, by simp⟩, ?_⟩
  refine ⟨?_, ?_, ?_, ?_⟩
  all_goals
    show (match (w.heap.push _)[w.heap.size]? with | some (.cells _ _ (lo, hi)) => _ | _ => _) = _
    rw [Array.getElem?_push_size]; rfl
theorem Four.ext (h : Four w g a b c d) (e : Ext w w') : Four w' g a b c d := by
  obtain ⟨⟨h0, h1, h2, h3⟩, f0, f1, f2, f3⟩ := h
  exact ⟨⟨e.cell h0, e.cell h1, e.cell h2, e.cell h3⟩, e.frozen (z0q h0) f0, e.frozen (z0q h1) f1, e.frozen (z0q h2) f2, e.frozen (z0q h3) f3⟩
theorem Four.far (h : Four w g a b c d) {g' : Nat} (hg : g' ≠ g) (i : Nat) (v : Value) : Four (w.setCell ⟨g', i, none⟩ v) g a b c d := by
  obtain ⟨⟨h0, h1, h2, h3⟩, f0, f1, f2, f3⟩ := h
  refine ⟨⟨?_, ?_, ?_, ?_⟩, by simpa using f0, by simpa using f1, by simpa using f2, by simpa using f3⟩
  all_goals rw [World.cell?_setCell_far _ _ _ _ hg]
  · exact h0
  · exact h1
  · exact h2
  · exact h3
theorem Four.put (h : Four w g a b c d) (a' b' c' d' : Int) :
    Four ((((w.setCell ⟨g, 0, none⟩ (.int .i64 a')).setCell ⟨g, 1, none⟩ (.int .i64 b')).setCell ⟨g, 2, none⟩ (.int .i64 c')).setCell ⟨g, 3, none⟩ (.int .i64 d')) g a' b' c' d' := by
  obtain ⟨⟨h0, h1, h2, h3⟩, f0, f1, f2, f3⟩ := h
  have o : ∀ (w : World) (i j : Nat) (v : Value), i ≠ j → (w.setCell ⟨g, i, none⟩ v).cell? ⟨g, j, none⟩ = w.cell? ⟨g, j, none⟩ := fun w i j v hij => World.cell?_setCell_other _ _ _ _ (by intro e; injection e with _ e; exact hij e)
  refine ⟨⟨?_, ?_, ?_, ?_⟩, by simpa using f0, by simpa using f1, by simpa using f2, by simpa using f3⟩
  · rw [o _ _ _ _ (by decide), o _ _ _ _ (by decide), o _ _ _ _ (by decide)]
    exact World.cell?_setCell_same _ _ _ h0
  · rw [o _ _ _ _ (by decide), o _ _ _ _ (by decide)]
    exact World.cell?_setCell_same _ _ _ (u := .int .i64 b) (by rw [o _ _ _ _ (by decide)]; exact h1)
  · rw [o _ _ _ _ (by decide)]
    exact World.cell?_setCell_same _ _ _ (u := .int .i64 c) (by rw [o _ _ _ _ (by decide), o _ _ _ _ (by decide)]; exact h2)
  · exact World.cell?_setCell_same _ _ _ (u := .int .i64 d) (by rw [o _ _ _ _ (by decide), o _ _ _ _ (by decide), o _ _ _ _ (by decide)]; exact h3)
theorem Ext.put4 {w0 : World} (h : Ext w0 w) (hg : w0.heap.size ≤ g) (v0 v1 v2 v3 : Value) : Ext w0 ((((w.setCell ⟨g, 0, none⟩ v0).setCell ⟨g, 1, none⟩ v1).setCell ⟨g, 2, none⟩ v2).setCell ⟨g, 3, none⟩ v3) :=
  (((h.setCell (p := ⟨g, 0, none⟩) hg _).setCell (p := ⟨g, 1, none⟩) hg _).setCell (p := ⟨g, 2, none⟩) hg _).setCell (p := ⟨g, 3, none⟩) hg _
end
def RetLead (X Y N H L : Int) (w : World) (e : Ending) (w' : World) : Prop :=
  ∃ a b c d h l, e = .returned (.agg #[.int .i64 a, .int .i64 b, .int .i64 c, .int .i64 d]) ∧ Leh X Y N H L h l a b c d ∧ Ext w w'

theorem lead_parts (xs : List Nat) (k : Nat) (dx : Dig xs) : ∃ x', x' < 1000000000 ^ k ∧ val xs = val (xs.drop k) * 1000000000 ^ k + x' := by
  rcases Nat.lt_or_ge k xs.length with h | h
  · refine ⟨val (xs.take k), ?_, ?_⟩
    · have := val_lt (dx.take k)
      rwa [List.length_take, Nat.min_eq_left (by omega)] at this
    · rw [val_split xs k (by omega), Nat.mul_comm, Nat.add_comm]
  · refine ⟨val xs, Nat.lt_of_lt_of_le (val_lt dx) (Nat.pow_le_pow_right (by omega) h), ?_⟩
    rw [List.drop_of_length_le h]; simp [val]

set_option maxRecDepth 100000 in
set_option maxHeartbeats 3200000 in
theorem leadingSteps_calls (w : World) (b off : Nat) (ay : Option Addr) (xs ys : List Nat) (cx cy k : Nat) (hk : xs.length = k + 2) (lx : xs.length ≤ 1048576) (hyx : ys.length ≤ xs.length) (kx : xs.length ≤ cx) (bx : cx ≤ 9223372036854775807) (ky : ys.length ≤ cy) (by_ : cy ≤ 9223372036854775807)
    (hx : Cells w (some ⟨b, off, none⟩) xs) (dx : Dig xs) (hy : Cells w ay ys) (dy : Dig ys) (hle : val ys ≤ val xs) :
    Calls Tryz.prog 248 #[.slice (some ⟨b, off, none⟩) (k + 2) cx, .slice ay ys.length cy] w
      (RetLead (val xs : Nat) (val ys : Nat) ((1000000000 ^ k : Nat) : Int) (val (xs.drop k) : Nat) (val (ys.drop k) : Nat) w) := by
  obtain ⟨x', hx1, hx2⟩ := lead_parts xs k dx
  obtain ⟨y', hy1, hy2⟩ := lead_parts ys k dy
  have hH : val (xs.drop k) < 1000000000000000000 := by
    have := val_lt (dx.drop k)
    rw [List.length_drop, show xs.length - k = 2 by omega] at this
    exact this
  have hLH : val (ys.drop k) ≤ val (xs.drop k) := by
    rcases Nat.lt_or_ge (val (xs.drop k)) (val (ys.drop k)) with h | h
    · exfalso
      have := Nat.mul_le_mul_right (1000000000 ^ k) (show val (xs.drop k) + 1 ≤ val (ys.drop k) from h)
      rw [Nat.add_mul] at this
      omega
    · exact h
  have hv1 := fun W (e : Ext w W) => valueOf_calls W (some ⟨b, off + k, none⟩) (xs.drop k) (cx - k) (by rw [List.length_drop]; omega) (by omega) ((hx.drop k).ext e) (by omega)
  rw [List.length_drop, show xs.length - k = 2 by omega] at hv1
  obtain ⟨X, hX⟩ : ∃ X, X = val xs := ⟨_, rfl⟩
  obtain ⟨Y, hY⟩ : ∃ Y, Y = val ys := ⟨_, rfl⟩
  obtain ⟨H, hHe⟩ : ∃ H, H = val (xs.drop k) := ⟨_, rfl⟩
  obtain ⟨L, hLe⟩ : ∃ L, L = val (ys.drop k) := ⟨_, rfl⟩
  obtain ⟨N, hN⟩ : ∃ N, N = 1000000000 ^ k := ⟨_, rfl⟩
  have hN0 : 0 < N := by rw [hN]; exact Nat.pow_pos (by omega)
  rw [← hX, ← hHe, ← hN] at hx2
  rw [← hY, ← hLe, ← hN] at hy2
  rw [← hN] at hx1 hy1
  rw [← hHe] at hv1 hH
  rw [← hHe, ← hLe] at hLH
  rw [← hX, ← hY] at hle
  rw [← hX, ← hY, ← hHe, ← hLe, ← hN]
  have I0 : Leh (X : Int) Y N H L H L 1 0 0 1 := Leh.start (by omega) (by omega) (by omega) (by omega)
  have HF := Lib.hid (fun (h l a b c d q : Int) (I : Leh (X : Int) Y N H L h l a b c d) (k1 : 0 < l + c) (k2 : 0 < l + d) (e1 : q = (h + a) / (l + c)) (e2 : q = (h + b) / (l + d)) =>
    I.facts (x' := x') (y' := y') (by rw [hx2]; simp) (by rw [hy2]; simp) (by omega) (by omega) (by omega) (by omega) (by omega) (by omega) (by omega) k1 k2 e1 e2)
  have HV1 := Lib.hid hv1
  have hkI : (k : Int) ≤ 1048576 := by omega
  have HI0 := Lib.hid I0
  have hHI : (H : Int) ≤ 999999999999999999 := by omega
  have hLI : (L : Int) ≤ 1000000000000000001 := by omega
  have k1 : ¬ cx = k := by omega
  have k3 : (k : Int) + 2 ≤ (cx : Int) := by omega
  have hyl : (ys.length : Int) ≤ (k : Int) + 2 := by omega
  have HY := Lib.hid (And.intro hLe (And.intro hy (And.intro dy (And.intro ky by_))))
  have HHw := Lib.hid (show H < 1000000000000000000 from hH)
  clear hX hY hHe hLe hN hx2 hy2 hx1 hy1 hv1 hH hLH hle I0 hk hyx kx bx dx hx hN0 hy dy
  go_enter Tryz.func248, Tryz.ntmps248
  go_upto_region 2 with fail
  obtain ⟨W, hW⟩ : ∃ W, W = w.alloc (.cells #[.int .i64 0, .int .i64 0, .int .i64 0, .int .i64 0] 204) := ⟨_, rfl⟩
  have eW : Ext w W := by rw [hW]; exact (Ext.refl w).alloc _
  have F4 : Four W w.heap.size 0 0 0 0 := by rw [hW]; exact four_new w 0 0 0 0 _
  have hz : W.heap.size = w.heap.size + 1 := by rw [hW]; simp
  rw [← hW]
  have HZ := Lib.hid hz
  clear hW hz
  go_wp2_with fail
  refine (HV1.out W eW).mono ?_
  rintro e w' ⟨rfl, rfl⟩
  go_upto_if 21 with fail
  go_cut [7] (fun t wx => t = .int .i64 (L : Int) ∧ W = wx)
  case first =>
    by_cases hky : k < ys.length
    · obtain ⟨b', off', rfl, _⟩ := HY.out.2.1.at_ (by omega)
      have hl := val_lt (HY.out.2.2.1.drop k)
      rw [List.length_drop] at hl
      have hl2 : val (ys.drop k) < 1000000000000000000 := Nat.lt_of_lt_of_le hl (Nat.pow_le_pow_right (by omega) (show ys.length - k ≤ 2 by omega))
      have hv2 := valueOf_calls W (some ⟨b', off' + k, none⟩) (ys.drop k) (cy - k) (by rw [List.length_drop]; have := HY.out.2.2.2.1; omega) (by have := HY.out.2.2.2.2; omega) ((HY.out.2.1.drop k).ext eW) (by omega)
      rw [List.length_drop, ← HY.out.1] at hv2
      have HV2 := Lib.hid hv2
      have m1 : ¬ cy = k := by have := HY.out.2.2.2.1; omega
      have m2 : (ys.length : Int) ≤ (cy : Int) := by have := HY.out.2.2.2.1; omega
      have m3 : (k : Int) < (ys.length : Int) := by omega
      clear hv2 hl hl2
      go_wp2_with fail
      refine HV2.out.mono ?_
      rintro e w' ⟨rfl, rfl⟩
      go_wp2_with fail
      go_meet
      exact ⟨rfl, rfl⟩
    · have hL0 : L = 0 := by rw [HY.out.1, List.drop_of_length_le (by omega)]; rfl
      have m3 : (ys.length : Int) ≤ (k : Int) := by omega
      have HL0 := Lib.hid hL0
      clear hL0
      go_wp2_with fail
      go_meet
      exact ⟨by rw [HL0.out]; rfl, rfl⟩
  case rest =>
    obtain ⟨rfl, rfl⟩ := hcut
    go_upto_region 6 with fail
    go_wp2_with fail
    have hW0 : Four (W.alloc (.cells #[.int .i64 1, .int .i64 0, .int .i64 0, .int .i64 1] 204)) W.heap.size 1 0 0 1 := four_new W 1 0 0 1 _
    have F40 : Four (W.alloc (.cells #[.int .i64 1, .int .i64 0, .int .i64 0, .int .i64 1] 204)) w.heap.size 0 0 0 0 := F4.ext ((Ext.refl W).alloc _)
    have eW1 : Ext w (W.alloc (.cells #[.int .i64 1, .int .i64 0, .int .i64 0, .int .i64 1] 204)) := eW.alloc _
    go_loopw [6, 7, 9] (fun hs ls _ wr => ∃ a b c d h l : Int, hs = .int .i64 h ∧ ls = .int .i64 l ∧ Leh (X : Int) Y N H L h l a b c d ∧ Four wr W.heap.size a b c d ∧ Four wr w.heap.size 0 0 0 0 ∧ Ext w wr) (fun _ ls _ _ => (intOf ls).toNat)
    case atStart => exact ⟨1, 0, 0, 1, H, L, rfl, rfl, HI0.out, hW0, F40, eW1⟩
    case round =>
      obtain ⟨a, b, c, d, h, l, rfl, rfl, I, S8, S4, hE⟩ := hrel
      clear hW0 F40 eW1 F4 eW
      have HI := Lib.hid I
      have H8 := Lib.hid S8
      have H4 := Lib.hid S4
      obtain ⟨⟨s0, s1, s2, s3⟩, g0, g1, g2, g3⟩ := S8
      obtain ⟨⟨r0, r1, r2, r3⟩, f0, f1, f2, f3⟩ := S4
      have hne : ¬ w.heap.size = W.heap.size := by have := HZ.out; omega
      have hne2 : ¬ W.heap.size = w.heap.size := by have := HZ.out; omega
      have b0 := I.l0
      have b1 := I.lh
      have b2 := I.hH
      have ba := I.ba
      have bb := I.bb
      have bc := I.bc
      have bd := I.bd
      have k3 := I.k3
      have k4 := I.k4
      obtain ⟨U1, hU1⟩ : ∃ U1 : Int, l + c = U1 := ⟨_, rfl⟩
      obtain ⟨U2, hU2⟩ : ∃ U2 : Int, l + d = U2 := ⟨_, rfl⟩
      obtain ⟨V1, hV1⟩ : ∃ V1 : Int, h + a = V1 := ⟨_, rfl⟩
      obtain ⟨V2, hV2⟩ : ∃ V2 : Int, h + b = V2 := ⟨_, rfl⟩
      have w1 : (-1000000002 : Int) ≤ U1 := by omega
      have w2 : U1 ≤ (1100000000000000003 : Int) := by omega
      have w3 : (-1000000004 : Int) ≤ U2 := by omega
      have w4 : U2 ≤ (1100000000000000005 : Int) := by omega
      have w5 : (0 : Int) ≤ V1 := by omega
      have w6 : V1 ≤ (1100000000000000006 : Int) := by omega
      have w7 : (0 : Int) ≤ V2 := by omega
      have w8 : V2 ≤ (1100000000000000007 : Int) := by omega
      have hh1 : (0 : Int) ≤ h := by omega
      have hh2 : h ≤ (1000000000000000008 : Int) := by omega
      have HB := Lib.hid (And.intro b0 (And.intro b1 (And.intro b2 (And.intro ba (And.intro bb (And.intro bc bd))))))
      have ba1 : (-1000000009 : Int) ≤ a := by omega
      have ba2 : a ≤ (1000000010 : Int) := by omega
      have bb1 : (-1000000011 : Int) ≤ b := by omega
      have bb2 : b ≤ (1000000012 : Int) := by omega
      have bc1 : (-1000000013 : Int) ≤ c := by omega
      have bc2 : c ≤ (1000000014 : Int) := by omega
      have bd1 : (-1000000015 : Int) ≤ d := by omega
      have bd2 : d ≤ (1000000016 : Int) := by omega
      have hl2 : l ≤ (1000000000000000017 : Int) := by omega
      clear I b1 b2 ba bb bc bd k3 k4 hHI hLI
      by_cases t1 : 0 < U1
      · by_cases t2 : 0 < U2
        · obtain ⟨q1, hq1⟩ : ∃ q1 : Int, V1 / U1 = q1 := ⟨_, rfl⟩
          obtain ⟨q2, hq2⟩ : ∃ q2 : Int, V2 / U2 = q2 := ⟨_, rfl⟩
          have hq1t : V1.tdiv U1 = q1 := by rw [Int.tdiv_eq_ediv_of_nonneg w5]; exact hq1
          have hq2t : V2.tdiv U2 = q2 := by rw [Int.tdiv_eq_ediv_of_nonneg w7]; exact hq2
          have q10 : (0 : Int) ≤ q1 := by rw [← hq1]; exact Int.ediv_nonneg w5 (by omega)
          have q20 : (0 : Int) ≤ q2 := by rw [← hq2]; exact Int.ediv_nonneg w7 (by omega)
          have q11 : q1 ≤ (1100000000000000018 : Int) := by
            have := Int.ediv_le_self (a := V1) U1 w5; rw [hq1] at this; omega
          have q21 : q2 ≤ (1100000000000000019 : Int) := by
            have := Int.ediv_le_self (a := V2) U2 w7; rw [hq2] at this; omega
          have n1 : ¬ U1 = 0 := by omega
          have n2 : ¬ U2 = 0 := by omega
          by_cases hq : q1 = q2
          · subst hq
            have F := HF.out h l a b c d q1 HI.out (by omega) (by omega) (by rw [hV1, hU1]; exact hq1.symm) (by rw [hV2, hU2]; exact hq2.symm)
            obtain ⟨F1, F2, F3, ⟨F4a, F4b⟩, ⟨F5a, F5b⟩, F6, F7⟩ := F
            obtain ⟨M1, hM1⟩ : ∃ M1 : Int, q1 * c = M1 := ⟨_, rfl⟩
            obtain ⟨M2, hM2⟩ : ∃ M2 : Int, q1 * d = M2 := ⟨_, rfl⟩
            obtain ⟨M3, hM3⟩ : ∃ M3 : Int, q1 * l = M3 := ⟨_, rfl⟩
            rw [hM1, hM2, hM3] at F1
            rw [hM3] at F3 F6 F7
            rw [hM1] at F4a F4b
            rw [hM2] at F5a F5b
            have e1 : (-1000000020 : Int) ≤ M1 := by omega
            have e2 : M1 ≤ (1000000021 : Int) := by omega
            have e3 : (-1000000022 : Int) ≤ M2 := by omega
            have e4 : M2 ≤ (1000000023 : Int) := by omega
            have e6 : M3 ≤ (1100000000000000024 : Int) := by omega
            have HN := Lib.hid F1
            have HM := Lib.hid F3
            have P8 := H8.out.put c d (a - M1) (b - M2)
            have P4 := (((H4.out.far hne2 0 (.int .i64 c)).far hne2 1 (.int .i64 d)).far hne2 2 (.int .i64 (a - M1))).far hne2 3 (.int .i64 (b - M2))
            have HP := Lib.hid (And.intro P8 P4)
            have hEP := hE.put4 (g := W.heap.size) (by have := HZ.out; omega) (.int .i64 c) (.int .i64 d) (.int .i64 (a - M1)) (.int .i64 (b - M2))
            have HE := Lib.hid hEP
            clear F1 F3 F4a F4b F5a F5b F7 P8 P4 hEP F2 hq1 hq2
            go_wp2
            go_roundw
            case rel => exact ⟨c, d, a - M1, b - M2, l, h - M3, rfl, rfl, HN.out, HP.out.1, HP.out.2, HE.out⟩
            case measure => have := HM.out; have := HN.out.l0; simp [intOf]; omega
          · have hqb : (q1 != q2) = true := by simpa using hq
            clear hq
            go_wp2
            exact bodyPost_ret (v := .agg #[.int .i64 a, .int .i64 b, .int .i64 c, .int .i64 d]) (by simp [results, Tryz.results248, go_sem, r0, r1, r2, r3]) rfl
              ⟨a, b, c, d, h, l, rfl, HI.out, hE.put4 (Nat.le_refl _) _ _ _ _⟩
        · have t2' : U2 ≤ 0 := by omega
          clear t2
          go_wp2
          exact bodyPost_ret (v := .agg #[.int .i64 a, .int .i64 b, .int .i64 c, .int .i64 d]) (by simp [results, Tryz.results248, go_sem, r0, r1, r2, r3]) rfl
            ⟨a, b, c, d, h, l, rfl, HI.out, hE.put4 (Nat.le_refl _) _ _ _ _⟩
      · have t1' : U1 ≤ 0 := by omega
        clear t1
        go_wp2
        exact bodyPost_ret (v := .agg #[.int .i64 a, .int .i64 b, .int .i64 c, .int .i64 d]) (by simp [results, Tryz.results248, go_sem, r0, r1, r2, r3]) rfl
          ⟨a, b, c, d, h, l, rfl, HI.out, hE.put4 (Nat.le_refl _) _ _ _ _⟩

end Go.Proofs.YtifeacfljfmnpaaGreat
end

section
set_option maxRecDepth 100000
namespace Go.Proofs.YtifeacfljfmnpaaGreat
open Go.RowKit
def RetRed (m n : Nat) (w : World) (e : Ending) (w' : World) : Prop :=
  ∃ v1 v2 m' n', e = .returned (.tuple #[v1, v2]) ∧ IsLimbs m' v1 w' ∧ IsLimbs n' v2 w' ∧ (Nat.gcd m' n' = Nat.gcd m n ∧ n' < n ∧ n' ≤ m' ∧ m' ≤ m) ∧ Ext w w'
theorem leh_nat {m n : Nat} {N H L h l a b c d : Int} (I : Leh (m : Int) n N H L h l a b c d) (hb : b ≠ 0) :
    ∃ z v : Nat, (z : Int) = a * m + b * n ∧ (v : Int) = c * m + d * n ∧ Nat.gcd z v = Nat.gcd m n ∧ v < n ∧ v ≤ z ∧ z ≤ m := by
  have h1 := I.v0
  have h2 := I.vz
  have h3 := I.zX
  have h4 := I.low hb
  have h5 := I.gcd
  obtain ⟨z, hz⟩ : ∃ z : Nat, a * m + b * n = z := ⟨(a * m + b * n).toNat, by omega⟩
  obtain ⟨v, hv⟩ : ∃ v : Nat, c * m + d * n = v := ⟨(c * m + d * n).toNat, by omega⟩
  rw [hz, hv] at h5
  exact ⟨z, v, hz.symm, hv.symm, h5, by omega, by omega, by omega⟩

set_option maxRecDepth 100000 in
set_option maxHeartbeats 3200000 in
theorem reduce_calls (w : World) (ax ay : Option Addr) (m n cx cy : Nat) (lx : (limbs m).length ≤ 1048576) (hn : 2 < (limbs n).length) (hnm : n ≤ m) (kx : (limbs m).length ≤ cx) (ky : (limbs n).length ≤ cy) (bx : cx ≤ 9223372036854775807) (by_ : cy ≤ 9223372036854775807)
    (hx : Cells w ax (limbs m)) (hy : Cells w ay (limbs n)) :
    Calls Tryz.prog 220 #[.slice ax (limbs m).length cx, .slice ay (limbs n).length cy] w (RetRed m n w) := by
  have hl := z12q hnm
  obtain ⟨k, hk⟩ : ∃ k, (limbs m).length = k + 2 := ⟨(limbs m).length - 2, by omega⟩
  obtain ⟨b1, o1, rfl, _⟩ := hx.at_ (by omega)
  have hL := leadingSteps_calls w b1 o1 ay (limbs m) (limbs n) cx cy k hk lx hl kx bx ky by_ hx (z6q m) hy (z6q n) (by rw [z1q, z1q]; exact hnm)
  rw [z1q, z1q, ← hk] at hL
  have HL := Lib.hid hL
  have hn0 : 0 < n := by
    rcases Nat.eq_zero_or_pos n with h | h
    · subst h; simp [limbs_zero] at hn
    · exact h
  have HD := Lib.hid (divOK m n lx hn0)
  have HC := Lib.hid (fun W (e : Ext w W) p q Z hp hq hZ hlt => combine_calls W (some ⟨b1, o1, none⟩) ay (limbs m) (limbs n) cx cy p q Z (by omega) hl (hx.ext e) (hy.ext e) (z6q m) (z6q n) hp hq hZ hlt)
  have HN := Lib.hid (And.intro hn0 (And.intro hnm (And.intro kx (And.intro ky (And.intro bx by_)))))
  have HX := Lib.hid (And.intro hx hy)
  clear hL hk hn lx hnm kx ky bx by_ hx hy hl hn0
  go_enter Tryz.func220, Tryz.ntmps220
  go_wp2_with fail
  refine HL.out.mono ?_
  rintro e w1 ⟨a, b, c, d, h, l, rfl, I, e1⟩
  have HI := Lib.hid I
  clear I HL
  by_cases hb : b = 0
  · have hbb : (b == 0) = true := by simpa using hb
    clear hb
    go_wp2_with fail
    have hW := (Ext.refl w1).alloc (.cells #[.int .i64 a, .int .i64 b, .int .i64 c, .int .i64 d] 204)
    generalize w1.alloc (.cells #[.int .i64 a, .int .i64 b, .int .i64 c, .int .i64 d] 204) = W at *
    have eW := e1.trans hW
    refine (HD.out W _ _ _ _ HN.out.2.2.1 HN.out.2.2.2.1 HN.out.2.2.2.2.1 HN.out.2.2.2.2.2 (HX.out.1.ext eW) (HX.out.2.ext eW)).mono ?_
    rintro e w2 ⟨v1, v2, rfl, _, hv2, e2⟩
    obtain ⟨a2, c2, rfl, j1, j2, j3⟩ := hv2
    clear hW
    go_wp2_with fail
    go_ret2
    have hn0 := HN.out.1
    exact ⟨_, _, n, m % n, rfl, ⟨_, _, rfl, HN.out.2.2.2.1, HN.out.2.2.2.2.2, HX.out.2.ext (eW.trans e2)⟩, ⟨a2, c2, rfl, j1, j2, j3⟩,
      ⟨by rw [Nat.gcd_comm n, ← Nat.gcd_rec, Nat.gcd_comm], Nat.mod_lt _ hn0, Nat.le_of_lt (Nat.mod_lt _ hn0), HN.out.2.1⟩, eW.trans e2⟩
  · have hbb : (b == 0) = false := by simpa using hb
    obtain ⟨z, v, hz, hv, hg, h1, h2, h3⟩ := leh_nat HI.out hb
    have HG := Lib.hid (And.intro hg (And.intro h1 (And.intro h2 h3)))
    have C1 := Lib.hid (fun W (e : Ext w W) => HC.out W e a b z HI.out.ba HI.out.bb (by rw [z1q, z1q]; exact hz) (Nat.lt_of_le_of_lt h3 (z4q (Nat.le_refl _))))
    have C2 := Lib.hid (fun W (e : Ext w W) => HC.out W e c d v HI.out.bc HI.out.bd (by rw [z1q, z1q]; exact hv) (Nat.lt_of_le_of_lt (Nat.le_trans h2 h3) (z4q (Nat.le_refl _))))
    clear hz hv hg h1 h2 h3 hb HC
    go_upto_region 2 with fail
    have hW := (Ext.refl w1).alloc (.cells #[.int .i64 a, .int .i64 b, .int .i64 c, .int .i64 d] 204)
    have h4 := four_new w1 a b c d 204
    generalize w1.alloc (.cells #[.int .i64 a, .int .i64 b, .int .i64 c, .int .i64 d] 204) = W at *
    have eW := e1.trans hW
    obtain ⟨⟨s0, s1, s2, s3⟩, _⟩ := h4
    have S0 : W.drew.cell? ⟨w1.heap.size, 0, none⟩ = some (.int .i64 a) ∧ W.drew.cell? ⟨w1.heap.size, 1, none⟩ = some (.int .i64 b) ∧ W.drew.cell? ⟨w1.heap.size, 2, none⟩ = some (.int .i64 c) ∧ W.drew.cell? ⟨w1.heap.size, 3, none⟩ = some (.int .i64 d) := ⟨s0, s1, s2, s3⟩
    go_wp2_with fail
    go_region_held3 (fun w' => w'.cell? ⟨w1.heap.size, 0, none⟩ = some (.int .i64 a) ∧ w'.cell? ⟨w1.heap.size, 1, none⟩ = some (.int .i64 b) ∧ w'.cell? ⟨w1.heap.size, 2, none⟩ = some (.int .i64 c) ∧ w'.cell? ⟨w1.heap.size, 3, none⟩ = some (.int .i64 d))
      (first | with_reducible exact S0 | with_reducible exact S1 | with_reducible exact S2) ((first
        | (go_at_call 249; ((with_reducible refine (C1.out _ (eW.drew)).mono ?_)); rintro e w2 ⟨x1, rfl, hx1, k1⟩; have K1 := (Ext.refl W).drew.trans k1; have S1 := And.intro (K1.cell s0) (And.intro (K1.cell s1) (And.intro (K1.cell s2) (K1.cell s3))))
        | (go_at_call 249; ((with_reducible refine (C2.out _ (eW.trans K1)).mono ?_)); rintro e w3 ⟨x2, rfl, hx2, k2⟩; have K2 := K1.trans k2; have S2 := And.intro (K2.cell s0) (And.intro (K2.cell s1) (And.intro (K2.cell s2) (K2.cell s3))))))
    go_wp2
    go_ret2
    exact ⟨x1, x2, z, v, rfl, hx1.ext k2, hx2, HG.out, eW.trans K2⟩

end Go.Proofs.YtifeacfljfmnpaaGreat
end

section
set_option maxRecDepth 100000
namespace Go.Proofs.YtifeacfljfmnpaaGreat
open Go.RowKit
def GcdRel (w0 : World) (G M n : Nat) (x y : Value) (wr : World) : Prop :=
  ∃ m ax cx ay cy, x = .slice ax (limbs m).length cx ∧ y = .slice ay (limbs n).length cy ∧ Hid (Nat.gcd m n = G ∧ n ≤ m ∧ m ≤ M ∧ (limbs m).length ≤ cx ∧ (limbs n).length ≤ cy ∧ cx ≤ 9223372036854775807 ∧ cy ≤ 9223372036854775807) ∧
    Cells wr ax (limbs m) ∧ Cells wr ay (limbs n) ∧ Ext w0 wr

set_option maxRecDepth 100000 in
set_option maxHeartbeats 6400000 in
theorem gcd_calls (w : World) (v1 v2 : Value) (z1 z2 : Int) (h : IsInt w v1 z1) (k : IsInt w v2 z2) (l1 : Sm z1) (l2 : Sm z2) :
    Calls Tryz.prog 176 #[v1, v2] w (Ret (fun v w' => IsInt w' v ((Nat.gcd z1.natAbs z2.natAbs : Nat) : Int)) w) := by
  obtain ⟨ao, cap, s, n, rfl, h1, h2, h3, H4, H5, H6⟩ := h.open_
  obtain ⟨ao', cap', s', n', rfl, k1, k2, k3, K4, K5, K6⟩ := k.open_
  unfold Sm at l1 l2
  rw [← H4.out] at l1
  rw [← K4.out] at l2
  rw [← H4.out, ← K4.out]
  obtain ⟨G, hG⟩ : ∃ G, G = Nat.gcd n n' := ⟨_, rfl⟩
  rw [← hG]
  have HGe := Lib.hid hG
  clear hG
  have HL := Lib.hid (And.intro l1 l2)
  obtain ⟨W, hW, eW, c0, c1, d0, d1, r0, r1, f0, f1⟩ := boxes2r w (.bool s) (.slice ao (limbs n).length cap) (.bool s') (.slice ao' (limbs n').length cap') 24
  have HVA := Lib.hid (isInt_raw h1 h2 h3 H6.out)
  have HVB := Lib.hid (isInt_raw k1 k2 k3 K6.out)
  clear H5 K5 h k
  go_enter Tryz.func176, Tryz.ntmps176
  go_wp2_with fail
  clear hW
  refine (valid_calls W _ s (limbs n) (HVA.out.1.ext eW)).mono ?_
  rintro e w1 ⟨rfl, e1⟩
  rw [HVA.out.2]
  replace c0 := e1.cell c0
  replace c1 := e1.cell c1
  replace d0 := e1.cell d0
  replace d1 := e1.cell d1
  go_wp2_with fail
  refine (valid_calls w1 _ s' (limbs n') (HVB.out.1.ext (eW.trans e1))).mono ?_
  rintro e w2 ⟨rfl, e2⟩
  rw [HVB.out.2]
  have eA := e1.trans e2
  replace c0 := e2.cell c0
  replace c1 := e2.cell c1
  replace d0 := e2.cell d0
  replace d1 := e2.cell d1
  replace f0 := eA.frozen (z0q r0) f0
  replace f1 := eA.frozen (z0q r1) f1
  replace r0 := eA.cell r0
  replace r1 := eA.cell r1
  replace eW := eW.trans eA
  clear HVA HVB e1 e2 eA
  go_wp2_with fail
  go_quiet (fail)
  clear c0 c1 d0 d1
  replace eW := eW.drewN nq
  have rr0 : (w2.drewN nq).cell? ⟨w.heap.size + 2, 0, none⟩ = some (.bool false) := r0
  have rr1 : (w2.drewN nq).cell? ⟨w.heap.size + 2, 1, none⟩ = some (.slice none 0 0) := r1
  have ff0 : (w2.drewN nq).frozen? ⟨w.heap.size + 2, 0, none⟩ = false := f0
  have ff1 : (w2.drewN nq).frozen? ⟨w.heap.size + 2, 1, none⟩ = false := f1
  clear r0 r1 f0 f1
  generalize w2.drewN nq = w3 at *
  have hbl := Lib.hid (show (limbs n).length ≤ 9223372036854775807 ∧ (limbs n').length ≤ 9223372036854775807 by omega)
  clear l1 l2
  go_wp2_with fail
  refine (compareLimbs_calls _ _ _ n n' _ _ hbl.out.1 hbl.out.2 (h3.ext eW) (k3.ext eW)).mono ?_
  rintro e w4 ⟨rfl, j, hw4⟩
  have e4 : Ext w3 w4 := by rw [hw4]; exact (Ext.refl w3).drewN j
  have r0 := e4.cell rr0
  have r1 := e4.cell rr1
  have f0 := e4.frozen (z0q rr0) ff0
  have f1 := e4.frozen (z0q rr1) ff1
  replace eW := eW.trans e4
  clear hw4 hbl rr0 rr1 ff0 ff1 e4
  have hcz := z2q (n : Int) (n' : Int)
  have GR : Hid ((0 ≤ cmpZ n n' → GcdRel w4 G (max n n') n' (.slice ao (limbs n).length cap) (.slice ao' (limbs n').length cap') w4) ∧
      (cmpZ n n' < 0 → GcdRel w4 G (max n n') n (.slice ao' (limbs n').length cap') (.slice ao (limbs n).length cap) w4)) := by
    refine ⟨fun hc => ⟨n, ao, cap, ao', cap', rfl, rfl, ⟨HGe.out.symm, by omega, by omega, h1, k1, h2, k2⟩, h3.ext eW, k3.ext eW, Ext.refl _⟩, fun hc => ⟨n', ao', cap', ao, cap, rfl, rfl, ⟨by rw [HGe.out]; exact Nat.gcd_comm _ _, by omega, by omega, k1, h1, k2, h2⟩, k3.ext eW, h3.ext eW, Ext.refl _⟩⟩
  have HM : Hid ((limbs (max n n')).length ≤ 1048576) := by
    unfold Hid
    rcases Nat.le_total n n' with hle | hle
    · rw [Nat.max_eq_right hle]; exact HL.out.2
    · rw [Nat.max_eq_left hle]; exact HL.out.1
  generalize max n n' = M at *
  clear HL H4 H6 K4 K6 HGe
  go_upto_if 25 with fail
  go_cut [5, 6] (fun x y wx => ∃ k, GcdRel w4 G M k x y wx)
  case first =>
    by_cases hc : cmpZ n n' < 0
    · have HR := Lib.hid (GR.out.2 hc)
      clear GR hcz
      go_wp2_with fail
      go_meet
      exact ⟨_, HR.out⟩
    · replace hc : (0 : Int) ≤ cmpZ n n' := by omega
      have HR := Lib.hid (GR.out.1 hc)
      clear GR hcz
      go_wp2_with fail
      go_meet
      exact ⟨_, HR.out⟩
  case rest =>
    clear GR hcz h3 k3 h1 k1 h2 k2
    have RR := Lib.hid (And.intro r0 r1)
    obtain ⟨k0, hcut⟩ := hcut
    have HC := Lib.hid hcut
    clear hcut
    go_wp2_with fail
    go_loopg [5, 6] k0 (fun k x y wr => GcdRel w4 G M k x y wr)
    case atStart => exact HC.out
    case round =>
      obtain ⟨m, ax, cx, ay, cy, rfl, rfl, H, hx, hy, hE⟩ := hrel
      clear HC
      have HX := Lib.hid (And.intro hx hy)
      have hlm : (limbs m).length ≤ 1048576 := Nat.le_trans (z12q H.out.2.2.1) HM.out
      clear hx hy
      by_cases hl : 2 < (limbs gk).length
      · have hred := reduce_calls wr ax ay m gk cx cy hlm hl H.out.2.1 H.out.2.2.2.1 H.out.2.2.2.2.1 H.out.2.2.2.2.2.1 H.out.2.2.2.2.2.2 HX.out.1 HX.out.2
        have HRED := Lib.hid hred
        have hlI : (2 : Int) < ((limbs gk).length : Int) := by omega
        clear hred hl hlm
        go_wp2_with fail
        refine HRED.out.mono ?_
        rintro e w5 ⟨v1, v2, m', n1, rfl, ⟨a1, c1, rfl, p1, p2, p3⟩, ⟨a2, c2, rfl, q1, q2, q3⟩, hg, e5⟩
        have HG := Lib.hid hg
        have HP := Lib.hid (And.intro p1 (And.intro p2 (And.intro q1 q2)))
        clear hg p1 p2 q1 q2
        go_wp2_with fail
        go_roundg n1
        case measure => exact HG.out.2.1
        case rel => exact ⟨m', a1, c1, a2, c2, rfl, rfl, ⟨HG.out.1.trans H.out.1, HG.out.2.2.1, Nat.le_trans HG.out.2.2.2 H.out.2.2.1, HP.out.1, HP.out.2.2.1, HP.out.2.1, HP.out.2.2.2⟩, p3, q3, hE.trans e5⟩
      · replace eW := eW.trans hE
        replace r0 := hE.cell r0
        replace r1 := hE.cell r1
        replace f0 := hE.frozen (p := ⟨w.heap.size + 2, 0, none⟩) (z0q RR.out.1) f0
        replace f1 := hE.frozen (p := ⟨w.heap.size + 2, 1, none⟩) (z0q RR.out.2) f1
        have hlI : ((limbs gk).length : Int) ≤ 2 := by omega
        rcases Nat.eq_zero_or_pos gk with h0 | h0
        · have HG : Hid (m = G) := by have := H.out.1; rw [h0, Nat.gcd_zero_right] at this; exact this
          have hl0 : (limbs gk).length = 0 := by rw [h0]; rfl
          have hcl := clone_calls wr ax (limbs m) cx (by omega) HX.out.1 H.out.2.2.2.1
          have HCL := Lib.hid hcl
          clear h0 hl hcl hlm
          go_wp2_with fail
          refine HCL.out.mono ?_
          rintro e w5 ⟨a3, c3, rfl, x1, x2, e3, x3⟩
          have x4 := Cloned.cells x3
          clear x3
          go_wp2_with fail
          refine (signedL_calls _ _ _ _ _ x1 x2 x4).mono ?_
          rintro e w6 ⟨v4, rfl, hI, e4⟩
          have hI2 : IsInt w6 v4 ((G : Nat) : Int) := by rw [← HG.out]; exact hI
          clear hI
          obtain ⟨ao4, cap4, s4, n4, rfl, _⟩ := hI2.open_
          have eA := e3.trans e4
          have r02 := eA.cell r0
          have r12 := eA.cell r1
          have f02 := eA.frozen (z0q r0) f0
          have f12 := eA.frozen (z0q r1) f1
          clear r0 r1 f0 f1
          go_wp2
          exact bodyPost_ret (v := .agg #[.bool s4, .slice ao4 (limbs n4).length cap4]) (by simp [results, Tryz.results176, go_sem, r02, r12]) rfl (fin_int hI2 r02 r12 (by omega) (eW.trans eA))
        · have hyb : gk < 1000000000000000000 := by have := z4q (n := gk) (k := 2) (by omega); omega
          have hrb := Nat.mod_lt m h0
          have hdiv := divOK m gk hlm h0 wr ax ay cx cy H.out.2.2.2.1 H.out.2.2.2.2.1 H.out.2.2.2.2.2.1 H.out.2.2.2.2.2.2 HX.out.1 HX.out.2
          have HDIV := Lib.hid hdiv
          have hlp := limbs_pos h0
          have hl0 : (((limbs gk).length : Int) == 0) = false := by rw [beq_eq_false_iff_ne]; omega
          have HG : Hid (Nat.gcd gk (m % gk) = G ∧ gk ≤ 18446744073709551615 ∧ m % gk ≤ 18446744073709551615 ∧ Nat.gcd gk (m % gk) ≤ 18446744073709551615) := by
            have e : Nat.gcd gk (m % gk) = Nat.gcd m gk := by rw [Nat.gcd_comm, ← Nat.gcd_rec, Nat.gcd_comm]
            have hle : Nat.gcd gk (m % gk) ≤ gk := Nat.gcd_le_left _ h0
            exact ⟨e.trans H.out.1, by omega, by omega, by omega⟩
          clear hyb hrb hlp h0 hdiv hl hlm
          go_wp2_with fail
          refine HDIV.out.mono ?_
          rintro e w3 ⟨u1, u2, rfl, ⟨aq, cq, rfl, m1, m2, m3⟩, ⟨ar, cr, rfl, p1, p2, p3⟩, e3⟩
          have hvy := Lib.hid (valueOf_calls w3 ay (limbs gk) cy H.out.2.2.2.2.1 H.out.2.2.2.2.2.2 (HX.out.2.ext e3) (by rw [z1q]; exact HG.out.2.1))
          have hvr := Lib.hid (valueOf_calls w3 ar (limbs (m % gk)) cr p1 p2 p3 (by rw [z1q]; exact HG.out.2.2.1))
          rw [z1q] at hvy hvr
          clear HDIV
          go_wp2_with fail
          refine hvy.out.mono ?_
          rintro e w' ⟨rfl, rfl⟩
          go_wp2_with fail
          refine hvr.out.mono ?_
          rintro e w' ⟨rfl, rfl⟩
          have hgs := Lib.hid (gcdSmall_calls w3 gk (m % gk) HG.out.2.1 HG.out.2.2.1)
          rw [HG.out.1] at hgs
          obtain ⟨rr, hrr⟩ : ∃ rr, rr = m % gk := ⟨_, rfl⟩
          have HGG := Lib.hid (show G ≤ 18446744073709551615 by rw [← HG.out.1]; exact HG.out.2.2.2)
          rw [← hrr] at hgs
          have HRR := Lib.hid hrr
          rw [← HRR.out]
          clear hrr
          go_wp2_with fail
          refine hgs.out.mono ?_
          rintro e w5 ⟨rfl, e4⟩
          go_wp2_with fail
          refine (limbsOf_calls _ G HGG.out).mono ?_
          rintro e w6 ⟨v5, rfl, ⟨a5, c5, rfl, x1, x2, x3⟩, e5⟩
          go_wp2_with fail
          refine (signedL_calls _ _ _ _ _ x1 x2 x3).mono ?_
          rintro e w7 ⟨v6, rfl, hI2, e6⟩
          obtain ⟨ao4, cap4, s4, n4, rfl, _⟩ := IsInt.open_ hI2
          have eA := ((e3.trans e4).trans e5).trans e6
          have r02 := eA.cell r0
          have r12 := eA.cell r1
          have f02 := eA.frozen (z0q r0) f0
          have f12 := eA.frozen (z0q r1) f1
          clear r0 r1 f0 f1
          go_wp2
          exact bodyPost_ret (v := .agg #[.bool s4, .slice ao4 (limbs n4).length cap4]) (by simp [results, Tryz.results176, go_sem, r02, r12]) rfl (fin_int hI2 r02 r12 (by omega) (eW.trans eA))

end Go.Proofs.YtifeacfljfmnpaaGreat
end

section
set_option maxRecDepth 100000
namespace Go.Proofs.YtifeacfljfmnpaaGreat
open Go.RowKit
theorem len_one {n : Nat} (h : (limbs n).length = 1) : limbs n = [n] ∧ n < 1000000000 := by
  have h1 : n < 1000000000 := by have := z4q (n := n) (k := 1) (by omega); simpa using this
  refine ⟨?_, h1⟩
  have h0 : 0 < n := by
    rcases Nat.eq_zero_or_pos n with h0 | h0
    · subst h0; simp [limbs_zero] at h
    · exact h0
  rw [limbs_step h0, Nat.mod_eq_of_lt h1, Nat.div_eq_of_lt h1]; rfl

set_option maxRecDepth 100000 in
set_option maxHeartbeats 800000 in
theorem isOne_calls (w : World) (v : Value) (z : Int) (h : IsInt w v z) : Calls Tryz.prog 170 #[v] w fun e w' => e = .returned (.bool (z == 1)) ∧ Ext w w' := by
  obtain ⟨ao, cap, s, n, rfl, h1, h2, h3, H4, H5, H6⟩ := h.open_
  obtain ⟨W, hW, eW, c0, c1⟩ := box1 w (.bool s) (.slice ao (limbs n).length cap) 24
  cases s
  · have hz : z = (n : Int) := H5.out
    subst hz
    by_cases hl : (limbs n).length = 1
    · obtain ⟨e1, hn⟩ := len_one hl
      obtain ⟨b, off, rfl, hc⟩ := h3.at_ (by omega)
      have hcell := hc 0 (by omega)
      rw [e1] at hcell
      have hcell2 : w.cell? ⟨b, off, none⟩ = some (.int .u32 (n : Int)) := hcell
      have hcW := eW.cell hcell2
      have hlI : (((limbs n).length : Int) == 1) = true := by rw [hl]; rfl
      have hlN : (0 : Int) < ((limbs n).length : Int) := by omega
      have hz0 : 0 < (limbs n).length := by omega
      clear hc hcell hcell2 h3 H4 H5 H6 h e1 hn h1 h2 hl
      go_enter Tryz.func170, Tryz.ntmps170
      go_wp2
      go_ret
      exact ⟨rfl, eW⟩
    · have hlI : (((limbs n).length : Int) == 1) = false := by rw [beq_eq_false_iff_ne]; omega
      have HR : Hid (((n : Int) == 1) = false) := by
        unfold Hid
        rw [beq_eq_false_iff_ne]
        intro e
        have : n = 1 := by omega
        subst this
        exact hl rfl
      clear h3 H4 H5 H6 h hl h1 h2
      go_enter Tryz.func170, Tryz.ntmps170
      go_wp2
      go_ret
      exact ⟨by rw [HR.out]; rfl, eW⟩
  · have HR : Hid ((z == 1) = false) := by
      unfold Hid
      rw [beq_eq_false_iff_ne]
      have h5 := H5.out
      simp only [sgn, if_true] at h5
      omega
    clear h3 H4 H5 H6 h h1 h2
    go_enter Tryz.func170, Tryz.ntmps170
    go_wp2
    go_ret
    exact ⟨by rw [HR.out]; rfl, eW⟩

def kMag : Con
  | [.val false [.mag t l]], _ => if lo l then some (.val false [.mag t l]) else none
  | _, _ => none
theorem one_mag {E : Env} {w : World} {t : IT} {l : Nat} {v : Value} : one E w (false, [.mag t l]) v ↔ IsLimbs (t.den E).natAbs v w ∧ Lim l (t.den E) := by
  constructor
  · rintro ⟨⟨a, r, h1, ⟨x, rfl, h2, h2'⟩, h3⟩, _⟩
    simp only [chunks] at h3
    subst h3
    injection h1 with h1
    subst h1
    exact ⟨h2, h2'⟩
  · rintro ⟨h, hl⟩
    refine ⟨⟨[v], [], rfl, ⟨v, rfl, h, hl⟩, rfl⟩, ?_⟩
    obtain ⟨ao, cap, rfl, _⟩ := h
    rfl
theorem kMag_ok {E : Env} : ConOK Tryz.prog E 211 kMag := by
  refine ⟨?_, ?_, ⟨_, Tryz.func211, by decide +kernel, by kernel_rfl⟩⟩
  · intro args As r h hG β w vs hv hlen
    unfold kMag at h
    split at h
    · rename_i t l
      split at h
      · rename_i hlo
        injection h with h
        subst h
        simp only [lo, decide_eq_true_iff] at hlo
        obtain ⟨v, rfl, h1⟩ := args1 hv hlen
        obtain ⟨⟨ao, cap, rfl, k1, k2, k3⟩, hl⟩ := one_mag.1 h1
        refine (clone_calls w ao _ cap (by unfold Lim at hl; omega) k3 k1).mono ?_
        rintro e w' ⟨ao', cap', rfl, x1, x2, ex, x3⟩
        exact ⟨_, rfl, one_mag.2 ⟨⟨_, _, rfl, x1, x2, Cloned.cells x3⟩, hl⟩, ex⟩
      · cases h
    · cases h
  · intro args As r h x off
    unfold kMag at h
    split at h
    · split at h
      · injection h with h; subst h; intro e; cases e
      · cases h
    · cases h
def kFrom : Con
  | [.val false [.n .i64 t]], G => match t with
    | .lit z => if decide (-9223372036854775808 ≤ z) && decide (z ≤ 9223372036854775807) then some (.val true [.int t 3]) else none
    | t => if (G.find (.le (.lit (-9223372036854775808)) t) == some true) && (G.find (.le t (.lit 9223372036854775807)) == some true) then some (.val true [.int t 3]) else none
  | _, _ => none
theorem lim3 {z : Int} (h1 : -9223372036854775808 ≤ z) (h2 : z ≤ 9223372036854775807) : Lim 3 z := limbs_len_le (by
  have : z.natAbs ≤ 9223372036854775808 := by omega
  exact Nat.lt_of_le_of_lt this (by decide))
theorem kFrom_ok {E : Env} {f : Nat} (hc : ∀ (w : World) (n : Int), -9223372036854775808 ≤ n → n ≤ 9223372036854775807 → Calls Tryz.prog f #[.int .i64 n] w (Ret (fun v w' => IsInt w' v n) w))
    (hb : ∃ fn, Tryz.prog.funcs[f]? = some fn ∧ fn.name ≠ "runtime.NumGoroutine" ∧ fn.body.isNone = false) : ConOK Tryz.prog E f kFrom := by
  refine ⟨?_, ?_, hb⟩
  · intro args As r h hG β w vs hv hlen
    have go : ∀ (t : IT), args = [.val false [.n .i64 t]] → r = .val true [.int t 3] → -9223372036854775808 ≤ t.den E → t.den E ≤ 9223372036854775807 → Calls Tryz.prog f vs.toArray w (fun e w' => ∃ v, e = .returned v ∧ r.holds E β w' v ∧ Ext w w') := by
      rintro t rfl rfl b1 b2
      obtain ⟨v, rfl, h1⟩ := args1 hv hlen
      have h1' := z9q.1 h1
      subst h1'
      refine (hc w _ b1 b2).mono ?_
      rintro e w' ⟨v', rfl, hI, ex⟩
      exact ⟨v', rfl, z10q.2 ⟨hI, lim3 b1 b2⟩, ex⟩
    unfold kFrom at h
    split at h
    · split at h
      · rename_i z
        split at h
        · rename_i hb
          injection h with h
          rw [Bool.and_eq_true, decide_eq_true_iff, decide_eq_true_iff] at hb
          exact go _ rfl h.symm hb.1 hb.2
        · cases h
      · rename_i t _
        split at h
        · rename_i hb
          injection h with h
          rw [Bool.and_eq_true, beq_iff_eq, beq_iff_eq] at hb
          have b1 := Asm.find_spec hG hb.1
          have b2 := Asm.find_spec hG hb.2
          simp only [BT.den, IT.den] at b1 b2
          exact go _ rfl h.symm (of_decide_eq_true b1) (of_decide_eq_true b2)
        · cases h
    · cases h
  · intro args As r h x off
    unfold kFrom at h
    split at h
    · split at h
      · split at h
        · injection h with h; subst h; intro e; cases e
        · cases h
      · split at h
        · injection h with h; subst h; intro e; cases e
        · cases h
    · cases h
def kDM : Con
  | [.val true [.int x l], .val true [.int y m]], _ => if lo l && lo m then some (.tup [(true, [.int (.a2 4 x y) l]), (true, [.int (.a2 5 x y) m]), (false, [.n .i64 (.a1 1 y)])]) else none
  | _, _ => none
theorem dr_lim {m : Nat} {x y : Int} (h : Lim m y) : Lim m (dr x y) := by
  by_cases hy : y = 0
  · subst hy
    have : dr x 0 = 0 := if_pos rfl
    rw [this]; exact h
  · exact h.natAbs_le (Nat.le_of_lt (dr_abs x hy))
theorem kDMg_ok {E : Env} {f : Nat} (hc : ∀ (w : World) (v u : Value) (a b : Int), IsInt w v a → IsInt w u b → Lim 400000 a → Lim 400000 b → Calls Tryz.prog f #[v, u] w (RetDMF a b w))
    (hb : ∃ fn, Tryz.prog.funcs[f]? = some fn ∧ fn.name ≠ "runtime.NumGoroutine" ∧ fn.body.isNone = false) : ConOK Tryz.prog E f kDM := by
  refine ⟨?_, ?_, hb⟩
  · intro args As r h hG β w vs hv hlen
    unfold kDM at h
    split at h
    · rename_i x l y m
      split at h
      · rename_i hlo
        injection h with h
        subst h
        simp only [lo, Bool.and_eq_true, decide_eq_true_iff] at hlo
        obtain ⟨v, u, rfl, h1, h2⟩ := args2 hv hlen
        obtain ⟨i1, l1⟩ := z10q.1 h1
        obtain ⟨i2, l2⟩ := z10q.1 h2
        refine (hc w v u _ _ i1 i2 (l1.mono (by omega)) (l2.mono (by omega))).mono ?_
        rintro e w' ⟨v1, v2, rfl, k1, k2, ex⟩
        exact ⟨_, rfl, ⟨[v1, v2, .int .i64 (de (y.den E))], rfl, v1, _, rfl, z10q.2 ⟨k1, l1.natAbs_le (dq_abs _ _)⟩, v2, _, rfl, z10q.2 ⟨k2, dr_lim l2⟩, _, _, rfl, z9q.2 rfl, rfl⟩, ex⟩
      · cases h
    · cases h
  · intro args As r h x off
    unfold kDM at h
    split at h
    · split at h
      · injection h with h; subst h; intro e; cases e
      · cases h
    · cases h
theorem kDM_ok {E : Env} : ConOK Tryz.prog E 207 kDM := kDMg_ok (fun w v u a b h k l1 l2 => divMod_fn w v u a b h k (l1.sm (by omega)) (l2.sm (by omega))) ⟨_, Tryz.func207, by decide +kernel, by kernel_rfl⟩
theorem gcd_lim {l m : Nat} {x y : Int} (h : Lim l x) (k : Lim m y) : Lim (max l m) (((Nat.gcd x.natAbs y.natAbs : Nat) : Int)) := by
  by_cases hx : x = 0
  · subst hx
    refine (k.natAbs_le ?_).mono (Nat.le_max_right _ _)
    rw [show (0 : Int).natAbs = 0 from rfl, Nat.gcd_zero_left]
    simp
  · refine (h.natAbs_le ?_).mono (Nat.le_max_left _ _)
    rw [Int.natAbs_natCast]
    exact Nat.gcd_le_left _ (by omega)
structure TyC where
  t : TypeId
  fl : List (Nat × Nat)
  zs : List Chunk
structure TyOK (P : Program) (c : TyC) : Prop where
  zero : ∀ (E : Env) (w : World), ∃ z, (zeroValue c.t).run P w = .ok z w ∧ chunks E w c.zs z.cells.toList
  ag : ∀ w, (isAgg c.t).run P w = .ok true w ∧ (sizeOf c.t).run P w = .ok (sizes c.zs) w
  fld : ∀ k p, c.fl[k]? = some p → ∀ w a, (Instr.fieldAt c.t (.pointer (some a)) k).run P w = .ok (.pointer (some (a.add p.1))) w
  flds : ∃ fields, P.underlying c.t = some (.struct fields) ∧ ∀ w, (fields.mapM fun f => do pure (f.offset, ← sizeOf f.type) : Sem (Array (Nat × Nat))).run P w = .ok c.fl.toArray w
structure AllT (P : Program) (l : List TyC) : Prop where
  all : ∀ c ∈ l, TyOK P c
theorem AllT.nil {P : Program} : AllT P [] := ⟨fun _ h => by cases h⟩
theorem AllT.cons {P : Program} {c : TyC} {l : List TyC} (h : TyOK P c) (k : AllT P l) : AllT P (c :: l) := ⟨fun d hd => by
  rcases List.mem_cons.1 hd with rfl | hd
  · exact h
  · exact k.all d hd⟩
def findT : List TyC → TypeId → Option TyC
  | [], _ => none
  | c :: l, t => if c.t == t then some c else findT l t
theorem findT_spec : ∀ {l : List TyC} {t : TypeId} {c : TyC}, findT l t = some c → c ∈ l ∧ c.t = t
  | [], _, _, h => by cases h
  | d :: l, t, c, h => by
    unfold findT at h
    split at h
    · rename_i hd
      injection h with h
      subst h
      exact ⟨List.mem_cons_self, by simpa using hd⟩
    · obtain ⟨h1, h2⟩ := findT_spec h
      exact ⟨List.mem_cons_of_mem _ h1, h2⟩
theorem z7q {E : Env} {w : World} : (Chunk.int (.lit 0) 0).holds E w [.bool false, .slice none 0 0] := ⟨_, _, rfl, isInt_zero w, Nat.le_of_eq rfl⟩
def tcInt : TyC := ⟨24, [(0, 1), (1, 1)], [.int (.lit 0) 0]⟩
def tcRat : TyC := ⟨26, [(0, 2), (2, 2)], [.int (.lit 0) 0, .int (.lit 0) 0]⟩
def tcRoot : TyC := ⟨28, [(0, 4), (4, 4), (8, 4)], [.int (.lit 0) 0, .int (.lit 0) 0, .int (.lit 0) 0, .int (.lit 0) 0, .int (.lit 0) 0, .int (.lit 0) 0]⟩
def tcSurd : TyC := ⟨160, [(0, 1), (1, 1), (2, 1), (3, 1), (4, 1), (5, 1)], [.n .i16 (.lit 0), .n .i16 (.lit 0), .n .u16 (.lit 0), .n .u8 (.lit 0), .n .u8 (.lit 0), .n .u8 (.lit 0)]⟩
def tcFiv : TyC := ⟨166, [(0, 1), (1, 1)], [.n .i64 (.lit 0), .n .i64 (.lit 0)]⟩
def tcPoint : TyC := ⟨53, [(0, 4), (4, 4), (8, 4), (12, 4), (16, 4)], [.int (.lit 0) 0, .int (.lit 0) 0, .int (.lit 0) 0, .int (.lit 0) 0, .int (.lit 0) 0, .int (.lit 0) 0, .int (.lit 0) 0, .int (.lit 0) 0, .int (.lit 0) 0, .int (.lit 0) 0]⟩
def tcQuad : TyC := ⟨97, [(0, 4), (4, 4), (8, 4), (12, 4), (16, 4), (20, 4)], [.int (.lit 0) 0, .int (.lit 0) 0, .int (.lit 0) 0, .int (.lit 0) 0, .int (.lit 0) 0, .int (.lit 0) 0, .int (.lit 0) 0, .int (.lit 0) 0, .int (.lit 0) 0, .int (.lit 0) 0, .int (.lit 0) 0, .int (.lit 0) 0]⟩
def tcPair : TyC := ⟨175, [(0, 2), (2, 2), (4, 4)], [.int (.lit 0) 0, .int (.lit 0) 0, .int (.lit 0) 0, .int (.lit 0) 0]⟩
def tcGrid2 : TyC := ⟨61, [(0, 1), (1, 1)], [.n .i64 (.lit 0), .n .i64 (.lit 0)]⟩
def tcVec : TyC := ⟨59, [(0, 4), (4, 4)], [.int (.lit 0) 0, .int (.lit 0) 0, .int (.lit 0) 0, .int (.lit 0) 0]⟩
def tcPlace7 : TyC := ⟨76, [(0, 1), (1, 1), (2, 1), (3, 1), (4, 1), (5, 1)], [.n .i16 (.lit 0), .n .i16 (.lit 0), .n .i16 (.lit 0), .n .i16 (.lit 0), .n .u16 (.lit 0), .n .u8 (.lit 0)]⟩
theorem tcInt_ok : TyOK Tryz.prog tcInt := by
  refine ⟨fun E w => ⟨_, Tryz.zeroValue24 w, [_, _], [], rfl, z7q, rfl⟩, fun w => ⟨Tryz.isAgg24 w, Tryz.sizeOf24 w⟩, ?_, ⟨_, Tryz.underlying24, fun w => by simp [Tryz.sizeOf4, Tryz.sizeOf22, tcInt]⟩⟩
  intro k p hp w a
  match k, hp with
  | 0, hp => injection hp with hp; subst hp; simp [tcInt, Instr.fieldAt, run_underlying Tryz.underlying24, Instr.sureAddr, fieldPlace, Tryz.sizeOf4]
  | 1, hp => injection hp with hp; subst hp; simp [tcInt, Instr.fieldAt, run_underlying Tryz.underlying24, Instr.sureAddr, fieldPlace, Tryz.sizeOf22]
theorem tcRat_ok : TyOK Tryz.prog tcRat := by
  refine ⟨fun E w => ⟨_, Tryz.zeroValue26 w, [_, _], [_, _], rfl, z7q, [_, _], [], rfl, z7q, rfl⟩, fun w => ⟨Tryz.isAgg26 w, Tryz.sizeOf26 w⟩, ?_, ⟨_, Tryz.underlying26, fun w => by simp [Tryz.sizeOf24, tcRat]⟩⟩
  intro k p hp w a
  match k, hp with
  | 0, hp => injection hp with hp; subst hp; simp [tcRat, Instr.fieldAt, run_underlying Tryz.underlying26, Instr.sureAddr, fieldPlace, Tryz.sizeOf24]
  | 1, hp => injection hp with hp; subst hp; simp [tcRat, Instr.fieldAt, run_underlying Tryz.underlying26, Instr.sureAddr, fieldPlace, Tryz.sizeOf24]
theorem tcRoot_ok : TyOK Tryz.prog tcRoot := by
  refine ⟨fun E w => ⟨_, Tryz.zeroValue28 w, [_, _], _, rfl, z7q, [_, _], _, rfl, z7q, [_, _], _, rfl, z7q, [_, _], _, rfl, z7q, [_, _], _, rfl, z7q, [_, _], [], rfl, z7q, rfl⟩, fun w => ⟨Tryz.isAgg28 w, Tryz.sizeOf28 w⟩, ?_, ⟨_, Tryz.underlying28, fun w => by simp [Tryz.sizeOf26, tcRoot]⟩⟩
  intro k p hp w a
  match k, hp with
  | 0, hp => injection hp with hp; subst hp; simp [tcRoot, Instr.fieldAt, run_underlying Tryz.underlying28, Instr.sureAddr, fieldPlace, Tryz.sizeOf26]
  | 1, hp => injection hp with hp; subst hp; simp [tcRoot, Instr.fieldAt, run_underlying Tryz.underlying28, Instr.sureAddr, fieldPlace, Tryz.sizeOf26]
  | 2, hp => injection hp with hp; subst hp; simp [tcRoot, Instr.fieldAt, run_underlying Tryz.underlying28, Instr.sureAddr, fieldPlace, Tryz.sizeOf26]
theorem tcSurd_ok : TyOK Tryz.prog tcSurd := by
  refine ⟨fun E w => ⟨_, Tryz.zeroValue160 w, [_], _, rfl, rfl, [_], _, rfl, rfl, [_], _, rfl, rfl, [_], _, rfl, rfl, [_], _, rfl, rfl, [_], [], rfl, rfl, rfl⟩, fun w => ⟨Tryz.isAgg160 w, Tryz.sizeOf160 w⟩, ?_, ⟨_, Tryz.underlying160, fun w => by simp [Tryz.sizeOf73, Tryz.sizeOf74, Tryz.sizeOf5, tcSurd]⟩⟩
  intro k p hp w a
  match k, hp with
  | 0, hp => injection hp with hp; subst hp; simp [tcSurd, Instr.fieldAt, run_underlying Tryz.underlying160, Instr.sureAddr, fieldPlace, Tryz.sizeOf73]
  | 1, hp => injection hp with hp; subst hp; simp [tcSurd, Instr.fieldAt, run_underlying Tryz.underlying160, Instr.sureAddr, fieldPlace, Tryz.sizeOf73]
  | 2, hp => injection hp with hp; subst hp; simp [tcSurd, Instr.fieldAt, run_underlying Tryz.underlying160, Instr.sureAddr, fieldPlace, Tryz.sizeOf74]
  | 3, hp => injection hp with hp; subst hp; simp [tcSurd, Instr.fieldAt, run_underlying Tryz.underlying160, Instr.sureAddr, fieldPlace, Tryz.sizeOf5]
  | 4, hp => injection hp with hp; subst hp; simp [tcSurd, Instr.fieldAt, run_underlying Tryz.underlying160, Instr.sureAddr, fieldPlace, Tryz.sizeOf5]
  | 5, hp => injection hp with hp; subst hp; simp [tcSurd, Instr.fieldAt, run_underlying Tryz.underlying160, Instr.sureAddr, fieldPlace, Tryz.sizeOf5]
theorem tcFiv_ok : TyOK Tryz.prog tcFiv := by
  refine ⟨fun E w => ⟨_, Tryz.zeroValue166 w, [_], _, rfl, rfl, [_], [], rfl, rfl, rfl⟩, fun w => ⟨Tryz.isAgg166 w, Tryz.sizeOf166 w⟩, ?_, ⟨_, Tryz.underlying166, fun w => by simp [Tryz.sizeOf2, tcFiv]⟩⟩
  intro k p hp w a
  match k, hp with
  | 0, hp => injection hp with hp; subst hp; simp [tcFiv, Instr.fieldAt, run_underlying Tryz.underlying166, Instr.sureAddr, fieldPlace, Tryz.sizeOf2]
  | 1, hp => injection hp with hp; subst hp; simp [tcFiv, Instr.fieldAt, run_underlying Tryz.underlying166, Instr.sureAddr, fieldPlace, Tryz.sizeOf2]
theorem tcPoint_ok : TyOK Tryz.prog tcPoint := by
  refine ⟨fun E w => ⟨_, Tryz.zeroValue53 w, [_, _], _, rfl, z7q, [_, _], _, rfl, z7q, [_, _], _, rfl, z7q, [_, _], _, rfl, z7q, [_, _], _, rfl, z7q, [_, _], _, rfl, z7q, [_, _], _, rfl, z7q, [_, _], _, rfl, z7q, [_, _], _, rfl, z7q, [_, _], [], rfl, z7q, rfl⟩, fun w => ⟨Tryz.isAgg53 w, Tryz.sizeOf53 w⟩, ?_, ⟨_, Tryz.underlying53, fun w => by simp [Tryz.sizeOf26, tcPoint]⟩⟩
  intro k p hp w a
  match k, hp with
  | 0, hp => injection hp with hp; subst hp; simp [tcPoint, Instr.fieldAt, run_underlying Tryz.underlying53, Instr.sureAddr, fieldPlace, Tryz.sizeOf26]
  | 1, hp => injection hp with hp; subst hp; simp [tcPoint, Instr.fieldAt, run_underlying Tryz.underlying53, Instr.sureAddr, fieldPlace, Tryz.sizeOf26]
  | 2, hp => injection hp with hp; subst hp; simp [tcPoint, Instr.fieldAt, run_underlying Tryz.underlying53, Instr.sureAddr, fieldPlace, Tryz.sizeOf26]
  | 3, hp => injection hp with hp; subst hp; simp [tcPoint, Instr.fieldAt, run_underlying Tryz.underlying53, Instr.sureAddr, fieldPlace, Tryz.sizeOf26]
  | 4, hp => injection hp with hp; subst hp; simp [tcPoint, Instr.fieldAt, run_underlying Tryz.underlying53, Instr.sureAddr, fieldPlace, Tryz.sizeOf26]
theorem tcQuad_ok : TyOK Tryz.prog tcQuad := by
  refine ⟨fun E w => ⟨_, Tryz.zeroValue97 w, [_, _], _, rfl, z7q, [_, _], _, rfl, z7q, [_, _], _, rfl, z7q, [_, _], _, rfl, z7q, [_, _], _, rfl, z7q, [_, _], _, rfl, z7q, [_, _], _, rfl, z7q, [_, _], _, rfl, z7q, [_, _], _, rfl, z7q, [_, _], _, rfl, z7q, [_, _], _, rfl, z7q, [_, _], [], rfl, z7q, rfl⟩, fun w => ⟨Tryz.isAgg97 w, Tryz.sizeOf97 w⟩, ?_, ⟨_, Tryz.underlying97, fun w => by simp [Tryz.sizeOf26, tcQuad]⟩⟩
  intro k p hp w a
  match k, hp with
  | 0, hp => injection hp with hp; subst hp; simp [tcQuad, Instr.fieldAt, run_underlying Tryz.underlying97, Instr.sureAddr, fieldPlace, Tryz.sizeOf26]
  | 1, hp => injection hp with hp; subst hp; simp [tcQuad, Instr.fieldAt, run_underlying Tryz.underlying97, Instr.sureAddr, fieldPlace, Tryz.sizeOf26]
  | 2, hp => injection hp with hp; subst hp; simp [tcQuad, Instr.fieldAt, run_underlying Tryz.underlying97, Instr.sureAddr, fieldPlace, Tryz.sizeOf26]
  | 3, hp => injection hp with hp; subst hp; simp [tcQuad, Instr.fieldAt, run_underlying Tryz.underlying97, Instr.sureAddr, fieldPlace, Tryz.sizeOf26]
  | 4, hp => injection hp with hp; subst hp; simp [tcQuad, Instr.fieldAt, run_underlying Tryz.underlying97, Instr.sureAddr, fieldPlace, Tryz.sizeOf26]
  | 5, hp => injection hp with hp; subst hp; simp [tcQuad, Instr.fieldAt, run_underlying Tryz.underlying97, Instr.sureAddr, fieldPlace, Tryz.sizeOf26]
theorem tcPair_ok : TyOK Tryz.prog tcPair := by
  refine ⟨fun E w => ⟨_, Tryz.zeroValue175 w, [_, _], _, rfl, z7q, [_, _], _, rfl, z7q, [_, _], _, rfl, z7q, [_, _], [], rfl, z7q, rfl⟩, fun w => ⟨Tryz.isAgg175 w, Tryz.sizeOf175 w⟩, ?_, ⟨_, Tryz.underlying175, fun w => by simp [Tryz.sizeOf24, Tryz.sizeOf26, tcPair]⟩⟩
  intro k p hp w a
  match k, hp with
  | 0, hp => injection hp with hp; subst hp; simp [tcPair, Instr.fieldAt, run_underlying Tryz.underlying175, Instr.sureAddr, fieldPlace, Tryz.sizeOf24]
  | 1, hp => injection hp with hp; subst hp; simp [tcPair, Instr.fieldAt, run_underlying Tryz.underlying175, Instr.sureAddr, fieldPlace, Tryz.sizeOf24]
  | 2, hp => injection hp with hp; subst hp; simp [tcPair, Instr.fieldAt, run_underlying Tryz.underlying175, Instr.sureAddr, fieldPlace, Tryz.sizeOf26]
theorem tcGrid2_ok : TyOK Tryz.prog tcGrid2 := by
  refine ⟨fun E w => ⟨_, Tryz.zeroValue61 w, [_], _, rfl, rfl, [_], [], rfl, rfl, rfl⟩, fun w => ⟨Tryz.isAgg61 w, Tryz.sizeOf61 w⟩, ?_, ⟨_, Tryz.underlying61, fun w => by simp [Tryz.sizeOf2, tcGrid2]⟩⟩
  intro k p hp w a
  match k, hp with
  | 0, hp => injection hp with hp; subst hp; simp [tcGrid2, Instr.fieldAt, run_underlying Tryz.underlying61, Instr.sureAddr, fieldPlace, Tryz.sizeOf2]
  | 1, hp => injection hp with hp; subst hp; simp [tcGrid2, Instr.fieldAt, run_underlying Tryz.underlying61, Instr.sureAddr, fieldPlace, Tryz.sizeOf2]
theorem tcVec_ok : TyOK Tryz.prog tcVec := by
  refine ⟨fun E w => ⟨_, Tryz.zeroValue59 w, [_, _], _, rfl, z7q, [_, _], _, rfl, z7q, [_, _], _, rfl, z7q, [_, _], [], rfl, z7q, rfl⟩, fun w => ⟨Tryz.isAgg59 w, Tryz.sizeOf59 w⟩, ?_, ⟨_, Tryz.underlying59, fun w => by simp [Tryz.sizeOf26, tcVec]⟩⟩
  intro k p hp w a
  match k, hp with
  | 0, hp => injection hp with hp; subst hp; simp [tcVec, Instr.fieldAt, run_underlying Tryz.underlying59, Instr.sureAddr, fieldPlace, Tryz.sizeOf26]
  | 1, hp => injection hp with hp; subst hp; simp [tcVec, Instr.fieldAt, run_underlying Tryz.underlying59, Instr.sureAddr, fieldPlace, Tryz.sizeOf26]
theorem tcPlace7_ok : TyOK Tryz.prog tcPlace7 := by
  refine ⟨fun E w => ⟨_, Tryz.zeroValue76 w, [_], _, rfl, rfl, [_], _, rfl, rfl, [_], _, rfl, rfl, [_], _, rfl, rfl, [_], _, rfl, rfl, [_], [], rfl, rfl, rfl⟩, fun w => ⟨Tryz.isAgg76 w, Tryz.sizeOf76 w⟩, ?_, ⟨_, Tryz.underlying76, fun w => by simp [Tryz.sizeOf73, Tryz.sizeOf74, Tryz.sizeOf5, tcPlace7]⟩⟩
  intro k p hp w a
  match k, hp with
  | 0, hp => injection hp with hp; subst hp; simp [tcPlace7, Instr.fieldAt, run_underlying Tryz.underlying76, Instr.sureAddr, fieldPlace, Tryz.sizeOf73]
  | 1, hp => injection hp with hp; subst hp; simp [tcPlace7, Instr.fieldAt, run_underlying Tryz.underlying76, Instr.sureAddr, fieldPlace, Tryz.sizeOf73]
  | 2, hp => injection hp with hp; subst hp; simp [tcPlace7, Instr.fieldAt, run_underlying Tryz.underlying76, Instr.sureAddr, fieldPlace, Tryz.sizeOf73]
  | 3, hp => injection hp with hp; subst hp; simp [tcPlace7, Instr.fieldAt, run_underlying Tryz.underlying76, Instr.sureAddr, fieldPlace, Tryz.sizeOf73]
  | 4, hp => injection hp with hp; subst hp; simp [tcPlace7, Instr.fieldAt, run_underlying Tryz.underlying76, Instr.sureAddr, fieldPlace, Tryz.sizeOf74]
  | 5, hp => injection hp with hp; subst hp; simp [tcPlace7, Instr.fieldAt, run_underlying Tryz.underlying76, Instr.sureAddr, fieldPlace, Tryz.sizeOf5]
def tys : List TyC := tcInt :: tcRat :: tcRoot  ::  tcSurd  :: tcFiv  ::  tcPoint  ::  tcQuad  :: tcPair  :: tcGrid2  ::  tcVec  :: tcPlace7  :: []
theorem tys_ok : AllT Tryz.prog tys := AllT.cons tcInt_ok <| AllT.cons tcRat_ok <| AllT.cons tcRoot_ok  <|  AllT.cons tcSurd_ok  <| AllT.cons tcFiv_ok  <|  AllT.cons tcPoint_ok  <|  AllT.cons tcQuad_ok  <| AllT.cons tcPair_ok  <| AllT.cons tcGrid2_ok  <|  AllT.cons tcVec_ok  <| AllT.cons tcPlace7_ok  <| AllT.nil
def plainT : List TypeId := 4 :: 3 :: 2 :: 22 :: 9 :: 73 :: 74 :: 5 :: 115 :: 149 :: []
structure PlainOK (P : Program) (l : List TypeId) : Prop where
  all : ∀ t ∈ l, ∀ w, (isAgg t).run P w = .ok false w ∧ (sizeOf t).run P w = .ok 1 w
theorem PlainOK.nil {P : Program} : PlainOK P [] := ⟨fun _ h => by cases h⟩
theorem PlainOK.cons {P : Program} {t : TypeId} {l : List TypeId} (h1 : ∀ w, (isAgg t).run P w = .ok false w) (h2 : ∀ w, (sizeOf t).run P w = .ok 1 w) (k : PlainOK P l) : PlainOK P (t :: l) := ⟨fun d hd => by
  rcases List.mem_cons.1 hd with rfl | hd
  · exact fun w => ⟨h1 w, h2 w⟩
  · exact k.all d hd⟩
theorem plainT_ok : PlainOK Tryz.prog plainT := PlainOK.cons Tryz.isAgg4 Tryz.sizeOf4 <| PlainOK.cons Tryz.isAgg3 Tryz.sizeOf3 <| PlainOK.cons Tryz.isAgg2 Tryz.sizeOf2 <| PlainOK.cons Tryz.isAgg22 Tryz.sizeOf22 <| PlainOK.cons Tryz.isAgg9 Tryz.sizeOf9 <| PlainOK.cons Tryz.isAgg73 Tryz.sizeOf73 <| PlainOK.cons Tryz.isAgg74 Tryz.sizeOf74 <| PlainOK.cons Tryz.isAgg5 Tryz.sizeOf5 <| PlainOK.cons Tryz.isAgg115 Tryz.sizeOf115 <| PlainOK.cons Tryz.isAgg149 Tryz.sizeOf149 <| PlainOK.nil
def rowL : List (TypeId × TypeId) := (70, 26) :: (47, 28) :: (129, 53) :: []
def arrL : List (TypeId × Nat × TypeId) := (195, 2, 2) :: []
def strL : List TypeId := 9 :: []
def findR {α : Type} : List (TypeId × α) → TypeId → Option α
  | [], _ => none
  | p :: l, t => if p.1 == t then some p.2 else findR l t
theorem findR_spec {α : Type} : ∀ {l : List (TypeId × α)} {t : TypeId} {e : α}, findR l t = some e → (t, e) ∈ l
  | [], _, _, h => by cases h
  | p :: l, t, e, h => by
    obtain ⟨a, b⟩ := p
    unfold findR at h
    split at h
    · rename_i hd
      injection h with h
      have : a = t := by simpa using hd
      subst this h
      exact List.mem_cons_self
    · exact List.mem_cons_of_mem _ (findR_spec h)
structure RowOK (P : Program) (l : List (TypeId × TypeId)) : Prop where
  all : ∀ p ∈ l, P.underlying p.1 = some (.slice p.2)
theorem RowOK.nil {P : Program} : RowOK P [] := ⟨fun _ h => by cases h⟩
theorem RowOK.cons {P : Program} {p : TypeId × TypeId} {l : List (TypeId × TypeId)} (h : P.underlying p.1 = some (.slice p.2)) (k : RowOK P l) : RowOK P (p :: l) := ⟨fun d hd => by
  rcases List.mem_cons.1 hd with rfl | hd
  · exact h
  · exact k.all d hd⟩
structure ArrOK (P : Program) (l : List (TypeId × Nat × TypeId)) : Prop where
  all : ∀ p ∈ l, P.underlying p.1 = some (.array p.2.1 p.2.2)
theorem ArrOK.nil {P : Program} : ArrOK P [] := ⟨fun _ h => by cases h⟩
theorem ArrOK.cons {P : Program} {p : TypeId × Nat × TypeId} {l : List (TypeId × Nat × TypeId)} (h : P.underlying p.1 = some (.array p.2.1 p.2.2)) (k : ArrOK P l) : ArrOK P (p :: l) := ⟨fun d hd => by
  rcases List.mem_cons.1 hd with rfl | hd
  · exact h
  · exact k.all d hd⟩
structure StrOK (P : Program) (l : List TypeId) : Prop where
  all : ∀ t ∈ l, P.underlying t = some .string
theorem StrOK.nil {P : Program} : StrOK P [] := ⟨fun _ h => by cases h⟩
theorem StrOK.cons {P : Program} {t : TypeId} {l : List TypeId} (h : P.underlying t = some .string) (k : StrOK P l) : StrOK P (t :: l) := ⟨fun d hd => by
  rcases List.mem_cons.1 hd with rfl | hd
  · exact h
  · exact k.all d hd⟩
theorem rowL_ok : RowOK Tryz.prog rowL := RowOK.cons Tryz.underlying70 <| RowOK.cons Tryz.underlying47 <| RowOK.cons Tryz.underlying129 <| RowOK.nil
theorem arrL_ok : ArrOK Tryz.prog arrL := ArrOK.cons Tryz.underlying195 <| ArrOK.nil
theorem strL_ok : StrOK Tryz.prog strL := StrOK.cons Tryz.underlying9 <| StrOK.nil
def cnvL : List (TypeId × Option IntKind) := (3, some .i64) :: (2, some .i64) :: (115, some .u64) :: (149, some .u32) :: (200, some .u64) :: (74, none) :: (73, none) :: (5, none) :: (31, none) :: []
structure CnvOK (P : Program) (l : List (TypeId × Option IntKind)) : Prop where
  all : ∀ p ∈ l, ∃ k, P.underlying p.1 = some (.int k) ∧ ∀ j, p.2 = some j → j = k
theorem CnvOK.nil {P : Program} : CnvOK P [] := ⟨fun _ h => by cases h⟩
theorem CnvOK.cons {P : Program} {t : TypeId} {o : Option IntKind} {k : IntKind} {l : List (TypeId × Option IntKind)} (h : P.underlying t = some (.int k)) (hk : ∀ j, o = some j → j = k) (r : CnvOK P l) : CnvOK P ((t, o) :: l) := ⟨fun d hd => by
  rcases List.mem_cons.1 hd with rfl | hd
  · exact ⟨k, h, hk⟩
  · exact r.all d hd⟩
theorem cnvL_ok : CnvOK Tryz.prog cnvL := CnvOK.cons Tryz.underlying3 (fun j h => by injection h with h; exact h.symm) <| CnvOK.cons Tryz.underlying2 (fun j h => by injection h with h; exact h.symm) <| CnvOK.cons Tryz.underlying115 (fun j h => by injection h with h; exact h.symm) <| CnvOK.cons Tryz.underlying149 (fun j h => by injection h with h; exact h.symm) <| CnvOK.cons Tryz.underlying200 (fun j h => by injection h with h; exact h.symm) <| CnvOK.cons Tryz.underlying74 (fun j h => by cases h) <| CnvOK.cons Tryz.underlying73 (fun j h => by cases h) <| CnvOK.cons Tryz.underlying5 (fun j h => by cases h) <| CnvOK.cons Tryz.underlying31 (fun j h => by cases h) <| CnvOK.nil
def cnvF (s d : TypeId) : Option IntKind := match findR cnvL s, findR cnvL d with | some _, some (some k) => some k | _, _ => none
theorem cnvF_ok {s d : TypeId} {k : IntKind} (h : cnvF s d = some k) : (∃ u, Tryz.prog.underlying s = some u) ∧ Tryz.prog.underlying d = some (.int k) := by
  unfold cnvF at h
  split at h
  · rename_i o1 j h1 h2
    injection h with h
    subst h
    obtain ⟨k1, e1, _⟩ := cnvL_ok.all _ (findR_spec h1)
    obtain ⟨k2, e2, e3⟩ := cnvL_ok.all _ (findR_spec h2)
    exact ⟨⟨_, e1⟩, by rw [e3 _ rfl]; exact e2⟩
  · cases h
theorem apd_ok (ty : TypeId) (w : World) (n : Nat) (x : Value) (hl : (limbs n).length ≤ 1099511627776) (h : IsLimbs n x w) :
    ∃ y w', (Builtin.append_ #[22, 22] ty #[.slice none 0 0, x]).run Tryz.prog w = .ok y w' ∧ IsLimbs n y w' ∧ Ext w w' := by
  obtain ⟨ao, cap, rfl, h1, h2, h3⟩ := h
  obtain ⟨i0, hi, hz0, hz1, hz2⟩ := info_parts info_u32
  have hown : w.ownsRow w.heap.size 149 1 (.slice none 0 0) 0 [] := ⟨rfl, .inl ⟨rfl, rfl⟩⟩
  rcases ao with _ | a
  · have hnil : limbs n = [] := by
      rcases h3 with h | ⟨b, off, hh, _⟩
      · exact h
      · cases hh
    rw [hnil]
    exact ⟨_, _, run_append_nil (P := Tryz.prog) w.heap.size 22 ty 149 i0 1 Tryz.underlying22 hi _ 0 [] hown cap, ⟨none, 0, by rw [hnil]; rfl, by rw [hnil]; exact Nat.le_refl _, by omega, by rw [hnil]; exact Cells.nil _ _⟩, Ext.refl w⟩
  · have hnews : ∀ j u, ((limbs n).map fun x => Value.int .u32 ((x : Nat) : Int))[j]? = some u → w.cell? (a.add j) = some u := by
      intro j u hu
      rcases h3 with h | ⟨b, off, hh, hx⟩
      · rw [h] at hu; simp at hu
      · injection hh with hh
        subst hh
        rw [List.getElem?_map] at hu
        obtain ⟨x, hx1, rfl⟩ := Option.map_eq_some_iff.1 hu
        have hj : j < (limbs n).length := (List.getElem?_eq_some_iff.1 hx1).1
        have := hx j hj
        rw [List.getD_eq_getElem?_getD, hx1] at this
        by_cases h0 : j = 0
        · subst h0; simpa [Addr.add] using this
        · simpa [Addr.add, h0] using this
    obtain ⟨v', w1, hrun, hown1, hgrow, hnil⟩ := run_append_own (P := Tryz.prog) w w.heap.size 22 ty 149 i0 (.int .u32 0) 1 4 Tryz.underlying22 hi hz0 hz1 hz2 rfl (by decide) _ 0 [] hown a (limbs n).length cap ((limbs n).map fun x => Value.int .u32 ((x : Nat) : Int)) (by simp) hnews
      (by intro u hu; obtain ⟨x, _, rfl⟩ := List.mem_map.1 hu; rfl) (by unfold maxLen; omega) (by omega) (Nat.le_refl _)
    rw [Nat.zero_add, List.nil_append] at hown1
    have hE : Ext w w1 := Below.grown (Ext.refl w) hgrow (Nat.le_refl _) (fun k hk => by cases hk)
    refine ⟨v', w1, hrun, ?_, hE⟩
    rcases hown1.2 with ⟨rfl, h0⟩ | ⟨g, cap', cur, rfl, hg, _, hnc, hcm, _, _⟩
    · have h00 : limbs n = [] := List.eq_nil_of_length_eq_zero h0
      exact ⟨none, 0, by rw [h00]; rfl, by rw [h00]; exact Nat.le_refl _, by omega, by rw [h00]; exact Cells.nil _ _⟩
    · exact ⟨_, cap', rfl, hnc, by unfold maxLen at hcm; omega, (Blk.of_owns hown1).cells⟩
def arrZ : List (TypeId × List Chunk) := (195, [.n .i64 (.lit 0), .n .i64 (.lit 0)]) :: []
structure ZeroOK (P : Program) (l : List (TypeId × List Chunk)) : Prop where
  all : ∀ p ∈ l, ∀ (E : Env) (w : World), ∃ z, (zeroValue p.1).run P w = .ok z w ∧ chunks E w p.2 z.cells.toList
theorem ZeroOK.nil {P : Program} : ZeroOK P [] := ⟨fun _ h => by cases h⟩
theorem ZeroOK.cons {P : Program} {p : TypeId × List Chunk} {l : List (TypeId × List Chunk)} (h : ∀ (E : Env) (w : World), ∃ z, (zeroValue p.1).run P w = .ok z w ∧ chunks E w p.2 z.cells.toList) (k : ZeroOK P l) : ZeroOK P (p :: l) := ⟨fun d hd => by
  rcases List.mem_cons.1 hd with rfl | hd
  · exact h
  · exact k.all d hd⟩
theorem arrZ_ok : ZeroOK Tryz.prog arrZ := ZeroOK.cons (fun _ w => ⟨_, Tryz.zeroValue195 w, [_], _, rfl, rfl, [_], [], rfl, rfl, rfl⟩) <| ZeroOK.nil
theorem eqFiv (w : World) (x y : Operand) (a b c d : Int) : (do eqGuard .eql 166 x y (.agg #[.int .i64 a, .int .i64 b]) (.agg #[.int .i64 c, .int .i64 d]); binOp .eql 166 (.agg #[.int .i64 a, .int .i64 b]) (.agg #[.int .i64 c, .int .i64 d]) : Sem Value).run Tryz.prog w = .ok (.bool (a == c && b == d)) w := by
  have hm : Tryz.prog.eqGuardType Tryz.prog.depth 166 = false := by kernel_rfl
  have hp : Tryz.prog.stoodInHeld 166 = false := by kernel_rfl
  have ha : (isAgg 2).run Tryz.prog w = .ok false w := Tryz.isAgg2 w
  rw [Sem.run_bind, run_eqGuard_agg _ _ _ _ _ _ _ hm]
  simp only [Result.andThen_ok]
  rw [run_eql_struct, run_equalIn_struct w 9999 166 _ _ (by kernel_rfl) hp]
  have hmap : ((Tryz.prog.fieldsOf 166).toList.map fun f => (f.name != "_", f.type, f.offset)) = [(true, 2, 0), (true, 2, 1)] := by kernel_rfl
  generalize (Tryz.prog.fieldsOf 166).toList = L at hmap ⊢
  obtain ⟨f, g, rfl⟩ : ∃ f g, L = [f, g] := by
    cases L with
    | nil => simp at hmap
    | cons f L => cases L with
      | nil => simp at hmap
      | cons g L => cases L with
        | nil => exact ⟨f, g, rfl⟩
        | cons _ _ => simp at hmap
  simp only [List.map_cons, List.map_nil, List.cons.injEq, Prod.mk.injEq, bne_iff_ne, ne_eq, and_true] at hmap
  obtain ⟨⟨h1, h3, h5⟩, h2, h4, h6⟩ := hmap
  simp only [Op.eqFields, h1, h2, h3, h4, h5, h6, ne_eq, not_false_eq_true, if_true, Sem.run_bind]
  have e1 : ∀ (p q : Int) (i : Nat) (xs : Array Value), xs[i]? = some (.int .i64 p) → (part 2 xs i).run Tryz.prog w = .ok (.int .i64 p) w := by
    intro p _ i xs hx
    unfold part
    simp only [Sem.run_bind, ha, Result.andThen_ok, Bool.false_eq_true, if_false, hx, Sem.run_pure]
  rw [e1 a 0 0 _ rfl]
  simp only [Result.andThen_ok]
  rw [e1 c 0 0 _ rfl]
  simp only [Result.andThen_ok]
  rw [run_equalIn_int w 9998 2 .i64 .i64 a c Tryz.underlying2]
  simp only [Result.andThen_ok]
  cases hac : (a == c) with
  | false => simp
  | true =>
    simp only [Bool.not_true, Bool.false_eq_true, if_false, Sem.run_bind]
    rw [e1 b 0 1 _ rfl]
    simp only [Result.andThen_ok]
    rw [e1 d 0 1 _ rfl]
    simp only [Result.andThen_ok]
    rw [run_equalIn_int w 9998 2 .i64 .i64 b d Tryz.underlying2]
    simp only [Result.andThen_ok]
    cases hbd : (b == d) <;> simp
theorem eqGrid2 (w : World) (x y : Operand) (a b c d : Int) : (do eqGuard .eql 61 x y (.agg #[.int .i64 a, .int .i64 b]) (.agg #[.int .i64 c, .int .i64 d]); binOp .eql 61 (.agg #[.int .i64 a, .int .i64 b]) (.agg #[.int .i64 c, .int .i64 d]) : Sem Value).run Tryz.prog w = .ok (.bool (a == c && b == d)) w := by
  have hm : Tryz.prog.eqGuardType Tryz.prog.depth 61 = false := by kernel_rfl
  have hp : Tryz.prog.stoodInHeld 61 = false := by kernel_rfl
  have ha : (isAgg 2).run Tryz.prog w = .ok false w := Tryz.isAgg2 w
  rw [Sem.run_bind, run_eqGuard_agg _ _ _ _ _ _ _ hm]
  simp only [Result.andThen_ok]
  rw [run_eql_struct, run_equalIn_struct w 9999 61 _ _ (by kernel_rfl) hp]
  have hmap : ((Tryz.prog.fieldsOf 61).toList.map fun f => (f.name != "_", f.type, f.offset)) = [(true, 2, 0), (true, 2, 1)] := by kernel_rfl
  generalize (Tryz.prog.fieldsOf 61).toList = L at hmap ⊢
  obtain ⟨f, g, rfl⟩ : ∃ f g, L = [f, g] := by
    cases L with
    | nil => simp at hmap
    | cons f L => cases L with
      | nil => simp at hmap
      | cons g L => cases L with
        | nil => exact ⟨f, g, rfl⟩
        | cons _ _ => simp at hmap
  simp only [List.map_cons, List.map_nil, List.cons.injEq, Prod.mk.injEq, bne_iff_ne, ne_eq, and_true] at hmap
  obtain ⟨⟨h1, h3, h5⟩, h2, h4, h6⟩ := hmap
  simp only [Op.eqFields, h1, h2, h3, h4, h5, h6, ne_eq, not_false_eq_true, if_true, Sem.run_bind]
  have e1 : ∀ (p q : Int) (i : Nat) (xs : Array Value), xs[i]? = some (.int .i64 p) → (part 2 xs i).run Tryz.prog w = .ok (.int .i64 p) w := by
    intro p _ i xs hx
    unfold part
    simp only [Sem.run_bind, ha, Result.andThen_ok, Bool.false_eq_true, if_false, hx, Sem.run_pure]
  rw [e1 a 0 0 _ rfl]
  simp only [Result.andThen_ok]
  rw [e1 c 0 0 _ rfl]
  simp only [Result.andThen_ok]
  rw [run_equalIn_int w 9998 2 .i64 .i64 a c Tryz.underlying2]
  simp only [Result.andThen_ok]
  cases hac : (a == c) with
  | false => simp
  | true =>
    simp only [Bool.not_true, Bool.false_eq_true, if_false, Sem.run_bind]
    rw [e1 b 0 1 _ rfl]
    simp only [Result.andThen_ok]
    rw [e1 d 0 1 _ rfl]
    simp only [Result.andThen_ok]
    rw [run_equalIn_int w 9998 2 .i64 .i64 b d Tryz.underlying2]
    simp only [Result.andThen_ok]
    cases hbd : (b == d) <;> simp
def eq2L : List TypeId := 166 :: 61 :: []
theorem eq2_ok (t : TypeId) (ht : eq2L.contains t = true) (w : World) (x y : Operand) (a b c d : Int) : (do eqGuard .eql t x y (.agg #[.int .i64 a, .int .i64 b]) (.agg #[.int .i64 c, .int .i64 d]); binOp .eql t (.agg #[.int .i64 a, .int .i64 b]) (.agg #[.int .i64 c, .int .i64 d]) : Sem Value).run Tryz.prog w = .ok (.bool (a == c && b == d)) w := by
  have h : t ∈ eq2L := by simpa using ht
  unfold eq2L at h
  rcases List.mem_cons.1 h with rfl | h 
  exact eqFiv w x y a b c d 
  rcases List.mem_cons.1 h with rfl | h 
  exact eqGrid2 w x y a b c d 
  cases h
def ftyL : List (TypeId × List (TypeId × Nat)) := (26, [(24, 0), (24, 2)]) :: (28, [(26, 0), (26, 4), (26, 8)]) :: (53, [(26, 0), (26, 4), (26, 8), (26, 12), (26, 16)]) :: (59, [(26, 0), (26, 4)]) ::   []
structure FtyOK (P : Program) (l : List (TypeId × List (TypeId × Nat))) : Prop where
  all : ∀ p ∈ l, ∀ (k : Nat) (e : TypeId) (off : Nat), p.2[k]? = some (e, off) → ∃ (fields : Array Field) (f : Field), P.underlying p.1 = some (.struct fields) ∧ fields[k]? = some f ∧ f.type = e ∧ f.offset = off
theorem FtyOK.nil {P : Program} : FtyOK P [] := ⟨fun _ h => by cases h⟩
theorem FtyOK.cons {P : Program} {p : TypeId × List (TypeId × Nat)} {l : List (TypeId × List (TypeId × Nat))} {fields : Array Field} (h : P.underlying p.1 = some (.struct fields)) (hk : (fields.toList.map fun f => (f.type, f.offset)) = p.2) (k : FtyOK P l) : FtyOK P (p :: l) := ⟨fun d hd => by
  rcases List.mem_cons.1 hd with rfl | hd
  · intro k e off hq
    rw [← hk, List.getElem?_map] at hq
    obtain ⟨f, hf, hfe⟩ := Option.map_eq_some_iff.1 hq
    injection hfe with h1 h2
    exact ⟨fields, f, h, by simpa using hf, h1, h2⟩
  · exact k.all d hd⟩
theorem ftyL_ok : FtyOK Tryz.prog ftyL := FtyOK.cons Tryz.underlying26 rfl <| FtyOK.cons Tryz.underlying28 rfl <| FtyOK.cons Tryz.underlying53 rfl <| FtyOK.cons Tryz.underlying59 rfl <|   FtyOK.nil
def cfgOf (tab : List (Nat × Con)) : Cfg :=
  { zero := fun t => match findT tys t with
      | some c => some c.zs
      | none => findR arrZ t
    ag := fun t => match findT tys t with
      | some c => some (true, sizes c.zs)
      | none => if plainT.contains t then some (false, 1) else none
    fld := fun t k => match findT tys t with
      | some c => (c.fl[k]?).map (·.1)
      | none => none
    flds := fun t => (findT tys t).map (·.fl)
    bool := fun t => t == 4
    slc := fun t => t == 22
    strT := fun t => strL.contains t
    cnv := fun s d => cnvF s d
    row := fun t => findR rowL t
    arr := fun t => findR arrL t
    calls := fun f args _ G => tabE tab f args G
    wok := fun _ => True
    eq2 := fun t => eq2L.contains t
    fty := fun t k => match findR ftyL t with
      | some l => l[k]?
      | none => none }
theorem cfg_ok {E : Env} {tab : List (Nat × Con)} (h : TabOK Tryz.prog E tab) : CfgOK Tryz.prog E (cfgOf tab) := by
  refine ⟨?_, ?_, ?_, ?_, ?_, ?_, ?_, ?_, ?_, ?_, ?_, ?_, ?_, ?_, ?_, ?_⟩
  · intro t cs hz w
    simp only [cfgOf] at hz
    split at hz
    · rename_i c hc
      injection hz with hz
      subst hz
      obtain ⟨hm, rfl⟩ := findT_spec hc
      exact (tys_ok.all c hm).zero E w
    · exact arrZ_ok.all _ (findR_spec hz) E w
  · intro t b n ha w
    simp only [cfgOf] at ha
    split at ha
    · rename_i c hc
      injection ha with ha
      injection ha with h1 h2
      subst h1 h2
      obtain ⟨hm, rfl⟩ := findT_spec hc
      obtain ⟨k1, k2⟩ := (tys_ok.all c hm).ag w
      exact ⟨k1, k2, by simp⟩
    · split at ha
      · rename_i hm
        injection ha with ha
        injection ha with h1 h2
        subst h1 h2
        obtain ⟨k1, k2⟩ := plainT_ok.all t (by simpa using hm) w
        exact ⟨k1, k2, by simp⟩
      · cases ha
  · intro t k off hf w a
    simp only [cfgOf] at hf
    split at hf
    · rename_i c hc
      obtain ⟨p, hp, rfl⟩ := Option.map_eq_some_iff.1 hf
      obtain ⟨hm, rfl⟩ := findT_spec hc
      exact (tys_ok.all c hm).fld k p hp w a
    · cases hf
  · intro t l hf
    obtain ⟨c, hc, rfl⟩ := Option.map_eq_some_iff.1 hf
    obtain ⟨hm, rfl⟩ := findT_spec hc
    exact (tys_ok.all c hm).flds
  · intro t ht
    have : t = 4 := by simpa [cfgOf] using ht
    subst this
    exact Tryz.underlying4
  · intro t e ht
    exact rowL_ok.all _ (findR_spec ht)
  · intro t n e ht
    exact arrL_ok.all _ (findR_spec ht)
  · intro f args M G r hr hG β w vs _ hv hlen _
    obtain ⟨k, hk, hkr⟩ := tabE_mem hr
    exact (h.all _ hk).calls args G r hkr hG β w vs hv hlen
  · intro f args M G r hr
    obtain ⟨k, hk, hkr⟩ := tabE_mem hr
    exact (h.all _ hk).nptr args G r hkr
  · intro f args M G r hr
    obtain ⟨k, hk, hkr⟩ := tabE_mem hr
    exact (h.all _ hk).body
  · intro t ht
    have : t = 22 := by simpa [cfgOf] using ht
    subst this
    exact ⟨_, Tryz.underlying22⟩
  · intro t ht
    exact strL_ok.all t (by simpa [cfgOf] using ht)
  · intro s d k h
    exact cnvF_ok h
  · intro t ht
    have : t = 22 := by simpa [cfgOf] using ht
    subst this
    exact fun ty w n x => apd_ok ty w n x
  · intro t ht w x y a b c d
    exact eq2_ok t ht w x y a b c d
  · intro t k e off hf
    simp only [cfgOf] at hf
    split at hf
    · rename_i l hl
      exact ftyL_ok.all _ (findR_spec hl) k e off hf
    · cases hf

def tabInt : List (Nat × Con) := [(151, kII (.a2 2) (· + ·)), (181, kII (.a2 0) (fun l m => max l m + 1)), (182, kII (.a2 1) (fun l m => max l m + 1)),
  (156, kI (.a1 0) id), (175, kIn fun x => .a2 3 x (.lit 0)), (171, kIIn (.a2 3)), (176, kII (.a2 6) max), (207, kDM),
  (76, kFrom), (211, kMag), (170, kIb fun x => .eq x (.lit 1))]
theorem Lim.add2 {l m : Nat} {x y : Int} (h : Lim l x) (k : Lim m y) : Lim (max l m + 1) (x + y) := (h.mono (Nat.le_max_left l m)).add (k.mono (Nat.le_max_right l m))
theorem Lim.neg {l : Nat} {x : Int} (h : Lim l x) : Lim l (-x) := by unfold Lim at *; rw [Int.natAbs_neg]; exact h
theorem Lim.sub2 {l m : Nat} {x y : Int} (h : Lim l x) (k : Lim m y) : Lim (max l m + 1) (x - y) := by rw [Int.sub_eq_add_neg]; exact h.add2 k.neg
end Go.Proofs.YtifeacfljfmnpaaGreat
end

section
set_option maxRecDepth 100000
namespace Go.Proofs.YtifeacfljfmnpaaGreat
open Go.RowKit
theorem dq_pos {x y : Int} (h : 0 < y) : dq x y = x / y := by
  unfold dq
  rw [if_neg (by omega), Int.fdiv_eq_ediv_of_nonneg _ (by omega)]
theorem dq_one (x : Int) : dq x 1 = x := by rw [dq_pos (by omega), Int.ediv_one]
theorem gcd_one_right (x : Int) : ((Nat.gcd x.natAbs (1 : Int).natAbs : Nat) : Int) = 1 := by simp
theorem div_at_one {n : Int} {g : Nat} (h : g = 1) : n = n / (g : Int) := by subst h; simp
theorem div_at_one' {n g : Nat} (h : g = 1) : n = n / g := by subst h; simp
theorem add_parts (a b : Rat) : (a + b).num = (a.num * ((b.den / a.den.gcd b.den : Nat) : Int) + b.num * ((a.den / a.den.gcd b.den : Nat) : Int)) / ((a.num * ((b.den / a.den.gcd b.den : Nat) : Int) + b.num * ((a.den / a.den.gcd b.den : Nat) : Int)).natAbs.gcd (a.den.gcd b.den) : Nat) ∧
    (a + b).den = a.den / a.den.gcd b.den * b.den / (a.num * ((b.den / a.den.gcd b.den : Nat) : Int) + b.num * ((a.den / a.den.gcd b.den : Nat) : Int)).natAbs.gcd (a.den.gcd b.den) := by
  have e : a + b = Rat.add a b := rfl
  rw [e]
  unfold Rat.add
  simp only
  split
  · rename_i hg
    simp [hg]
  · rename_i hg
    simp only [Rat.maybeNormalize]
    split
    · rename_i h1
      exact ⟨div_at_one h1, div_at_one' h1⟩
    · simp [Int.divExact, Nat.divExact]
theorem mul_parts (a b : Rat) : (a * b).num = a.num / (a.num.natAbs.gcd b.den : Nat) * (b.num / (b.num.natAbs.gcd a.den : Nat)) ∧ (a * b).den = a.den / b.num.natAbs.gcd a.den * (b.den / a.num.natAbs.gcd b.den) := by
  have e : a * b = Rat.mul a b := rfl
  rw [e]
  unfold Rat.mul
  simp [Int.divExact, Nat.divExact]


def IsRat (w : World) (v : Value) (q : Rat) : Prop := ∃ a b c d, v = .agg #[a, b, c, d] ∧ IsInt w (.agg #[a, b]) q.num ∧ IsInt w (.agg #[c, d]) (q.den : Int)
def LimQ (l : Nat) (q : Rat) : Prop := Lim l q.num ∧ Lim l (q.den : Int)
theorem one_rat {E : Env} {w : World} {s t : IT} {l m : Nat} {v : Value} : one E w (true, [.int s l, .int t m]) v ↔ ∃ a b c d, v = .agg #[a, b, c, d] ∧ IsInt w (.agg #[a, b]) (s.den E) ∧ Lim l (s.den E) ∧ IsInt w (.agg #[c, d]) (t.den E) ∧ Lim m (t.den E) := by
  constructor
  · rintro ⟨vs, rfl, l1, r1, h1, ⟨x, y, rfl, hI, hl⟩, l2, r2, rfl, ⟨z, u, rfl, hI2, hl2⟩, h3⟩
    simp only [chunks] at h3
    subst h3
    subst h1
    exact ⟨x, y, z, u, rfl, hI, hl, hI2, hl2⟩
  · rintro ⟨x, y, z, u, rfl, hI, hl, hI2, hl2⟩
    exact ⟨[x, y, z, u], rfl, [x, y], [z, u], rfl, ⟨x, y, rfl, hI, hl⟩, [z, u], [], rfl, ⟨z, u, rfl, hI2, hl2⟩, rfl⟩
def qE (l : List Rat) : Env := ⟨fun i => if i % 2 = 0 then (l.getD (i / 2) 0).num else ((l.getD (i / 2) 0).den : Int), fun _ => false, fun _ => (false, []), fun _ => []⟩
def zE (l : List Int) : Env := ⟨fun i => l.getD i 0, fun _ => false, fun _ => (false, []), fun _ => []⟩
def argZ (i : Nat) : AV := .val true [.int (.var i) 400000]
def argQ (i : Nat) : AV := .val true [.int (.var (2 * i)) 100000, .int (.var (2 * i + 1)) 100000]
theorem z8q {E : Env} : Asm.holds E [] := fun p hp => by cases hp

theorem tabInt_ok {E : Env} : TabOK Tryz.prog E tabInt := by
  refine .cons (kII_ok (· * ·) (fun _ _ => rfl) (fun w v1 v2 z1 z2 l m h1 h2 l1 l2 b1 b2 => mul_calls w v1 v2 z1 z2 h1 h2 (l1.sm (by omega)) (l2.sm (by omega))) (fun _ _ _ _ h k => h.mul k) ⟨_, Tryz.func151, by decide +kernel, by kernel_rfl⟩) ?_
  refine .cons (kII_ok (· + ·) (fun _ _ => rfl) (fun w v1 v2 z1 z2 l m h1 h2 l1 l2 b1 b2 => add_calls w v1 v2 z1 z2 h1 h2 (l1.sm (by omega)) (l2.sm (by omega))) (fun _ _ _ _ h k => h.add2 k) ⟨_, Tryz.func181, by decide +kernel, by kernel_rfl⟩) ?_
  refine .cons (kII_ok (· - ·) (fun _ _ => rfl) (fun w v1 v2 z1 z2 l m h1 h2 l1 l2 b1 b2 => sub_calls w v1 v2 z1 z2 h1 h2 (l1.sm (by omega)) (l2.sm (by omega))) (fun _ _ _ _ h k => h.sub2 k) ⟨_, Tryz.func182, by decide +kernel, by kernel_rfl⟩) ?_
  refine .cons (kI_ok (- ·) (fun _ => rfl) (fun w v1 z1 l h1 l1 b1 => neg_calls w v1 z1 h1 (l1.sm (by omega))) (fun _ _ h => h.neg) ⟨_, Tryz.func156, by decide +kernel, by kernel_rfl⟩) ?_
  refine .cons (kIn_ok (cmpZ · 0) (fun _ => rfl) (fun w v1 z1 h1 => sign_calls w v1 z1 h1) ⟨_, Tryz.func175, by decide +kernel, by kernel_rfl⟩) ?_
  refine .cons (kIIn_ok cmpZ (fun _ _ => rfl) (fun w v1 v2 z1 z2 h1 h2 => cmp_calls w v1 v2 z1 z2 h1 h2) ⟨_, Tryz.func171, by decide +kernel, by kernel_rfl⟩) ?_
  refine .cons (kII_ok (fun x y => ((Nat.gcd x.natAbs y.natAbs : Nat) : Int)) (fun _ _ => rfl) (fun w v1 v2 z1 z2 l m h1 h2 l1 l2 b1 b2 => gcd_calls w v1 v2 z1 z2 h1 h2 (l1.sm (by omega)) (l2.sm (by omega))) (fun _ _ _ _ h k => gcd_lim h k) ⟨_, Tryz.func176, by decide +kernel, by kernel_rfl⟩) ?_
  refine .cons kDM_ok ?_
  refine .cons (kFrom_ok (fun w n h1 h2 => fromInt64_calls w n h1 h2) ⟨_, Tryz.func76, by decide +kernel, by kernel_rfl⟩) ?_
  refine .cons kMag_ok ?_
  exact .cons (kIb_ok (· == 1) (fun _ => rfl) (fun w v1 z1 h1 => isOne_calls w v1 z1 h1) ⟨_, Tryz.func170, by decide +kernel, by kernel_rfl⟩) .nil

end Go.Proofs.YtifeacfljfmnpaaGreat
end

section
set_option maxRecDepth 100000
namespace Go.Proofs.YtifeacfljfmnpaaGreat
open Go.RowKit
theorem mixed : Tryz.prog.follows .mixedOrders = true := by decide +kernel
section
variable {tab : List (Nat × Con)} {f : Nat} {fn : Func} {T : Tree} {w : World}
theorem walk0 (ht : TabOK Tryz.prog (zE []) tab) (hf : Tryz.prog.funcs[f]? = some fn) (hT : funE (cfgOf tab) fn [] [] = some T) (h4 : fn.results.toList.length ≤ 4) :
    Calls Tryz.prog f #[] w fun e w' => ∃ β v, e = .returned v ∧ (toAV (T.pick (zE []))).holds (zE []) β w' v ∧ Ext w w' := by
  refine z5q mixed (cfg_ok ht) z8q hf h4 hT (Nat.zero_le _) rfl w [] rfl ?_
  intro i x hx
  cases hx
theorem walkZ1 {z1 : Int} {v1 : Value} (ht : TabOK Tryz.prog (zE [z1]) tab) (hf : Tryz.prog.funcs[f]? = some fn) (hT : funE (cfgOf tab) fn [] [argZ 0] = some T) (h4 : fn.results.toList.length ≤ 4) (hn : 1 ≤ fn.ntmps)
    (h1 : IsInt w v1 z1) (l1 : Lim 400000 z1) :
    Calls Tryz.prog f #[v1] w fun e w' => ∃ β v, e = .returned v ∧ (toAV (T.pick (zE [z1]))).holds (zE [z1]) β w' v ∧ Ext w w' := by
  refine z5q mixed (cfg_ok ht) z8q hf h4 hT hn rfl w [v1] rfl ?_
  intro i x hx
  match i, hx with
  | 0, hx => injection hx with hx; subst hx; exact ⟨fun _ => 0, v1, rfl, z10q.2 ⟨h1, l1⟩⟩
theorem walkZ2 {z1 z2 : Int} {v1 v2 : Value} (ht : TabOK Tryz.prog (zE [z1, z2]) tab) (hf : Tryz.prog.funcs[f]? = some fn) (hT : funE (cfgOf tab) fn [] [argZ 0, argZ 1] = some T) (h4 : fn.results.toList.length ≤ 4) (hn : 2 ≤ fn.ntmps)
    (h1 : IsInt w v1 z1) (h2 : IsInt w v2 z2) (l1 : Lim 400000 z1) (l2 : Lim 400000 z2) :
    Calls Tryz.prog f #[v1, v2] w fun e w' => ∃ β v, e = .returned v ∧ (toAV (T.pick (zE [z1, z2]))).holds (zE [z1, z2]) β w' v ∧ Ext w w' := by
  refine z5q mixed (cfg_ok ht) z8q hf h4 hT hn rfl w [v1, v2] rfl ?_
  intro i x hx
  match i, hx with
  | 0, hx => injection hx with hx; subst hx; exact ⟨fun _ => 0, v1, rfl, z10q.2 ⟨h1, l1⟩⟩
  | 1, hx => injection hx with hx; subst hx; exact ⟨fun _ => 0, v2, rfl, z10q.2 ⟨h2, l2⟩⟩
theorem argQ_holds {E : Env} {β : Nat → Nat} {v : Value} {q : Rat} {i : Nat} (h : IsRat w v q) (l : LimQ 100000 q) (e1 : E.i (2 * i) = q.num) (e2 : E.i (2 * i + 1) = (q.den : Int)) : (argQ i).holds E β w v := by
  obtain ⟨a, b, c, d, rfl, h1, h2⟩ := h
  refine one_rat.2 ⟨a, b, c, d, rfl, ?_, ?_, ?_, ?_⟩
  · show IsInt w _ (E.i (2 * i)); rw [e1]; exact h1
  · show Lim 100000 (E.i (2 * i)); rw [e1]; exact l.1
  · show IsInt w _ (E.i (2 * i + 1)); rw [e2]; exact h2
  · show Lim 100000 (E.i (2 * i + 1)); rw [e2]; exact l.2
theorem walkQ1 {q1 : Rat} {v1 : Value} (ht : TabOK Tryz.prog (qE [q1]) tab) (hf : Tryz.prog.funcs[f]? = some fn) (hT : funE (cfgOf tab) fn [] [argQ 0] = some T) (h4 : fn.results.toList.length ≤ 4) (hn : 1 ≤ fn.ntmps)
    (h1 : IsRat w v1 q1) (l1 : LimQ 100000 q1) :
    Calls Tryz.prog f #[v1] w fun e w' => ∃ β v, e = .returned v ∧ (toAV (T.pick (qE [q1]))).holds (qE [q1]) β w' v ∧ Ext w w' := by
  refine z5q mixed (cfg_ok ht) z8q hf h4 hT hn rfl w [v1] rfl ?_
  intro i x hx
  match i, hx with
  | 0, hx => injection hx with hx; subst hx; exact ⟨fun _ => 0, v1, rfl, argQ_holds h1 l1 rfl rfl⟩
theorem walkQ2 {q1 q2 : Rat} {v1 v2 : Value} (ht : TabOK Tryz.prog (qE [q1, q2]) tab) (hf : Tryz.prog.funcs[f]? = some fn) (hT : funE (cfgOf tab) fn [] [argQ 0, argQ 1] = some T) (h4 : fn.results.toList.length ≤ 4) (hn : 2 ≤ fn.ntmps)
    (h1 : IsRat w v1 q1) (h2 : IsRat w v2 q2) (l1 : LimQ 100000 q1) (l2 : LimQ 100000 q2) :
    Calls Tryz.prog f #[v1, v2] w fun e w' => ∃ β v, e = .returned v ∧ (toAV (T.pick (qE [q1, q2]))).holds (qE [q1, q2]) β w' v ∧ Ext w w' := by
  refine z5q mixed (cfg_ok ht) z8q hf h4 hT hn rfl w [v1, v2] rfl ?_
  intro i x hx
  match i, hx with
  | 0, hx => injection hx with hx; subst hx; exact ⟨fun _ => 0, v1, rfl, argQ_holds h1 l1 rfl rfl⟩
  | 1, hx => injection hx with hx; subst hx; exact ⟨fun _ => 0, v2, rfl, argQ_holds h2 l2 rfl rfl⟩
theorem walkQ2f {q1 q2 : Rat} {v1 v2 : Value} {g : Nat} (ht : TabOK Tryz.prog (qE [q1, q2]) tab) (hf : Tryz.prog.funcs[f]? = some fn) (hT : funE (cfgOf tab) fn [] [argQ 0, argQ 1, .val false [.fn g]] = some T) (h4 : fn.results.toList.length ≤ 4) (hn : 3 ≤ fn.ntmps)
    (h1 : IsRat w v1 q1) (h2 : IsRat w v2 q2) (l1 : LimQ 100000 q1) (l2 : LimQ 100000 q2) :
    Calls Tryz.prog f #[v1, v2, .func (.func g) #[] #[]] w fun e w' => ∃ β v, e = .returned v ∧ (toAV (T.pick (qE [q1, q2]))).holds (qE [q1, q2]) β w' v ∧ Ext w w' := by
  refine z5q mixed (cfg_ok ht) z8q hf h4 hT hn rfl w [v1, v2, .func (.func g) #[] #[]] rfl ?_
  intro i x hx
  match i, hx with
  | 0, hx => injection hx with hx; subst hx; exact ⟨fun _ => 0, v1, rfl, argQ_holds h1 l1 rfl rfl⟩
  | 1, hx => injection hx with hx; subst hx; exact ⟨fun _ => 0, v2, rfl, argQ_holds h2 l2 rfl rfl⟩
  | 2, hx => injection hx with hx; subst hx; exact ⟨fun _ => 0, _, rfl, ⟨⟨[_], [], rfl, rfl, rfl⟩, rfl⟩⟩
end
theorem one_calls (w : World) : Calls Tryz.prog 173 #[] w (Ret (fun v w' => IsInt w' v 1) w) := by
  refine (walk0 (T := .leaf [(true, [.int (.lit 1) 3])]) tabInt_ok Tryz.func173 (by kernel_rfl) (by decide +kernel)).mono ?_
  rintro e w' ⟨β, v, rfl, hh, ex⟩
  exact ⟨v, rfl, (z10q.1 hh).1, ex⟩
theorem divisor_calls (w : World) (v1 v2 : Value) (z1 z2 : Int) (h1 : IsInt w v1 z1) (h2 : IsInt w v2 z2) (l1 : Lim 400000 z1) (l2 : Lim 400000 z2) :
    Calls Tryz.prog 183 #[v1, v2] w (Ret (fun v w' => IsInt w' v ((Nat.gcd z1.natAbs z2.natAbs : Nat) : Int)) w) := by
  refine (walkZ2 (T := .ite (.eq (.var 1) (.lit 1)) (.leaf [(true, [.int (.var 1) 400000])]) (.leaf [(true, [.int (.a2 6 (.var 0) (.var 1)) 400000])])) tabInt_ok Tryz.func183 (by kernel_rfl) (by decide +kernel) (by decide +kernel) h1 h2 l1 l2).mono ?_
  rintro e w' ⟨β, v, rfl, hh, ex⟩
  refine ⟨v, rfl, ?_, ex⟩
  simp only [Tree.pick] at hh
  split at hh
  · rename_i hz
    have hz' : z2 = 1 := by simpa [BT.den, IT.den, zE] using hz
    have := (z10q.1 hh).1
    have e1 : (IT.var 1).den (zE [z1, z2]) = z2 := rfl
    rw [e1] at this
    rw [hz', gcd_one_right]
    rw [hz'] at this
    exact this
  · exact (z10q.1 hh).1
theorem quotient_calls (w : World) (v1 v2 : Value) (z1 z2 : Int) (h1 : IsInt w v1 z1) (h2 : IsInt w v2 z2) (l1 : Lim 400000 z1) (l2 : Lim 400000 z2) :
    Calls Tryz.prog 184 #[v1, v2] w (Ret (fun v w' => IsInt w' v (dq z1 z2)) w) := by
  refine (walkZ2 (T := .ite (.eq (.var 1) (.lit 1)) (.leaf [(true, [.int (.var 0) 400000])]) (.leaf [(true, [.int (.a2 4 (.var 0) (.var 1)) 400000])])) tabInt_ok Tryz.func184 (by kernel_rfl) (by decide +kernel) (by decide +kernel) h1 h2 l1 l2).mono ?_
  rintro e w' ⟨β, v, rfl, hh, ex⟩
  refine ⟨v, rfl, ?_, ex⟩
  simp only [Tree.pick] at hh
  split at hh
  · rename_i hz
    have hz' : z2 = 1 := by simpa [BT.den, IT.den, zE] using hz
    rw [hz', dq_one]
    exact (z10q.1 hh).1
  · exact (z10q.1 hh).1
theorem clone_int_calls (w : World) (v1 : Value) (z1 : Int) (h1 : IsInt w v1 z1) (l1 : Lim 400000 z1) :
    Calls Tryz.prog 157 #[v1] w (Ret (fun v w' => IsInt w' v z1) w) := by
  refine (walkZ1 (T := .leaf [(true, [.int (.var 0) 400000])]) tabInt_ok Tryz.func157 (by kernel_rfl) (by decide +kernel) (by decide +kernel) h1 l1).mono ?_
  rintro e w' ⟨β, v, rfl, hh, ex⟩
  exact ⟨v, rfl, (z10q.1 hh).1, ex⟩

end Go.Proofs.YtifeacfljfmnpaaGreat
end

section
set_option maxRecDepth 100000
namespace Go.Proofs.YtifeacfljfmnpaaGreat
open Go.RowKit
theorem run_append_nil' {P : Program} {w : World} (base : Nat) (t ty e : TypeId) (i : TypeInfo) (size : Nat) (ht : P.underlying t = some (.slice e)) (hi : P.info? e = some i)
    (v : Value) (n : Nat) (xs : List Value) (hown : w.ownsRow base e size v n xs) (c : Nat) : (Builtin.append_ #[t, t] ty #[v, .slice none 0 c]).run P w = .ok v w := by
  rcases hown.2 with ⟨rfl, rfl⟩ | ⟨g, cap, cur, rfl, _, _, hnc, _⟩
  · simp [Builtin.append_, run_underlying ht, sizeOf, typeInfo, hi, Builtin.lenOf, Builtin.firstCells]
  · simp [Builtin.append_, run_underlying ht, sizeOf, typeInfo, hi, Builtin.lenOf, Builtin.firstCells, hnc, storeCells]
theorem run_append_cons (w : World) (ty : TypeId) (x : Nat) (X : Int) (hX : X = x) (ao : Option Addr) (xs : List Nat) (c : Nat) (lx : xs.length ≤ 1099511627776) (h : Cells w ao xs) :
    ∃ ao' cap w1, (Builtin.append_ #[22, 22] ty #[.slice (some ⟨w.heap.size, 0, none⟩) 1 1, .slice ao xs.length c]).run Tryz.prog (w.alloc (.cells #[.int .u32 X] 149)) = .ok (.slice ao' (xs.length + 1) cap) w1 ∧
      xs.length + 1 ≤ cap ∧ cap ≤ 9223372036854775807 ∧ Ext w w1 ∧ Cells w1 ao' (x :: xs) := by
  subst hX
  obtain ⟨i0, hi, hz0, hz1, hz2⟩ := info_parts info_u32
  have hown : (w.alloc (.cells #[.int .u32 (x : Int)] 149)).ownsRow w.heap.size 149 1 (.slice (some ⟨w.heap.size, 0, none⟩) 1 1) 1 [.int .u32 (x : Int)] :=
    ⟨by simp, .inr ⟨w.heap.size, 1, #[.int .u32 (x : Int)], rfl, Nat.le_refl _, heap_alloc_new w _, Nat.le_refl _, by unfold maxLen; omega, by simp, by simp⟩⟩
  rcases ao with _ | a
  · obtain rfl : xs = [] := by
      rcases h with h | ⟨b, off, hh, _⟩
      · exact h
      · cases hh
    exact ⟨_, 1, _, run_append_nil' (P := Tryz.prog) w.heap.size 22 ty 149 i0 1 Tryz.underlying22 hi _ 1 _ hown c, by simp, by omega, (Ext.refl w).alloc _, (Blk.new w [x]).cells⟩
  · have hnews : ∀ j u, (xs.map fun x => Value.int .u32 ((x : Nat) : Int))[j]? = some u → (w.alloc (.cells #[.int .u32 (x : Int)] 149)).cell? (a.add j) = some u := by
      intro j u hu
      refine ((Ext.refl w).alloc _).cell ?_
      rcases h with h | ⟨b, off, hh, hx⟩
      · subst h; simp at hu
      · injection hh with hh
        subst hh
        rw [List.getElem?_map] at hu
        obtain ⟨x, hx1, rfl⟩ := Option.map_eq_some_iff.1 hu
        have hj : j < xs.length := (List.getElem?_eq_some_iff.1 hx1).1
        have := hx j hj
        rw [List.getD_eq_getElem?_getD, hx1] at this
        by_cases h0 : j = 0
        · subst h0; simpa [Addr.add] using this
        · simpa [Addr.add, h0] using this
    obtain ⟨v', w1, hrun, hown1, hgrow, hnil⟩ := run_append_own (P := Tryz.prog) (w.alloc (.cells #[.int .u32 (x : Int)] 149)) w.heap.size 22 ty 149 i0 (.int .u32 0) 1 4 Tryz.underlying22 hi hz0 hz1 hz2 rfl (by decide) _ 1 _ hown a xs.length c (xs.map fun x => Value.int .u32 ((x : Nat) : Int)) (by simp) hnews
      (by intro u hu; obtain ⟨x, _, rfl⟩ := List.mem_map.1 hu; rfl) (by unfold maxLen; omega) (by omega) (by simp)
    have hown2 : w1.ownsRow w.heap.size 149 1 v' (x :: xs).length ((x :: xs).map fun x => Value.int .u32 ((x : Nat) : Int)) := by
      rw [List.length_cons, Nat.add_comm xs.length 1]
      exact hown1
    have hE : Ext w w1 := Below.grown ((Ext.refl w).alloc _) hgrow (by simp) (fun k hk => by simp [Value.ownBlock] at hk; omega)
    rcases hown2.2 with ⟨rfl, h0⟩ | ⟨g, cap, cur, rfl, hg, _, hnc, hcm, _, _⟩
    · simp at h0
    · exact ⟨_, cap, w1, hrun, hnc, by unfold maxLen at hcm; omega, hE, (Blk.of_owns hown2).cells⟩

theorem limbs_one (n : Nat) : limbs (val [n]) = limbs n := by simp [val]

theorem Blk.take {w : World} {g : Nat} {zs : List Nat} (h : Blk w g zs) (k : Nat) : Blk w g (zs.take k) := by
  obtain ⟨sp, h⟩ := h
  refine ⟨u32s (zs.drop k) ++ sp, ?_⟩
  rw [h, ← Array.append_assoc]
  congr 2
  congr 1
  apply Array.toList_inj.1
  simp only [u32s, Array.toList_append]
  rw [← List.map_append, List.take_append_drop]
theorem Blk.trim {w : World} {g : Nat} {zs : List Nat} (h : Blk w g zs) (hd : Dig zs) : Blk w g (limbs (val zs)) := by
  rw [← take_trimN hd]; exact h.take _
def FreshLimbs (B n : Nat) (v : Value) (w : World) : Prop := ∃ g cap, v = .slice (some ⟨g, 0, none⟩) (limbs n).length cap ∧ B ≤ g ∧ (limbs n).length ≤ cap ∧ cap ≤ 9223372036854775807 ∧ Blk w g (limbs n)
theorem FreshLimbs.is {B n : Nat} {v : Value} {w : World} (h : FreshLimbs B n v w) : IsLimbs n v w := by
  obtain ⟨g, cap, h1, _, h3, h4, h5⟩ := h
  exact ⟨some ⟨g, 0, none⟩, cap, h1, h3, h4, h5.cells⟩

set_option maxRecDepth 100000 in
set_option maxHeartbeats 1600000 in
theorem times_fresh (w : World) (ax ay : Option Addr) (xs ys : List Nat) (cx cy : Nat) (lx : xs.length ≤ 1099511627776) (ly : ys.length ≤ 1099511627776) (hx : Cells w ax xs) (hy : Cells w ay ys) (dx : Dig xs) (dy : Dig ys) :
    Calls Tryz.prog 165 #[.slice ax xs.length cx, .slice ay ys.length cy] w (Ret (FreshLimbs w.heap.size (val xs * val ys)) w) := by
  have hmk := run_mk (xs.length + ys.length) (by omega) (↑xs.length + ↑ys.length) (by omega)
  go_enter Tryz.func165, Tryz.ntmps165
  go_wp2
  clear hmk
  have h0 : TimesOut w w.heap.size xs ys 0 (w.alloc (.cells (u32s (List.replicate (xs.length + ys.length) 0)) 149)) := by
    refine ⟨List.replicate (xs.length + ys.length) 0, by simp, Dig.replicate _, Blk.new _ _, (Ext.refl w).alloc _, ?_, ?_⟩
    · have : ∀ n, val (List.replicate n 0) = 0 := by
        intro n; induction n with
        | zero => rfl
        | succ n ih => rw [List.replicate_succ, val, ih]
      rw [this]; simp [val]
    · intro j _; simp only [List.getD_eq_getElem?_getD, List.getElem?_replicate]; split <;> rfl
  go_loopw [6, 7, 8] (fun i _ _ wr => ∃ k : Nat, k ≤ xs.length ∧ i = .int .i64 k ∧ TimesOut w w.heap.size xs ys k wr) (fun i _ _ _ => xs.length - (intOf i).toNat)
  case atStart => exact ⟨0, Nat.zero_le _, rfl, h0⟩
  case round =>
    obtain ⟨i, hi, rfl, hR⟩ := hrel
    clear h0
    by_cases hi2 : i < xs.length
    · have hR0 := hR.begin_
      clear hR
      obtain ⟨b1, o1, rfl, hx1⟩ := hx.at_ (by omega)
      have bx0 := dx i
      go_wp2
      obtain ⟨wo, rfl⟩ : ∃ wo : World, wo = wr := ⟨_, rfl⟩
      go_loopw [7, 8] (fun c n wr => ∃ k cv : Nat, k ≤ ys.length ∧ n = .int .i64 k ∧ c = .int .u64 cv ∧ (cv : Int) < 1000000000 ∧ TimesIn w w.heap.size xs ys i k cv wr) (fun _ n _ => ys.length - (intOf n).toNat)
      case atStart => exact ⟨0, 0, Nat.zero_le _, rfl, rfl, by omega, hR0⟩
      case round =>
        obtain ⟨k, cv, hk, rfl, rfl, hcv, hR⟩ := hrel
        clear hR0
        by_cases hk2 : k < ys.length
        · obtain ⟨b2, o2, rfl, hy1⟩ := hy.at_ (by omega)
          obtain ⟨z, bz, hzc, hzf, hE, HST⟩ := hR.at_ (Nat.le_refl _) hi2 hk2
          have hcx := hE.cell (hx1 i hi2)
          have hcy := hE.cell (hy1 k hk2)
          have by0 := dy k
          clear hR hx1 hy1 dx dy hx hy
          generalize xs.getD i 0 = x at *
          generalize ys.getD k 0 = y at *
          have hm := mul_lt x y bx0 by0
          have bm : (x : Int) * (y : Int) ≤ 999999998000000001 := by rw [← Int.natCast_mul]; omega
          have bm0 : 0 ≤ (x : Int) * (y : Int) := by rw [← Int.natCast_mul]; omega
          have bx : (x : Int) < 1000000000 := by omega
          have by_ : (y : Int) < 1000000000 := by omega
          clear bx0 by0 hm
          have hi3 : (i : Int) < (xs.length : Int) := by omega
          have hk3 : (k : Int) < (ys.length : Int) := by omega
          go_wp2
          go_quiet (fail)
          go_wp2
          go_roundw
          case rel => exact ⟨k + 1, (cv + z + x * y) / 1000000000, by omega, by go_num, by rw [Int.natCast_ediv]; simp, by rw [Int.natCast_ediv]; simp; omega, HST.out _ _ _ rfl (by rw [Int.natCast_emod]; simp)⟩
          case measure => simp [intOf]; omega
        · obtain ⟨hzc, hzf, HST⟩ := hR.end_ (Nat.le_refl _) hi2 (by omega) (by omega)
          clear hx1 hR dx dy hx hy bx0
          go_wp2
          go_roundw
          case rel => exact ⟨i + 1, by omega, by go_num, HST.out _ (by omega)⟩
          case measure => simp [intOf]; omega
    · obtain ⟨zs, h1, h2, h3, h4, h5, _⟩ := hR
      rw [List.take_of_length_le (by omega)] at h5
      have R1 := Lib.hid h1
      have R5 := Lib.hid h5
      clear h1 h5 dx dy
      go_wp2_with fail
      rw [← R1.out]
      refine (rtrim_calls _ _ _ _ (Nat.le_refl _) (by rw [R1.out]; omega) h3.cells h2).mono ?_
      rintro e w' ⟨rfl, rfl⟩
      go_wp2
      go_ret
      exact ⟨_, rfl, by rw [← R5.out]; exact ⟨_, _, rfl, Nat.le_refl _, by rw [← trimN_length h2]; exact trimN_le _ _, by rw [R1.out]; omega, h3.trim h2⟩, h4⟩

set_option maxRecDepth 100000 in
set_option maxHeartbeats 800000 in
theorem minus_fresh (w : World) (ax ay : Option Addr) (m n : Nat) (cx cy : Nat) (lx : (limbs m).length ≤ 1099511627776) (hmn : n ≤ m) (hx : Cells w ax (limbs m)) (hy : Cells w ay (limbs n)) :
    Calls Tryz.prog 167 #[.slice ax (limbs m).length cx, .slice ay (limbs n).length cy] w (Ret (FreshLimbs w.heap.size (m - n)) w) := by
  have hle := z12q hmn
  have dx := z6q m
  have dy := z6q n
  have HV : Hid (val (limbs n) ≤ val (limbs m)) := by unfold Hid; rw [z1q, z1q]; exact hmn
  have HE : Hid (val (limbs m) - val (limbs n) = m - n) := by unfold Hid; rw [z1q, z1q]
  clear hmn
  generalize limbs m = xs at *
  generalize limbs n = ys at *
  have hmk := run_mk xs.length (by omega) (↑xs.length) (by omega)
  go_enter Tryz.func167, Tryz.ntmps167
  go_wp2
  clear hmk
  have h0 : SubRel w w.heap.size xs ys 0 0 (List.replicate xs.length 0) (w.alloc (.cells (u32s (List.replicate xs.length 0)) 149)) :=
    ⟨by simp, Dig.replicate _, Blk.new _ _, (Ext.refl w).alloc _, by simp [val]⟩
  go_loopw [6, 7, 8] (fun c n _ wr => ∃ (k bv : Nat) (zs : List Nat), k ≤ xs.length ∧ n = .int .i64 k ∧ c = .int .u32 bv ∧ bv ≤ 1 ∧ SubRel w w.heap.size xs ys k bv zs wr) (fun _ n _ _ => xs.length - (intOf n).toNat)
  case atStart => exact ⟨0, 0, _, Nat.zero_le _, rfl, rfl, by omega, h0⟩
  case round =>
    obtain ⟨k, bv, zs, hk, rfl, rfl, hbv, hR⟩ := hrel
    clear h0
    by_cases hk2 : k < xs.length
    · have hzc := hR.2.2.1.cell k (by have := hR.1; omega)
      have hzf := hR.2.2.1.frozen k
      obtain ⟨b1, o1, rfl, hx1⟩ := hx.at_ (by omega)
      have hcx := hR.2.2.2.1.cell (hx1 k hk2)
      have bx0 := dx k
      have by0 := dy k
      have hst := fun d bv' hd he V hV => hR.step (Nat.le_refl _) hk2 d bv' hd he (V := V) hV
      have HST := Lib.hid hst
      clear hst hx1
      by_cases hk3 : k < ys.length
      · obtain ⟨b2, o2, rfl, hy1⟩ := hy.at_ (by omega)
        have hcy := hR.2.2.2.1.cell (hy1 k hk3)
        clear hy1
        generalize xs.getD k 0 = x at *
        generalize ys.getD k 0 = y at *
        have bx : (x : Int) < 1000000000 := by omega
        have by_ : (y : Int) < 1000000000 := by omega
        clear bx0 by0
        by_cases hb : (1000000000 : Int) ≤ x + 1000000000 - bv - y
        · go_wp2
          go_roundw
          case rel => exact ⟨k + 1, 0, _, by omega, by go_num, by go_num, by omega, HST.out (x - bv - y) 0 (by omega) (by omega) _ (by omega)⟩
          case measure => simp [intOf]; omega
        · go_wp2
          go_roundw
          case rel => exact ⟨k + 1, 1, _, by omega, by go_num, by go_num, by omega, HST.out (x + 1000000000 - bv - y) 1 (by omega) (by omega) _ (by omega)⟩
          case measure => simp [intOf]; omega
      · have hy0 : ys.getD k 0 = 0 := by rw [List.getD_eq_getElem?_getD, List.getElem?_eq_none (by omega)]; rfl
        rw [hy0] at HST
        clear hy0 by0
        generalize xs.getD k 0 = x at *
        have bx : (x : Int) < 1000000000 := by omega
        clear bx0
        by_cases hb : (1000000000 : Int) ≤ x + 1000000000 - bv
        · go_wp2
          go_roundw
          case rel => exact ⟨k + 1, 0, _, by omega, by go_num, by go_num, by omega, HST.out (x - bv) 0 (by omega) (by omega) _ (by omega)⟩
          case measure => simp [intOf]; omega
        · go_wp2
          go_roundw
          case rel => exact ⟨k + 1, 1, _, by omega, by go_num, by go_num, by omega, HST.out (x + 1000000000 - bv) 1 (by omega) (by omega) _ (by omega)⟩
          case measure => simp [intOf]; omega
    · have r5 := hR.val_eq (by omega) hle hbv HV.out
      obtain ⟨r1, r2, r3, r4, _⟩ := hR
      rw [HE.out] at r5
      have R1 := Lib.hid r1
      have R5 := Lib.hid r5
      clear r1 r5
      go_wp2_with fail
      rw [← R1.out]
      refine (rtrim_calls _ _ _ _ (Nat.le_refl _) (by rw [R1.out]; omega) r3.cells r2).mono ?_
      rintro e w' ⟨rfl, rfl⟩
      go_wp2
      go_ret
      exact ⟨_, rfl, by rw [← R5.out]; exact ⟨_, _, rfl, Nat.le_refl _, by rw [← trimN_length r2]; exact trimN_le _ _, by rw [R1.out]; omega, r3.trim r2⟩, r4⟩

set_option maxHeartbeats 800000 in
theorem rby_fresh (w : World) (ax : Option Addr) (m n cx : Nat) (lx : (limbs m).length ≤ 1099511627776) (hn : n < 1000000000) (hx : Cells w ax (limbs m)) :
    Calls Tryz.prog 214 #[.slice ax (limbs m).length cx, .int .u32 (n : Int)] w (Ret (FreshLimbs w.heap.size (m * n)) w) := by
  have hb := Blk.new w [n]
  have hd : Dig [n] := Dig.cons hn Dig.nil
  have ht := rtrim_calls (w.alloc (.cells (u32s [n]) 149)) (some ⟨w.heap.size, 0, none⟩) [n] 1 (by simp) (by omega) hb.cells hd
  have hc := (hb.cells).trim hd
  rw [limbs_one n] at ht hc
  have hl : (limbs n).length ≤ 1 := limbs_len_le (by omega)
  have hE : Ext w (w.alloc (.cells (u32s [n]) 149)) := (Ext.refl w).alloc _
  have htimes := times_fresh (w.alloc (.cells (u32s [n]) 149)) ax (some ⟨w.heap.size, 0, none⟩) (limbs m) (limbs n) cx 1 lx (by omega) (hx.ext hE) hc (z6q m) (z6q n)
  rw [z1q, z1q] at htimes
  have HT := Lib.hid ht
  have HM := Lib.hid htimes
  clear hb hd ht hc hl htimes lx hn hx
  go_enter Tryz.func214, Tryz.ntmps214
  go_wp2_with fail
  refine HT.out.mono ?_
  rintro e w' ⟨rfl, rfl⟩
  go_wp2_with fail
  refine HM.out.mono ?_
  rintro e w1 ⟨v, rfl, ⟨g1, c1, rfl, k0, k1, k2, k3⟩, e1⟩
  replace k0 : w.heap.size ≤ g1 := Nat.le_trans (by simp) k0
  go_wp2
  go_ret
  exact ⟨_, rfl, ⟨g1, c1, rfl, k0, k1, k2, k3⟩, hE.trans e1⟩

end Go.Proofs.YtifeacfljfmnpaaGreat
end

section
set_option maxRecDepth 100000
namespace Go.Proofs.YtifeacfljfmnpaaGreat
open Go.RowKit
theorem wpList_append_run {P : Program} {w : World} {ops : Array Oper} {rest : List Oper} {o : Oper} {a : Act} {Q : Exit → Act → World → Prop} (hgd : o.guard = none) (s x : Operand) (t : TypeId)
    (ho : o.op = .call { callee := .builtin .append, args := #[s, x], argTypes := #[t, t] }) {vs vx v' : Value} {w' : World} (hs : a.eval s = vs) (hx : a.eval x = vx)
    (hrun : (Builtin.append_ #[t, t] o.type #[vs, vx]).run P w = .ok v' w') (h : wpList P ops Q rest (a.put o.dst v') w') : wpList P ops Q (o :: rest) a w := by
  refine wpList_plain hgd fun K hK => ?_
  unfold Oper.wp
  simp [execOp, ho, resolve, invoke, builtin, hs, hx, hrun, Result.andThen]
  exact hK _ _ h

def PartRel (w : World) (g : Nat) (us : List Nat) (V k R : Nat) (qs : List Nat) (wr : World) : Prop :=
  qs.length = us.length ∧ Dig qs ∧ Blk wr g qs ∧ Ext w wr ∧ val (us.drop k) = V * val (qs.drop k) + R ∧ R < V
section
variable {w : World} {g : Nat} {us : List Nat} {V k R : Nat} {qs : List Nat} {wr : World}
theorem PartRel.step (h : PartRel w g us V (k + 1) R qs wr) (hg : w.heap.size ≤ g) (hk : k < us.length) (dx : Dig us) {w2 : World} (e : Ext wr w2) (R' q R2 : Nat) (hR : R' = us.getD k 0 + 1000000000 * R) (hq : q = R' / V) (hr : R2 = R' % V) {Y : Int} (hY : Y = q) :
    PartRel w g us V k R2 (qs.set k q) (w2.setCell ⟨g, k, none⟩ (.int .u32 Y)) ∧ q < 1000000000 := by
  obtain ⟨h1, h2, h3, h4, h5, h6⟩ := h
  have hx := dx k
  have hq1 : q < 1000000000 := by rw [hq]; exact Nat.div_lt_of_lt_mul (by rw [Nat.mul_comm]; omega)
  have hr1 : R2 < V := by rw [hr]; exact Nat.mod_lt _ (by omega)
  refine ⟨⟨by simpa using h1, h2.set k hq1, (h3.ext e).set' k q (by omega) hY, (h4.trans e).setCell (p := ⟨g, k, none⟩) hg _, ?_, hr1⟩, hq1⟩
  have e1 := val_drop us k hk
  have e2 := val_drop (qs.set k q) k (by simpa [h1] using hk)
  have e3 : (qs.set k q).getD k 0 = q := by simp [List.getD_eq_getElem?_getD, h1, hk]
  have e4 : (qs.set k q).drop (k + 1) = qs.drop (k + 1) := by rw [List.drop_set_of_lt (by omega)]
  have e5 := Nat.div_add_mod R' V
  rw [← hq, ← hr] at e5
  rw [e3, e4] at e2
  rw [e1, e2, h5]
  generalize val (qs.drop (k + 1)) = D
  generalize us.getD k 0 = x at *
  have e6 : V * (q + 1000000000 * D) = 1000000000 * (V * D) + V * q := by rw [Nat.mul_add, Nat.mul_left_comm]; omega
  omega
theorem PartRel.done (h : PartRel w g us V 0 R qs wr) : val qs = val us / V ∧ R = val us % V := by
  obtain ⟨h1, h2, h3, h4, h5, h6⟩ := h
  rw [List.drop_zero, List.drop_zero] at h5
  have := (Nat.div_mod_unique (a := val us) (d := val qs) (c := R) (b := V) (by omega)).2 ⟨by omega, h6⟩
  exact ⟨this.1.symm, this.2.symm⟩
end
theorem ref_est {R' V L : Nat} (hV : (limbs V).length = L + 1) (hR : R' < 1000000000 * V) :
    R' / V ≤ val ((limbs R').drop L) / val ((limbs V).drop L) ∧ R' / V ≤ 999999999 ∧ 0 < val ((limbs V).drop L) ∧ val ((limbs V).drop L) < 1000000000 ∧ (limbs R').length ≤ L + 2 := by
  have hVp : 0 < V := by omega
  have hl : (limbs R').length ≤ L + 2 := by
    have h1 := z4q (n := V) (k := L + 1) (by omega)
    refine limbs_len_le ?_
    rw [Nat.pow_succ]; omega
  have t0 := limbs_last V (by intro e; rw [e] at hV; simp at hV)
  rw [hV, Nat.add_sub_cancel] at t0
  have hd := val_drop (limbs V) L (by omega)
  rw [List.drop_of_length_le (by omega : (limbs V).length ≤ L + 1)] at hd
  simp only [val] at hd
  have ht := z6q V L
  have s1 := val_split (limbs V) L (by omega)
  rw [z1q] at s1
  refine ⟨?_, ?_, by omega, by omega, hl⟩
  · rw [Nat.le_div_iff_mul_le (by omega)]
    have hq := Nat.div_mul_le_self R' V
    rcases Nat.lt_or_ge L (limbs R').length with hlt | hge
    · have s2 := val_split (limbs R') L (by omega)
      rw [z1q] at s2
      have b2 := val_lt ((z6q R').take L)
      rw [List.length_take, Nat.min_eq_left (by omega)] at b2
      generalize R' / V = Q at *
      generalize val ((limbs V).drop L) = T at *
      generalize val ((limbs R').drop L) = H at *
      generalize 1000000000 ^ L = p at *
      have e1 : Q * (p * T) ≤ Q * V := Nat.mul_le_mul_left _ (by omega)
      have e2 : Q * T * p < (H + 1) * p := by
        rw [Nat.mul_assoc, Nat.mul_comm T p, Nat.add_mul, Nat.mul_comm H p]; omega
      have := Nat.lt_of_mul_lt_mul_right e2
      omega
    · have hlt : R' < V := by
        refine lt_of_len ?_
        omega
      rw [Nat.div_eq_of_lt hlt, Nat.zero_mul]; exact Nat.zero_le _
  · have : R' / V < 1000000000 := by
      rw [Nat.div_lt_iff_lt_mul hVp]; exact hR
    omega
theorem ref_high {R' L : Nat} (hl : (limbs R').length ≤ L + 2) :
    val ((limbs R').drop L) = (if L + 1 < (limbs R').length then (limbs R').getD (L + 1) 0 * 1000000000 else 0) + (if L + 1 ≤ (limbs R').length then (limbs R').getD L 0 else 0) := by
  by_cases h1 : L + 1 ≤ (limbs R').length
  · rw [if_pos h1, val_drop _ L (by omega)]
    by_cases h2 : L + 1 < (limbs R').length
    · rw [if_pos h2, val_drop _ (L + 1) (by omega), List.drop_of_length_le (by omega)]
      simp only [val]; omega
    · rw [if_neg h2, List.drop_of_length_le (by omega)]
      simp only [val]; omega
  · rw [if_neg h1, if_neg (by omega), List.drop_of_length_le (by omega)]
    rfl
theorem low_digit {R' V d : Nat} (hV : 0 < V) : (R' < V * d ↔ R' / V < d) := by
  rw [Nat.div_lt_iff_lt_mul hV, Nat.mul_comm]
theorem scaled {m n s : Nat} (hs : 0 < s) : m * s / (n * s) = m / n ∧ m * s % (n * s) / s = m % n := by
  rw [Nat.mul_div_mul_right _ _ hs, Nat.mul_mod_mul_right, Nat.mul_div_cancel _ hs]
  exact ⟨rfl, rfl⟩

end Go.Proofs.YtifeacfljfmnpaaGreat
end
