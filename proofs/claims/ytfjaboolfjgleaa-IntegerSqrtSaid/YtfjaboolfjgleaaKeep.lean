/-
  What an operation of a drawn region leaves: numbers in memory stay, and so do structs but for the variable that is written.
-/
import Derived.Test.YtfjaboolfjgleaaReg
import Derived.Test.YtfjaboolfjgleaaStruct
namespace Go.Proofs.Ytfjaboolfjgleaa
open Go.RowKit

/-- Nothing below B turns; limbs stay; a struct's cells stay a struct's. -/
structure Keep (B : Nat) (w w' : World) : Prop where
  below : Below B w w'
  u32 : ∀ p x, w.cell? p = some (.int .u32 x) → w'.cell? p = some (.int .u32 x)
  bool : ∀ p x, w.cell? p = some (.bool x) → ∃ y, w'.cell? p = some (.bool y)
  slice : ∀ p x n c, w.cell? p = some (.slice x n c) → ∃ y m d, w'.cell? p = some (.slice y m d)
  free : ∀ p, p.block < w.heap.size → w.frozen? p = false → w'.frozen? p = false
theorem Keep.of {B : Nat} {w w' : World} (e : Ext w w') (h : B ≤ w.heap.size) : Keep B w w' :=
  ⟨Below.mono e h, fun _ _ hc => e.cell hc, fun _ x hc => ⟨x, e.cell hc⟩, fun _ x n c hc => ⟨x, n, c, e.cell hc⟩, fun _ hp hf => e.frozen hp hf⟩
theorem Keep.cells {B : Nat} {w w' : World} (k : Keep B w w') {ao : Option Addr} {xs : List Nat} (h : Cells w ao xs) : Cells w' ao xs := by
  rcases h with h | ⟨b, off, rfl, h⟩
  · exact .inl h
  · exact .inr ⟨b, off, rfl, fun i hi => k.u32 _ _ (h i hi)⟩
theorem Keep.isInt {B : Nat} {w w' : World} (k : Keep B w w') {v : Value} {z : Int} (h : IsInt w v z) : IsInt w' v z := by
  obtain ⟨ao, cap, h1, h2, h3, h4⟩ := h
  exact ⟨ao, cap, h1, h2, h3, k.cells h4⟩
theorem Keep.raw {B : Nat} {w w' : World} (k : Keep B w w') {v : Value} {s : Bool} {xs : List Nat} (h : Raw w v s xs) : Raw w' v s xs := by
  obtain ⟨ao, cap, h1, h2, h3, h4⟩ := h
  exact ⟨ao, cap, h1, h2, h3, k.cells h4⟩
theorem IsInt.keep {B : Nat} {w w' : World} {v : Value} {z : Int} (h : IsInt w v z) (k : Keep B w w') : IsInt w' v z := k.isInt h
theorem Raw.keep {B : Nat} {w w' : World} {v : Value} {s : Bool} {xs : List Nat} (h : Raw w v s xs) (k : Keep B w w') : Raw w' v s xs := k.raw h
/-- Two integers and a number. -/
def TupII (w : World) (v : Value) (q r k : Int) : Prop := ∃ v1 v2, v = .tuple #[v1, v2, .int .i64 k] ∧ IsInt w v1 q ∧ IsInt w v2 r
theorem TupII.keep {B : Nat} {w w' : World} {v : Value} {q r n : Int} (h : TupII w v q r n) (k : Keep B w w') : TupII w' v q r n := by
  obtain ⟨v1, v2, rfl, h1, h2⟩ := h
  exact ⟨v1, v2, rfl, k.isInt h1, k.isInt h2⟩

/-- A variable of the type Int. -/
def VarInt (B : Nat) (w : World) (v : Value) : Prop := ∃ b, v = .pointer (some ⟨b, 0, none⟩) ∧ B ≤ b ∧ (∃ x, w.cell? ⟨b, 0, none⟩ = some (.bool x)) ∧ (∃ y m d, w.cell? ⟨b, 1, none⟩ = some (.slice y m d)) ∧ w.frozen? ⟨b, 0, none⟩ = false ∧ w.frozen? ⟨b, 1, none⟩ = false
theorem VarInt.keep {B : Nat} {w w' : World} {v : Value} (h : VarInt B w v) (k : Keep B w w') : VarInt B w' v := by
  obtain ⟨b, rfl, hB, ⟨x, h0⟩, ⟨y, m, d, h1⟩, f0, f1⟩ := h
  exact ⟨b, rfl, hB, k.bool _ _ h0, k.slice _ _ _ _ h1, k.free _ (lt_of_cell h0) f0, k.free _ (lt_of_cell h1) f1⟩
theorem varInt_new {B : Nat} {w : World} (h : B ≤ w.heap.size) (t : TypeId) : VarInt B (w.alloc (.cells #[.bool false, .slice none 0 0] t)) (.pointer (some ⟨w.heap.size, 0, none⟩)) := by
  obtain ⟨W, hW, _, _, h1, h2, h3, h4⟩ := res_new w t
  rw [hW]
  exact ⟨_, rfl, h, ⟨_, h1⟩, ⟨_, _, _, h2⟩, h3, h4⟩
theorem VarInt.ne_new {B : Nat} {w : World} {v : Value} (h : VarInt B w v) : v ≠ .pointer (some ⟨w.heap.size, 0, none⟩) := by
  obtain ⟨b, rfl, hB, ⟨x, h0⟩, _⟩ := h
  intro he
  injection he with he
  injection he with he
  injection he with he
  exact absurd (lt_of_cell h0) (by rw [he]; exact Nat.lt_irrefl _)
/-- A variable that holds this integer. -/
def BoxInt (w : World) (v : Value) (z : Int) : Prop := ∃ b s ao n c, v = .pointer (some ⟨b, 0, none⟩) ∧ w.cell? ⟨b, 0, none⟩ = some (.bool s) ∧ w.cell? ⟨b, 1, none⟩ = some (.slice ao n c) ∧ IsInt w (.agg #[.bool s, .slice ao n c]) z
theorem BoxInt.ext {w w' : World} {v : Value} {z : Int} (h : BoxInt w v z) (e : Ext w w') : BoxInt w' v z := by
  obtain ⟨b, s, ao, n, c, rfl, h0, h1, hI⟩ := h
  exact ⟨b, s, ao, n, c, rfl, e.cell h0, e.cell h1, hI.ext e⟩
/-- A store of a struct into its variable. -/
theorem keep_put {B : Nat} {w : World} {b : Nat} {x : Bool} {y : Option Addr} {m d : Nat} (hB : B ≤ b) (h0 : w.cell? ⟨b, 0, none⟩ = some (.bool x)) (h1 : w.cell? ⟨b, 1, none⟩ = some (.slice y m d)) (x' : Bool) (y' : Option Addr) (m' d' : Nat) :
    Keep B w ((w.setCell ⟨b, 0, none⟩ (.bool x')).setCell ⟨b, 1, none⟩ (.slice y' m' d')) := by
  have k1 : ∀ p : Addr, p ≠ ⟨b, 0, none⟩ → p ≠ ⟨b, 1, none⟩ → ((w.setCell ⟨b, 0, none⟩ (.bool x')).setCell ⟨b, 1, none⟩ (.slice y' m' d')).cell? p = w.cell? p := fun p n0 n1 => by
    rw [World.cell?_setCell_other _ _ _ _ (fun h => n1 h.symm), World.cell?_setCell_other _ _ _ _ (fun h => n0 h.symm)]
  have hS := Struct.put (v0 := .bool x') (v1 := .slice y' m' d') ⟨h0, h1⟩
  refine ⟨((Below.refl _ _).setCell (p := ⟨b, 0, none⟩) hB _).setCell (p := ⟨b, 1, none⟩) hB _, ?_, ?_, ?_, ?_⟩
  · intro p v hp
    rw [k1 p (fun h => by rw [h, h0] at hp; cases hp) (fun h => by rw [h, h1] at hp; cases hp)]; exact hp
  · intro p v hp
    by_cases e0 : p = ⟨b, 0, none⟩
    · subst e0; exact ⟨_, hS.1⟩
    · rw [k1 p e0 (fun h => by rw [h, h1] at hp; cases hp)]; exact ⟨_, hp⟩
  · intro p v n c hp
    by_cases e1 : p = ⟨b, 1, none⟩
    · subst e1; exact ⟨_, _, _, hS.2⟩
    · rw [k1 p (fun h => by rw [h, h0] at hp; cases hp) e1]; exact ⟨_, _, _, hp⟩
  · intro p _ hf
    simpa using hf
/-- .. and its variable holds it; another one holds what it held. -/
theorem boxInt_put {w : World} {b : Nat} {x : Bool} {y : Option Addr} {m d : Nat} (h0 : w.cell? ⟨b, 0, none⟩ = some (.bool x)) (h1 : w.cell? ⟨b, 1, none⟩ = some (.slice y m d)) {s : Bool} {ao : Option Addr} {n c : Nat} {z : Int} (h : IsInt w (.agg #[.bool s, .slice ao n c]) z) :
    BoxInt ((w.setCell ⟨b, 0, none⟩ (.bool s)).setCell ⟨b, 1, none⟩ (.slice ao n c)) (.pointer (some ⟨b, 0, none⟩)) z := by
  have hS := Struct.put (v0 := .bool s) (v1 := .slice ao n c) ⟨h0, h1⟩
  exact ⟨b, s, ao, n, c, rfl, hS.1, hS.2, (keep_put (B := 0) (Nat.zero_le _) h0 h1 s ao n c).isInt h⟩
theorem BoxInt.put {w : World} {b : Nat} {x : Bool} {y : Option Addr} {m d : Nat} {v : Value} {z : Int} (h : BoxInt w v z) (hv : v ≠ .pointer (some ⟨b, 0, none⟩)) (h0 : w.cell? ⟨b, 0, none⟩ = some (.bool x)) (h1 : w.cell? ⟨b, 1, none⟩ = some (.slice y m d)) (s : Bool) (ao : Option Addr) (n c : Nat) :
    BoxInt ((w.setCell ⟨b, 0, none⟩ (.bool s)).setCell ⟨b, 1, none⟩ (.slice ao n c)) v z := by
  obtain ⟨b', s', ao', n', c', rfl, k0, k1, hI⟩ := h
  have hne : b ≠ b' := fun e => hv (by rw [e])
  have hS := (Struct.set (u0 := .bool s') (u1 := .slice ao' n' c') ⟨k0, k1⟩ hne 0 (.bool s)).set hne 1 (.slice ao n c)
  exact ⟨b', s', ao', n', c', rfl, hS.1, hS.2, (keep_put (B := 0) (Nat.zero_le _) h0 h1 s ao n c).isInt hI⟩

end Go.Proofs.Ytfjaboolfjgleaa
