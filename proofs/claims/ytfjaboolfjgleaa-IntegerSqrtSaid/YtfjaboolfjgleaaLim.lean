/-
  How many limbs a number has.
-/
import Derived.Test.YtfjaboolfjgleaaInt
namespace Go.Proofs.Ytfjaboolfjgleaa
open Go.RowKit

theorem IsInt.drew {w : World} {v : Value} {z : Int} (h : IsInt w v z) : IsInt w.drew v z := h.ext (Ext.refl w).drew
/-- At most k limbs. -/
def Lim (k : Nat) (z : Int) : Prop := (limbs z.natAbs).length ≤ k
theorem Lim.sm {k : Nat} {z : Int} (h : Lim k z) (hk : k ≤ 1048576) : Sm z := Nat.le_trans h hk
theorem Lim.add {a : Nat} {x y : Int} (hx : Lim a x) (hy : Lim a y) : Lim (a + 1) (x + y) := by
  have h1 := lt_of_limbs_len hx
  have h2 := lt_of_limbs_len hy
  refine limbs_len_le ?_
  have h3 : (x + y).natAbs ≤ x.natAbs + y.natAbs := Int.natAbs_add_le x y
  rw [Nat.pow_succ]
  omega
theorem Lim.mul {a b : Nat} {x y : Int} (hx : Lim a x) (hy : Lim b y) : Lim (a + b) (x * y) := by
  have h1 := lt_of_limbs_len hx
  have h2 := lt_of_limbs_len hy
  refine limbs_len_le ?_
  rw [Int.natAbs_mul, Nat.pow_add]
  exact Nat.mul_lt_mul'' h1 h2
theorem Lim.mono {a b : Nat} {x : Int} (h : Lim a x) (hb : a ≤ b) : Lim b x := Nat.le_trans h hb
theorem Lim.natAbs_le {k : Nat} {x y : Int} (h : Lim k y) (hx : x.natAbs ≤ y.natAbs) : Lim k x := Nat.le_trans (limbs_len_mono hx) h
end Go.Proofs.Ytfjaboolfjgleaa
