/-
  The division of limbs, in all cases.
-/
import Derived.Test.YtfjaboolfjgleaaLongw
namespace Go.Proofs.Ytfjaboolfjgleaa
open Go.RowKit

theorem limbs_top {n m : Nat} (h : (limbs n).length = m + 2) : (limbs n).getD (m + 1) 0 ≠ 0 := by
  have := limbs_last n (by intro e; rw [e] at h; simp at h)
  rwa [h, show m + 2 - 1 = m + 1 by omega] at this

set_option maxRecDepth 100000 in
set_option maxHeartbeats 800000 in
theorem divOK_long (m n : Nat) (lx : (limbs m).length ≤ 1048576) (h : 2 < (limbs m).length) (hn : 2 ≤ (limbs n).length) (hmn : (limbs n).length ≤ (limbs m).length) : DivOK m n := by
  intro w ax ay cx cy kx ky bx by_ hx hy
  obtain ⟨k, hk⟩ : ∃ k, (limbs n).length = k + 2 := ⟨(limbs n).length - 2, by omega⟩
  obtain ⟨b, off, rfl, _⟩ := hx.at_ (by omega)
  obtain ⟨b', off', rfl, _⟩ := hy.at_ (by omega)
  have hcall := divideLong_calls w b off b' off' (limbs m) (limbs n) cx cy k hk hmn lx kx bx ky by_ hx (dig_limbs m) hy (dig_limbs n) (limbs_top hk)
  rw [val_limbs, val_limbs] at hcall
  have HS := Lib.hid hcall
  have l0 : ¬ ((limbs m).length : Int) < ((limbs n).length : Int) := by omega
  have l1 : decide (((limbs m).length : Int) ≤ 2) = false := decide_eq_false (by omega)
  have l2 : (((limbs n).length : Int) == 1) = false := by rw [beq_eq_false_iff_ne]; omega
  clear hcall hk h hn hmn kx ky bx by_ hx hy lx
  go_enter Try.func57, Try.ntmps57
  go_wp2_with fail
  refine HS.out.mono ?_
  rintro e w1 ⟨v1, v2, rfl, hv1, hv2, e1⟩
  obtain ⟨a1, c1, rfl, k1, k2, k3⟩ := hv1
  obtain ⟨a2, c2, rfl, j1, j2, j3⟩ := hv2
  go_wp2
  go_ret2
  exact ⟨_, _, rfl, ⟨a1, c1, rfl, k1, k2, k3⟩, ⟨a2, c2, rfl, j1, j2, j3⟩, e1⟩

theorem divOK (m n : Nat) (lx : (limbs m).length ≤ 1048576) (hn : 0 < n) : DivOK m n := by
  have hl := limbs_pos hn
  by_cases h1 : (limbs m).length < (limbs n).length
  · exact divOK_less m n lx h1
  by_cases h2 : (limbs m).length ≤ 2
  · exact divOK_small m n h1 h2 (by omega)
  by_cases h3 : (limbs n).length = 1
  · exact divOK_short m n lx (by omega) h3
  exact divOK_long m n lx (by omega) (by omega) (by omega)

/-- What DivMod returns: the quotient, rounded down, and what is left. -/
theorem divMod_any (w : World) (v1 v2 : Value) (z1 z2 : Int) (h : IsInt w v1 z1) (k : IsInt w v2 z2) (l1 : Sm z1) (l2 : Sm z2) (hz2 : z2 ≠ 0) :
    Calls Try.prog 33 #[v1, v2] w (RetDM z1 z2 w) :=
  divMod_calls w v1 v2 z1 z2 h k l1 l2 hz2 (divOK _ _ l1 (by omega))

end Go.Proofs.Ytfjaboolfjgleaa
