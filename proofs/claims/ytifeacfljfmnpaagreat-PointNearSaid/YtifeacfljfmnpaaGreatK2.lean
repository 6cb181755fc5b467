/-
  Texts of this seat, joined.
-/
import Derived.Test.YtifeacfljfmnpaaGreatK1
import Derived.Shelf.Small.Bits
import Derived.Shelf.Strconv.Itoa0
import Derived.Laws.BitsAllLaws
import Derived.Deep.CutBlock
import Derived.Deep.DeepCutAuto
import Derived.Laws.CopyOwn
import Derived.Deep.LoopGhost
import Derived.Laws.AppendOwnNone
import Derived.Lib.ItoaNum
import Derived.Laws.IdiomCopy
section
set_option maxRecDepth 100000
namespace Go.Proofs.YtifeacfljfmnpaaGreat
def DStart (u u1 Y a b : Nat) : Prop := Y = a * 4294967296 + b ∧ b < 4294967296 ∧ 2147483648 ≤ a ∧ a < 4294967296 ∧ u < Y ∧ u1 < 4294967296
def DInv (u u1 Y a q r : Nat) : Prop := q * a + r = u ∧ (u * 4294967296 + u1) / Y ≤ q ∧ r < 4294967296 ∧ q ≤ 4294967297
section
variable {u u1 Y a b q r : Nat}
theorem DStart.pos (h : DStart u u1 Y a b) : 0 < Y := by obtain ⟨h1, h2, h3, h4, h5, h6⟩ := h; omega
theorem DStart.lt (h : DStart u u1 Y a b) : (u * 4294967296 + u1) / Y < 4294967296 := by
  have := h.pos
  obtain ⟨h1, h2, h3, h4, h5, h6⟩ := h
  rw [Nat.div_lt_iff_lt_mul (by omega)]
  omega
theorem DStart.init (h : DStart u u1 Y a b) : DInv u u1 Y a (u / a) (u % a) := by
  have hlt := h.pos
  obtain ⟨h1, h2, h3, h4, h5, h6⟩ := h
  refine ⟨?_, ?_, ?_, ?_⟩
  · rw [Nat.mul_comm]; exact Nat.div_add_mod u a
  · rw [Nat.le_div_iff_mul_le (by omega)]
    have e := Nat.div_mul_le_self (u * 4294967296 + u1) Y
    generalize (u * 4294967296 + u1) / Y = Q at e ⊢
    have e1 : Q * (a * 4294967296) ≤ Q * Y := Nat.mul_le_mul_left _ (by omega)
    rw [← Nat.mul_assoc] at e1
    omega
  · have := Nat.mod_lt u (show a > 0 by omega); omega
  · have : u / a < 4294967298 := by
      rw [Nat.div_lt_iff_lt_mul (by omega)]
      omega
    omega
theorem DInv.eq (h : DStart u u1 Y a b) (k1 : q * a + r = u) : q * Y + r * 4294967296 = u * 4294967296 + q * b := by
  obtain ⟨h1, h2, h3, h4, h5, h6⟩ := h
  rw [h1, Nat.mul_add, ← Nat.mul_assoc, ← k1]
  generalize q * a = x
  generalize q * b = y
  omega
theorem DInv.test (h : DStart u u1 Y a b) (k1 : q * a + r = u) : 4294967296 * r + u1 < q * b ↔ (u * 4294967296 + u1) / Y < q := by
  have e := DInv.eq h k1
  rw [Nat.div_lt_iff_lt_mul h.pos]
  omega
theorem DInv.down (h : DStart u u1 Y a b) (k : DInv u u1 Y a q r) (ht : (u * 4294967296 + u1) / Y < q) :
    0 < q ∧ (q - 1) * a + (r + a) = u ∧ (u * 4294967296 + u1) / Y ≤ q - 1 ∧ q - 1 ≤ 4294967296 ∧ r + a < 8589934592 := by
  obtain ⟨k1, k2, k3, k4⟩ := k
  obtain ⟨h1, h2, h3, h4, h5, h6⟩ := h
  generalize (u * 4294967296 + u1) / Y = Q at *
  refine ⟨by omega, ?_, by omega, by omega, by omega⟩
  rw [Nat.sub_mul, Nat.one_mul, ← k1]
  have : 1 * a ≤ q * a := Nat.mul_le_mul_right _ (by omega)
  omega
theorem DInv.stop (k : DInv u u1 Y a q r) (ht : ¬ (u * 4294967296 + u1) / Y < q) : q = (u * 4294967296 + u1) / Y := by
  have := k.2.1
  omega
theorem DInv.far (h : DStart u u1 Y a b) (k1 : q * a + r = u) (k2 : (u * 4294967296 + u1) / Y ≤ q) (k3 : 4294967296 ≤ r) (k4 : q ≤ 4294967296) : q = (u * 4294967296 + u1) / Y := by
  have ht := DInv.test (u1 := u1) h k1
  have hb : q * b ≤ 4294967296 * 4294967295 := Nat.mul_le_mul k4 (by have := h.2.1; omega)
  have : ¬ (u * 4294967296 + u1) / Y < q := by rw [← ht]; omega
  omega
theorem dstep_rest (h : DStart u u1 Y a b) (hY : Y < 18446744073709551616) (hq : q = (u * 4294967296 + u1) / Y) (hr : r = (u * 4294967296 + u1) % Y) :
    (((u * 4294967296 % 18446744073709551616 + u1) % 18446744073709551616) + (18446744073709551616 - q * Y % 18446744073709551616)) % 18446744073709551616 = r := by
  have e := Nat.div_add_mod (u * 4294967296 + u1) Y
  have hr' := Nat.mod_lt (u * 4294967296 + u1) h.pos
  rw [← hq, ← hr, Nat.mul_comm] at e
  rw [← hr] at hr'
  omega
end
theorem two_digits {N2 N1 N0 Y q1 r1 q0 r0 : Nat} (hY : 0 < Y) (h1 : q1 = (N2 * 4294967296 + N1) / Y) (h2 : r1 = (N2 * 4294967296 + N1) % Y) (h3 : q0 = (r1 * 4294967296 + N0) / Y) (h4 : r0 = (r1 * 4294967296 + N0) % Y) :
    ((N2 * 4294967296 + N1) * 4294967296 + N0) / Y = q1 * 4294967296 + q0 ∧ ((N2 * 4294967296 + N1) * 4294967296 + N0) % Y = r0 := by
  have e1 := Nat.div_add_mod (N2 * 4294967296 + N1) Y
  have e2 := Nat.div_add_mod (r1 * 4294967296 + N0) Y
  have l2 := Nat.mod_lt (r1 * 4294967296 + N0) hY
  rw [← h1, ← h2] at e1
  rw [← h3, ← h4] at e2
  rw [← h4] at l2
  refine (Nat.div_mod_unique hY).2 ⟨?_, l2⟩
  rw [← e1, Nat.mul_add, ← Nat.mul_assoc]
  generalize Y * q1 = x at *
  generalize Y * q0 = y at *
  omega
theorem moved {hi lo y s : Nat} (hs : s ≤ 64) (hlo : lo < 18446744073709551616) (hhi : hi < y) :
    (hi * 18446744073709551616 + lo) * 2 ^ s = (hi * 2 ^ s + lo / 2 ^ (64 - s)) * 18446744073709551616 + lo * 2 ^ s % 18446744073709551616 ∧
    hi * 2 ^ s + lo / 2 ^ (64 - s) < y * 2 ^ s ∧ lo / 2 ^ (64 - s) < 2 ^ s := by
  have e : 2 ^ s * 2 ^ (64 - s) = 18446744073709551616 := by rw [← Nat.pow_add, show s + (64 - s) = 64 by omega]
  have hp : 0 < 2 ^ s := Nat.pow_pos (by omega)
  have hp2 : 0 < 2 ^ (64 - s) := Nat.pow_pos (by omega)
  have e1 : lo * 2 ^ s / 18446744073709551616 = lo / 2 ^ (64 - s) := by
    rw [← e, Nat.mul_comm lo, Nat.mul_div_mul_left _ _ hp]
  have e2 := Nat.div_add_mod (lo * 2 ^ s) 18446744073709551616
  rw [e1] at e2
  have e3 : lo / 2 ^ (64 - s) < 2 ^ s := by
    rw [Nat.div_lt_iff_lt_mul hp2, e]; exact hlo
  refine ⟨?_, ?_, e3⟩
  · rw [Nat.add_mul, Nat.add_mul, Nat.mul_right_comm]
    omega
  · have : (hi + 1) * 2 ^ s ≤ y * 2 ^ s := Nat.mul_le_mul_right _ hhi
    rw [Nat.add_mul] at this
    omega
theorem moved_back {y s : Nat} (N : Nat) :
    N * 2 ^ s / (y * 2 ^ s) = N / y ∧ N * 2 ^ s % (y * 2 ^ s) / 2 ^ s = N % y := by
  have hp : 0 < 2 ^ s := Nat.pow_pos (by omega)
  rw [Nat.mul_div_mul_right _ _ hp, Nat.mul_mod_mul_right, Nat.mul_div_cancel _ hp]
  exact ⟨rfl, rfl⟩
theorem or_move {x y s : Nat} (h : y < 2 ^ s) : x * 2 ^ s ||| y = x * 2 ^ s + y := by
  rw [Nat.mul_comm]; exact (Nat.two_pow_add_eq_or_of_lt h x).symm

end Go.Proofs.YtifeacfljfmnpaaGreat
end

section
set_option maxRecDepth 100000
namespace Go.Proofs.YtifeacfljfmnpaaGreat
open Go.Shelf
theorem bitLenAux_zero (f : Nat) : Lib.bitLenAux f 0 = 0 := by cases f <;> simp [Lib.bitLenAux]
theorem bitLenAux_spec : ∀ (f x : Nat), x < 2 ^ f → x < 2 ^ Lib.bitLenAux f x ∧ Lib.bitLenAux f x ≤ f ∧ (0 < x → 0 < Lib.bitLenAux f x ∧ 2 ^ (Lib.bitLenAux f x - 1) ≤ x) := by
  intro f
  induction f with
  | zero => intro x h; simp [Lib.bitLenAux] at *; omega
  | succ f ih =>
    intro x h
    unfold Lib.bitLenAux
    by_cases h0 : x = 0
    · simp [h0]
    · rw [if_neg h0]
      rw [Nat.pow_succ] at h
      obtain ⟨h1, h2, h3⟩ := ih (x / 2) (by omega)
      rcases Nat.eq_zero_or_pos (x / 2) with hz | hz
      · rw [hz, bitLenAux_zero]
        refine ⟨?_, by omega, fun _ => ⟨by omega, ?_⟩⟩
        · show x < 2 ^ 1; omega
        · show 2 ^ 0 ≤ x; omega
      · obtain ⟨k1, k2⟩ := h3 hz
        generalize Lib.bitLenAux f (x / 2) = L at *
        obtain ⟨M, rfl⟩ : ∃ M, L = M + 1 := ⟨L - 1, by omega⟩
        rw [Nat.add_sub_cancel] at k2
        refine ⟨?_, by omega, fun _ => ⟨by omega, ?_⟩⟩
        · rw [Nat.add_comm 1, Nat.pow_succ]; omega
        · rw [Nat.add_comm 1, Nat.add_sub_cancel, Nat.pow_succ]; omega
theorem bitLen_bounds (x : Nat) (h : x < 18446744073709551616) : x < 2 ^ Lib.bitLen x ∧ Lib.bitLen x ≤ 64 ∧ (0 < x → 0 < Lib.bitLen x ∧ 2 ^ (Lib.bitLen x - 1) ≤ x) := bitLenAux_spec 64 x h
theorem upper_bit (y : Nat) (h0 : 0 < y) (h : y < 18446744073709551616) : y * 2 ^ (64 - Lib.bitLen y) < 18446744073709551616 ∧ 9223372036854775808 ≤ y * 2 ^ (64 - Lib.bitLen y) := by
  obtain ⟨h1, h2, h3⟩ := bitLen_bounds y h
  obtain ⟨h4, h5⟩ := h3 h0
  generalize Lib.bitLen y = L at *
  have hp : 0 < 2 ^ (64 - L) := Nat.pow_pos (by omega)
  have e : 2 ^ L * 2 ^ (64 - L) = 18446744073709551616 := by rw [← Nat.pow_add, show L + (64 - L) = 64 by omega]
  have e2 : 2 ^ (L - 1) * 2 ^ (64 - L) = 9223372036854775808 := by rw [← Nat.pow_add, show L - 1 + (64 - L) = 63 by omega]
  exact ⟨by rw [← e]; exact Nat.mul_lt_mul_of_pos_right h1 hp, by rw [← e2]; exact Nat.mul_le_mul_right _ h5⟩

def ren129 : Go.Shelf.Ren := ⟨fun | 129 => 264 | n => n, fun | 53 => 115 | 3 => 3 | 4 => 4 | 46 => 200 | 5 => 5 | 9 => 9 | n => n, fun | n => n⟩
theorem lays129 : Go.Proofs.Lays.n129 Tryz.prog ren129 := {
  mixed := by kernel_rfl
  f129 := Tryz.func264.trans (congrArg some (by kernel_rfl))
  t3 := Tryz.underlying3
  a3 := Tryz.isAgg3
  z3 := Tryz.sizeOf3
  v3 := Tryz.zeroValue3
  t4 := Tryz.underlying4
  a4 := Tryz.isAgg4
  z4 := Tryz.sizeOf4
  v4 := Tryz.zeroValue4
  t5 := Tryz.underlying5
  a5 := Tryz.isAgg5
  z5 := Tryz.sizeOf5
  v5 := Tryz.zeroValue5
  t9 := Tryz.underlying9
  a9 := Tryz.isAgg9
  z9 := Tryz.sizeOf9
  v9 := Tryz.zeroValue9
  t46 := Tryz.underlying200
  a46 := Tryz.isAgg200
  z46 := Tryz.sizeOf200
  v46 := Tryz.zeroValue200
  t53 := Tryz.underlying115
  a53 := Tryz.isAgg115
  z53 := Tryz.sizeOf115
  v53 := Tryz.zeroValue115 }
theorem len64_calls (w : World) (x L : Nat) (h : x < 18446744073709551616) (hL : L = Lib.bitLen x) :
    Calls Tryz.prog 264 #[.int .u64 (x : Int)] w fun e w' => e = .returned (.int .i64 (L : Int)) ∧ w = w' := by
  subst hL
  exact (Any.bits_Len64 lays129 (x : Int) w (by omega) (by omega)).mono fun _ _ ⟨h1, h2⟩ => ⟨h1, h2.symm⟩

def ren134 : Go.Shelf.Ren := ⟨fun | 134 => 253 | 129 => 264 | n => n, fun | 53 => 115 | 3 => 3 | 4 => 4 | 46 => 200 | 5 => 5 | 9 => 9 | n => n, fun | n => n⟩
theorem lays134 : Go.Proofs.Lays.n134 Tryz.prog ren134 := {
  mixed := by kernel_rfl
  f129 := Tryz.func264.trans (congrArg some (by kernel_rfl))
  f134 := Tryz.func253.trans (congrArg some (by kernel_rfl))
  t3 := Tryz.underlying3
  a3 := Tryz.isAgg3
  z3 := Tryz.sizeOf3
  v3 := Tryz.zeroValue3
  t4 := Tryz.underlying4
  a4 := Tryz.isAgg4
  z4 := Tryz.sizeOf4
  v4 := Tryz.zeroValue4
  t5 := Tryz.underlying5
  a5 := Tryz.isAgg5
  z5 := Tryz.sizeOf5
  v5 := Tryz.zeroValue5
  t9 := Tryz.underlying9
  a9 := Tryz.isAgg9
  z9 := Tryz.sizeOf9
  v9 := Tryz.zeroValue9
  t46 := Tryz.underlying200
  a46 := Tryz.isAgg200
  z46 := Tryz.sizeOf200
  v46 := Tryz.zeroValue200
  t53 := Tryz.underlying115
  a53 := Tryz.isAgg115
  z53 := Tryz.sizeOf115
  v53 := Tryz.zeroValue115 }
theorem lz64_calls (w : World) (x s : Nat) (h : x < 18446744073709551616) (hs : s = 64 - Lib.bitLen x) :
    Calls Tryz.prog 253 #[.int .u64 (x : Int)] w fun e w' => e = .returned (.int .i64 (s : Int)) ∧ w = w' := by
  subst hs
  have hb := (bitLen_bounds x h).2.1
  refine (Any.bits_LeadingZeros64 lays134 (x : Int) w (by omega) (by omega)).mono fun _ _ ⟨h1, h2⟩ => ⟨?_, h2.symm⟩
  rw [h1]
  congr 3
  rw [Int.toNat_natCast]
  omega

end Go.Proofs.YtifeacfljfmnpaaGreat
end

section
set_option maxRecDepth 100000
namespace Go.Proofs.YtifeacfljfmnpaaGreat
open Go.RowKit
structure D64 (hi lo y s Y a b u v v1 v0 : Nat) : Prop where
  hs : s = 64 - Lib.bitLen y
  hY : Y = y * 2 ^ s
  ha : a = Y / 4294967296
  hb : b = Y % 4294967296
  hu : u = hi * 2 ^ s + lo / 2 ^ (64 - s)
  hv : v = lo * 2 ^ s % 18446744073709551616
  hv1 : v1 = v / 4294967296
  hv0 : v0 = v % 4294967296
theorem wrapMod (z : Int) (n : Nat) (h : z % 18446744073709551616 = n) : IntKind.u64.wrap z = (n : Int) := by rw [IntKind.wrap_u64]; exact h
section
variable {hi lo y s Y a b u v v1 v0 : Nat}
theorem D64.shY (D : D64 hi lo y s Y a b u v v1 v0) (h0 : 0 < y) (hy : y < 18446744073709551616) : IntKind.u64.wrap ((y : Int) * 2 ^ s) = (Y : Int) := by
  have := (upper_bit y h0 hy).1
  rw [← D.hs, ← D.hY] at this
  refine wrapMod _ _ ?_
  have e : (y : Int) * 2 ^ s = (Y : Int) := by rw [D.hY]; simp
  omega
theorem D64.start (D : D64 hi lo y s Y a b u v v1 v0) (hhi : hi < y) (hlo : lo < 18446744073709551616) (hy : y < 18446744073709551616) :
    DStart u v1 Y a b ∧ Y < 18446744073709551616 ∧ v0 < 4294967296 ∧ u < 18446744073709551616 := by
  have h1 := upper_bit y (by omega) hy
  rw [← D.hs, ← D.hY] at h1
  have h2 := moved (hi := hi) (lo := lo) (y := y) (s := s) (by have := D.hs; omega) hlo hhi
  rw [← D.hu, ← D.hY] at h2
  have h3 := D.hv
  have := D.ha
  have := D.hb
  have := D.hv1
  have := D.hv0
  exact ⟨⟨by omega, by omega, by omega, by omega, h2.2.1, by omega⟩, h1.1, by omega, by omega⟩
theorem D64.shU (D : D64 hi lo y s Y a b u v v1 v0) (hhi : hi < y) (hlo : lo < 18446744073709551616) (hy : y < 18446744073709551616) :
    ∃ t l H : Nat, (64 - (s : Int)) = (t : Int) ∧ (lo : Int) / 2 ^ t = (l : Int) ∧ IntKind.u64.wrap ((hi : Int) * 2 ^ s) = (H : Int) ∧ bits .or .u64 (H : Int) (l : Int) = (u : Int) ∧ t ≤ 64 := by
  have h1 := upper_bit y (by omega) hy
  rw [← D.hs, ← D.hY] at h1
  have h2 := moved (hi := hi) (lo := lo) (y := y) (s := s) (by have := D.hs; omega) hlo hhi
  rw [← D.hu, ← D.hY] at h2
  refine ⟨64 - s, lo / 2 ^ (64 - s), hi * 2 ^ s, by have := D.hs; omega, by simp, ?_, ?_, by omega⟩
  · refine wrapMod _ _ ?_
    have e : (hi : Int) * 2 ^ s = ((hi * 2 ^ s : Nat) : Int) := by simp
    have := D.hu
    have h3 := h2.2.1
    rw [e]
    generalize hi * 2 ^ s = p at *
    generalize lo / 2 ^ (64 - s) = k at *
    omega
  · have h4 := D.hu
    have h3 := h2.2.1
    have h5 := or_move (x := hi) h2.2.2
    rw [← h4] at h5
    generalize hi * 2 ^ s = p at *
    generalize lo / 2 ^ (64 - s) = k at *
    rw [u64_or_nat _ _ (by omega) (by omega), h5]
theorem D64.shV (D : D64 hi lo y s Y a b u v v1 v0) : IntKind.u64.wrap ((lo : Int) * 2 ^ s) = (v : Int) ∧ (v : Int) / 4294967296 = (v1 : Int) ∧ bits .and .u64 (v : Int) 4294967295 = (v0 : Int) := by
  have h := D.hv
  refine ⟨wrapMod _ _ ?_, ?_, ?_⟩
  · have e : (lo : Int) * 2 ^ s = ((lo * 2 ^ s : Nat) : Int) := by simp
    rw [e]; omega
  · have := D.hv1; omega
  · rw [Go.Proofs.Mul64.maskN _ (by omega), ← D.hv0]
theorem D64.shY2 (D : D64 hi lo y s Y a b u v v1 v0) (hY : Y < 18446744073709551616) : (Y : Int) / 4294967296 = (a : Int) ∧ bits .and .u64 (Y : Int) 4294967295 = (b : Int) := by
  refine ⟨?_, ?_⟩
  · have := D.ha; omega
  · rw [Go.Proofs.Mul64.maskN _ hY, ← D.hb]
theorem DStart.second {u u1 R v0 : Nat} (h : DStart u u1 Y a b) (hR : R = (u * 4294967296 + u1) % Y) (hv : v0 < 4294967296) : DStart R v0 Y a b := by
  have := Nat.mod_lt (u * 4294967296 + u1) h.pos
  obtain ⟨h1, h2, h3, h4, h5, h6⟩ := h
  exact ⟨h1, h2, h3, h4, by omega, hv⟩
theorem DStart.rests {u u1 Q R : Nat} (h : DStart u u1 Y a b) (hY : Y < 18446744073709551616) (hQ : Q = (u * 4294967296 + u1) / Y) (hR : R = (u * 4294967296 + u1) % Y) :
    ∃ C1 C2 C3 : Nat, IntKind.u64.wrap ((u : Int) * 4294967296) = (C1 : Int) ∧ IntKind.u64.wrap ((C1 : Int) + (u1 : Int)) = (C2 : Int) ∧ IntKind.u64.wrap ((Q : Int) * (Y : Int)) = (C3 : Int) ∧ IntKind.u64.wrap ((C2 : Int) - (C3 : Int)) = (R : Int) := by
  have e := dstep_rest h hY hQ hR
  refine ⟨u * 4294967296 % 18446744073709551616, (u * 4294967296 % 18446744073709551616 + u1) % 18446744073709551616, Q * Y % 18446744073709551616, wrapMod _ _ (by omega), wrapMod _ _ (by omega), wrapMod _ _ ?_, wrapMod _ _ ?_⟩
  · have e2 : (Q : Int) * (Y : Int) = ((Q * Y : Nat) : Int) := by simp
    rw [e2]; omega
  · generalize Q * Y = Z at *
    omega
theorem DStart.quos {u u1 : Nat} (h : DStart u u1 Y a b) (hY : Y < 18446744073709551616) :
    ∃ q r P : Nat, IntKind.u64.wrap ((u : Int) / (a : Int)) = (q : Int) ∧ (q : Int) * (a : Int) = (P : Int) ∧ (u : Int) - (P : Int) = (r : Int) ∧ (P : Int) ≤ (u : Int) ∧ DInv u u1 Y a q r := by
  have hi := h.init
  have h1 := hi.1
  refine ⟨u / a, u % a, u / a * a, wrap_quo u a _ (by have := h.2.2.2.2.1; omega) rfl, by simp, ?_, ?_, hi⟩
  · generalize u / a * a = x at *
    omega
  · generalize u / a * a = x at *
    omega
theorem D64.result {Q1 R1 Q0 R0 : Nat} (D : D64 hi lo y s Y a b u v v1 v0) (hhi : hi < y) (hlo : lo < 18446744073709551616) (hy : y < 18446744073709551616) (h1 : Q1 = (u * 4294967296 + v1) / Y) (h2 : R1 = (u * 4294967296 + v1) % Y)
    (h3 : Q0 = (R1 * 4294967296 + v0) / Y) (h4 : R0 = (R1 * 4294967296 + v0) % Y) :
    (hi * 18446744073709551616 + lo) / y = Q1 * 4294967296 + Q0 ∧ (R0 : Int) / 2 ^ s = (((hi * 18446744073709551616 + lo) % y : Nat) : Int) := by
  have hs := D.start hhi hlo hy
  have h5 := moved (hi := hi) (lo := lo) (y := y) (s := s) (by have := D.hs; omega) hlo hhi
  have h6 := two_digits hs.1.pos h1 h2 h3 h4
  have h7 := moved_back (y := y) (s := s) (hi * 18446744073709551616 + lo)
  have e : (u * 4294967296 + v1) * 4294967296 + v0 = (hi * 18446744073709551616 + lo) * 2 ^ s := by
    rw [h5.1, ← D.hu, ← D.hv]
    have := D.hv1
    have := D.hv0
    omega
  rw [e, D.hY] at h6
  rw [← h7.1, ← h7.2, h6.1, h6.2]
  exact ⟨rfl, by simp⟩
end
set_option maxRecDepth 100000 in
set_option maxHeartbeats 1600000 in
theorem div64_calls (w : World) (hi lo y : Nat) (h0 : 0 < hi) (hhi : hi < y) (hlo : lo < 18446744073709551616) (hy : y < 18446744073709551616) :
    Calls Tryz.prog 233 #[.int .u64 (hi : Int), .int .u64 (lo : Int), .int .u64 (y : Int)] w fun e w' =>
      e = .returned (.tuple #[.int .u64 (((hi * 18446744073709551616 + lo) / y : Nat) : Int), .int .u64 (((hi * 18446744073709551616 + lo) % y : Nat) : Int)]) ∧ w = w' := by
  obtain ⟨s, hs⟩ : ∃ s, s = 64 - Lib.bitLen y := ⟨_, rfl⟩
  obtain ⟨Y, hY⟩ : ∃ Y, Y = y * 2 ^ s := ⟨_, rfl⟩
  obtain ⟨a, ha⟩ : ∃ a, a = Y / 4294967296 := ⟨_, rfl⟩
  obtain ⟨b, hb⟩ : ∃ b, b = Y % 4294967296 := ⟨_, rfl⟩
  obtain ⟨u, hu⟩ : ∃ u, u = hi * 2 ^ s + lo / 2 ^ (64 - s) := ⟨_, rfl⟩
  obtain ⟨v, hv⟩ : ∃ v, v = lo * 2 ^ s % 18446744073709551616 := ⟨_, rfl⟩
  obtain ⟨v1, hv1⟩ : ∃ v1, v1 = v / 4294967296 := ⟨_, rfl⟩
  obtain ⟨v0, hv0⟩ : ∃ v0, v0 = v % 4294967296 := ⟨_, rfl⟩
  have D : D64 hi lo y s Y a b u v v1 v0 := ⟨hs, hY, ha, hb, hu, hv, hv1, hv0⟩
  obtain ⟨DS, hYb, hv0b, hub⟩ := D.start hhi hlo hy
  have c1 : ((y : Int) == 0) = false := by rw [beq_eq_false_iff_ne]; omega
  have c2 : ¬ ((y : Int) ≤ (hi : Int)) := by omega
  have c3 : ((hi : Int) == 0) = false := by rw [beq_eq_false_iff_ne]; omega
  have hs64 : (s : Int) ≤ 64 := by omega
  have HLZ := Lib.hid (fun W => lz64_calls W y s hy hs)
  have HSY := Lib.hid (And.intro (D.shY (by omega) hy) (D.shY2 hYb))
  have HSU := Lib.hid (D.shU hhi hlo hy)
  have HSV := Lib.hid D.shV
  obtain ⟨q, hq⟩ : ∃ q, q = u / a := ⟨_, rfl⟩
  obtain ⟨r, hr⟩ : ∃ r, r = u % a := ⟨_, rfl⟩
  obtain ⟨P, hP⟩ : ∃ P, P = q * a := ⟨_, rfl⟩
  have HI := DS.init
  rw [← hq, ← hr] at HI
  have hPu : P + r = u := by rw [hP]; exact HI.1
  have HQ := Lib.hid (And.intro (wrap_quo u a q (by omega) hq) (show (q : Int) * (a : Int) = (P : Int) by rw [hP]; simp))
  have HPU := Lib.hid hPu
  have HH := Lib.hid (And.intro h0 (And.intro hhi (And.intro hlo hy)))
  have HD := Lib.hid D
  have HDS := Lib.hid DS
  obtain ⟨Q1, hQ1⟩ : ∃ Q1, Q1 = (u * 4294967296 + v1) / Y := ⟨_, rfl⟩
  obtain ⟨R1, hR1⟩ : ∃ R1, R1 = (u * 4294967296 + v1) % Y := ⟨_, rfl⟩
  obtain ⟨Q0, hQ0⟩ : ∃ Q0, Q0 = (R1 * 4294967296 + v0) / Y := ⟨_, rfl⟩
  obtain ⟨R0, hR0⟩ : ∃ R0, R0 = (R1 * 4294967296 + v0) % Y := ⟨_, rfl⟩
  have DS2 := DS.second hR1 hv0b
  have HDS2 := Lib.hid DS2
  have HB2 := Lib.hid (DS2.quos hYb)
  have HA1 := Lib.hid (DS.rests hYb hQ1 hR1)
  have HA2 := Lib.hid (DS2.rests hYb hQ0 hR0)
  have HQ1 := Lib.hid hQ1
  have HQ0 := Lib.hid hQ0
  have HRes := Lib.hid (D.result hhi hlo hy hQ1 hR1 hQ0 hR0)
  have hQ1w : (Q1 : Int) ≤ 4294967295 := by have := DS.lt; omega
  have hQ0w : (Q0 : Int) ≤ 4294967295 := by have := DS2.lt; omega
  have hv0I : (v0 : Int) ≤ 4294967295 := by omega
  have HR1 := Lib.hid (show R1 < Y by rw [hR1]; exact Nat.mod_lt _ DS.pos)
  have HYb := Lib.hid hYb
  have HIn := Lib.hid HI
  have ha0 : ¬ a = 0 := by have := DS.2.2.1; omega
  have hubI : (u : Int) ≤ 18446744073709551615 := by omega
  have hvI : (v1 : Int) ≤ 4294967295 := by have := DS.2.2.2.2.2; omega
  have haI : (a : Int) ≤ 4294967295 := by have := DS.2.2.2.1; omega
  have hbI : (b : Int) ≤ 4294967295 := by have := DS.2.1; omega
  clear D DS DS2 HI hQ1 hR1 hQ0 hR0 hs hY ha hb hu hv hv1 hv0 h0 hhi hlo hy hYb hv0b hub hq hr hP hPu
  go_enter Tryz.func233, Tryz.ntmps233
  go_wp2_with fail
  refine (HLZ.out _).mono ?_
  rintro e w' ⟨rfl, rfl⟩
  clear c1 c2 c3
  obtain ⟨f1, f2, f3⟩ := HSY.out
  obtain ⟨t, l, H, f4, f5, f6, f7, f8⟩ := HSU.out
  obtain ⟨f9, f10, f11⟩ := HSV.out
  have f8I : (t : Int) ≤ 64 := by omega
  go_upto_region 15 with fail
  clear f1 f2 f3 f4 f5 f6 f7 f8 f9 f10 f11 f8I
  obtain ⟨g1, g2⟩ := HQ.out
  have hPI : (P : Int) ≤ (u : Int) := by have := HPU.out; omega
  have g3 : (u : Int) - (P : Int) = (r : Int) := by have := HPU.out; omega
  go_upto_block 0 with fail
  clear g1 g2 g3 hPI
  go_cut [15] (fun sq wx => sq = .int .u64 (Q1 : Int) ∧ w = wx)
  case first =>
    go_wp2_with fail
    go_loop [15, 16] (fun sq sr => ∃ q r : Nat, sq = .int .u64 (q : Int) ∧ sr = .int .u64 (r : Int) ∧ DInv u v1 Y a q r) (fun sq _ => (intOf sq).toNat)
    case atStart => exact ⟨q, r, rfl, rfl, HIn.out⟩
    case round =>
      obtain ⟨q, r, rfl, rfl, I⟩ := hrel
      have HI := Lib.hid I
      obtain ⟨I1, I2, I3, I4⟩ := I
      have qI : (q : Int) ≤ 4294967297 := by omega
      have rI : (r : Int) < 4294967296 := by omega
      by_cases hlt : (u * 4294967296 + v1) / Y < q
      · obtain ⟨d1, d2, d3, d4, d5⟩ := DInv.down HDS.out HI.out hlt
        have hbig := (DInv.test (u1 := v1) HDS.out I1).2 hlt
        obtain ⟨q1, hq1⟩ : ∃ q1, q1 = q - 1 := ⟨_, rfl⟩
        obtain ⟨r1, hr1⟩ : ∃ r1, r1 = r + a := ⟨_, rfl⟩
        have q1I : (q : Int) - 1 = (q1 : Int) := by omega
        have r1I : (r : Int) + (a : Int) = (r1 : Int) := by omega
        have r1w : (r1 : Int) ≤ 8589934591 := by omega
        rw [← hq1, ← hr1] at d2
        rw [← hq1] at d3 d4
        have q0I : (1 : Int) ≤ (q : Int) := by omega
        have HN := Lib.hid (And.intro d2 (And.intro d3 d4))
        have HL := Lib.hid (show q1 < q by omega)
        clear I1 I2 hlt d1 d2 d3 d4 d5 hq1 hr1
        by_cases hq : 4294967296 ≤ q
        · have hqI : (4294967296 : Int) ≤ (q : Int) := by omega
          clear hq hbig
          by_cases hr : 4294967296 ≤ r1
          · have hrI : (4294967296 : Int) ≤ (r1 : Int) := by omega
            have HE := Lib.hid (DInv.far HDS.out HN.out.1 HN.out.2.1 hr HN.out.2.2)
            clear hr
            go_wp2
            go_meet
            exact ⟨by rw [HQ1.out, ← HE.out], rfl⟩
          · have hrI : ¬ (4294967296 : Int) ≤ (r1 : Int) := by omega
            have HR := Lib.hid (show r1 < 4294967296 by omega)
            clear hr
            go_wp2
            go_round
            case rel => exact ⟨q1, r1, rfl, rfl, HN.out.1, HN.out.2.1, HR.out, by have := HN.out.2.2; omega⟩
            case measure => have := HL.out; simp [intOf]; omega
        · have hqI : ¬ (4294967296 : Int) ≤ (q : Int) := by omega
          obtain ⟨P, hP⟩ : ∃ P, P = q * b := ⟨_, rfl⟩
          rw [← hP] at hbig
          have hPI : (q : Int) * (b : Int) = (P : Int) := by rw [hP]; simp
          have hPw : (P : Int) ≤ 18446744073709551615 := by
            have : q * b ≤ 4294967295 * 4294967295 := Nat.mul_le_mul (by omega) (by omega)
            omega
          have hbigI : 4294967296 * (r : Int) + (v1 : Int) < (P : Int) := by omega
          clear hq hbig hP
          by_cases hr : 4294967296 ≤ r1
          · have hrI : (4294967296 : Int) ≤ (r1 : Int) := by omega
            have HE := Lib.hid (DInv.far HDS.out HN.out.1 HN.out.2.1 hr HN.out.2.2)
            clear hr
            go_wp2
            go_meet
            exact ⟨by rw [HQ1.out, ← HE.out], rfl⟩
          · have hrI : ¬ (4294967296 : Int) ≤ (r1 : Int) := by omega
            have HR := Lib.hid (show r1 < 4294967296 by omega)
            clear hr
            go_wp2
            go_round
            case rel => exact ⟨q1, r1, rfl, rfl, HN.out.1, HN.out.2.1, HR.out, by have := HN.out.2.2; omega⟩
            case measure => have := HL.out; simp [intOf]; omega
      · have HE := Lib.hid (DInv.stop HI.out hlt)
        have hq : q < 4294967296 := by have := HDS.out.lt; omega
        have hqI : ¬ (4294967296 : Int) ≤ (q : Int) := by omega
        have hsm := mt (DInv.test (u1 := v1) HDS.out I1).1 hlt
        obtain ⟨P, hP⟩ : ∃ P, P = q * b := ⟨_, rfl⟩
        rw [← hP] at hsm
        have hPI : (q : Int) * (b : Int) = (P : Int) := by rw [hP]; simp
        have hPw : (P : Int) ≤ 18446744073709551615 := by
          have : q * b ≤ 4294967295 * 4294967295 := Nat.mul_le_mul (by omega) (by omega)
          omega
        have hsmI : ¬ 4294967296 * (r : Int) + (v1 : Int) < (P : Int) := by omega
        clear hq hlt hP I1 I2 hsm
        go_wp2
        go_meet
        exact ⟨by rw [HQ1.out, ← HE.out], rfl⟩
  case rest =>
    obtain ⟨rfl, rfl⟩ := hcut
    obtain ⟨C1, C2, C3, f1, f2, f3, f4⟩ := HA1.out
    obtain ⟨q, r, P, f5, f6, f7, f8, f9⟩ := HB2.out
    have HIn2 := Lib.hid f9
    have hR1w : (R1 : Int) ≤ 18446744073709551615 := by have := HR1.out; have := HYb.out; omega
    clear f9
    go_upto_block 2 with fail
    clear f1 f2 f3 f4 f5 f6 f7 f8
    go_cut [18] (fun sq wx => sq = .int .u64 (Q0 : Int) ∧ w = wx)
    case first =>
      go_wp2_with fail
      go_loop [18, 16] (fun sq sr => ∃ q r : Nat, sq = .int .u64 (q : Int) ∧ sr = .int .u64 (r : Int) ∧ DInv R1 v0 Y a q r) (fun sq _ => (intOf sq).toNat)
      case atStart => exact ⟨_, _, rfl, rfl, HIn2.out⟩
      case round =>
        obtain ⟨q, r, rfl, rfl, I⟩ := hrel
        have HI := Lib.hid I
        obtain ⟨I1, I2, I3, I4⟩ := I
        have qI : (q : Int) ≤ 4294967297 := by omega
        have rI : (r : Int) < 4294967296 := by omega
        by_cases hlt : (R1 * 4294967296 + v0) / Y < q
        · obtain ⟨d1, d2, d3, d4, d5⟩ := DInv.down HDS2.out HI.out hlt
          have hbig := (DInv.test (u1 := v0) HDS2.out I1).2 hlt
          obtain ⟨q1, hq1⟩ : ∃ q1, q1 = q - 1 := ⟨_, rfl⟩
          obtain ⟨r1, hr1⟩ : ∃ r1, r1 = r + a := ⟨_, rfl⟩
          have q1I : (q : Int) - 1 = (q1 : Int) := by omega
          have r1I : (r : Int) + (a : Int) = (r1 : Int) := by omega
          have r1w : (r1 : Int) ≤ 8589934591 := by omega
          rw [← hq1, ← hr1] at d2
          rw [← hq1] at d3 d4
          have q0I : (1 : Int) ≤ (q : Int) := by omega
          have HN := Lib.hid (And.intro d2 (And.intro d3 d4))
          have HL := Lib.hid (show q1 < q by omega)
          clear I1 I2 hlt d1 d2 d3 d4 d5 hq1 hr1
          by_cases hq : 4294967296 ≤ q
          · have hqI : (4294967296 : Int) ≤ (q : Int) := by omega
            clear hq hbig
            by_cases hr : 4294967296 ≤ r1
            · have hrI : (4294967296 : Int) ≤ (r1 : Int) := by omega
              have HE := Lib.hid (DInv.far HDS2.out HN.out.1 HN.out.2.1 hr HN.out.2.2)
              clear hr
              go_wp2
              go_meet
              exact ⟨by rw [HQ0.out, ← HE.out], rfl⟩
            · have hrI : ¬ (4294967296 : Int) ≤ (r1 : Int) := by omega
              have HR := Lib.hid (show r1 < 4294967296 by omega)
              clear hr
              go_wp2
              go_round
              case rel => exact ⟨q1, r1, rfl, rfl, HN.out.1, HN.out.2.1, HR.out, by have := HN.out.2.2; omega⟩
              case measure => have := HL.out; simp [intOf]; omega
          · have hqI : ¬ (4294967296 : Int) ≤ (q : Int) := by omega
            obtain ⟨P, hP⟩ : ∃ P, P = q * b := ⟨_, rfl⟩
            rw [← hP] at hbig
            have hPI : (q : Int) * (b : Int) = (P : Int) := by rw [hP]; simp
            have hPw : (P : Int) ≤ 18446744073709551615 := by
              have : q * b ≤ 4294967295 * 4294967295 := Nat.mul_le_mul (by omega) (by omega)
              omega
            have hbigI : 4294967296 * (r : Int) + (v0 : Int) < (P : Int) := by omega
            clear hq hbig hP
            by_cases hr : 4294967296 ≤ r1
            · have hrI : (4294967296 : Int) ≤ (r1 : Int) := by omega
              have HE := Lib.hid (DInv.far HDS2.out HN.out.1 HN.out.2.1 hr HN.out.2.2)
              clear hr
              go_wp2
              go_meet
              exact ⟨by rw [HQ0.out, ← HE.out], rfl⟩
            · have hrI : ¬ (4294967296 : Int) ≤ (r1 : Int) := by omega
              have HR := Lib.hid (show r1 < 4294967296 by omega)
              clear hr
              go_wp2
              go_round
              case rel => exact ⟨q1, r1, rfl, rfl, HN.out.1, HN.out.2.1, HR.out, by have := HN.out.2.2; omega⟩
              case measure => have := HL.out; simp [intOf]; omega
        · have HE := Lib.hid (DInv.stop HI.out hlt)
          have hq : q < 4294967296 := by have := HDS2.out.lt; omega
          have hqI : ¬ (4294967296 : Int) ≤ (q : Int) := by omega
          have hsm := mt (DInv.test (u1 := v0) HDS2.out I1).1 hlt
          obtain ⟨P, hP⟩ : ∃ P, P = q * b := ⟨_, rfl⟩
          rw [← hP] at hsm
          have hPI : (q : Int) * (b : Int) = (P : Int) := by rw [hP]; simp
          have hPw : (P : Int) ≤ 18446744073709551615 := by
            have : q * b ≤ 4294967295 * 4294967295 := Nat.mul_le_mul (by omega) (by omega)
            omega
          have hsmI : ¬ 4294967296 * (r : Int) + (v0 : Int) < (P : Int) := by omega
          clear hq hlt hP I1 I2 hsm
          go_wp2
          go_meet
          exact ⟨by rw [HQ0.out, ← HE.out], rfl⟩
    case rest =>
      obtain ⟨rfl, rfl⟩ := hcut
      obtain ⟨C1, C2, C3, f1, f2, f3, f4⟩ := HA2.out
      have f6 := HRes.out.2
      go_wp2_with fail
      go_ret2
      exact ⟨by rw [HRes.out.1]; simp, rfl⟩

end Go.Proofs.YtifeacfljfmnpaaGreat
end

section
set_option maxRecDepth 100000
namespace Go.Proofs.YtifeacfljfmnpaaGreat
open Go.RowKit
theorem div64_any (w : World) (hi lo y : Nat) (hhi : hi < y) (hlo : lo < 18446744073709551616) (hy : y < 18446744073709551616) :
    Calls Tryz.prog 233 #[.int .u64 (hi : Int), .int .u64 (lo : Int), .int .u64 (y : Int)] w fun e w' =>
      e = .returned (.tuple #[.int .u64 (((hi * 18446744073709551616 + lo) / y : Nat) : Int), .int .u64 (((hi * 18446744073709551616 + lo) % y : Nat) : Int)]) ∧ Ext w w' := by
  rcases Nat.eq_zero_or_pos hi with h | h
  · subst h
    have := div64_zero w lo y (by omega) hhi
    simpa using this
  · exact (div64_calls w hi lo y h hhi hlo hy).mono fun _ _ ⟨h1, h2⟩ => ⟨h1, h2 ▸ Ext.refl w⟩

set_option maxRecDepth 100000 in
set_option maxHeartbeats 800000 in
theorem estimate_calls (w : World) (b off b' off' : Nat) (ps ys : List Nat) (cp cy m : Nat) (hm : ys.length = m + 2) (hl : ps.length = m + 3) (kp : ps.length ≤ cp) (bp : cp ≤ 9223372036854775807) (ky : ys.length ≤ cy) (by_ : cy ≤ 9223372036854775807)
    (hp : Cells w (some ⟨b, off, none⟩) ps) (dp : Dig ps) (hy : Cells w (some ⟨b', off', none⟩) ys) (dy : Dig ys) (hlt : val (ps.drop m) < 1000000001 * val (ys.drop m)) :
    Calls Tryz.prog 258 #[.slice (some ⟨b, off, none⟩) (m + 3) cp, .slice (some ⟨b', off', none⟩) (m + 2) cy] w fun e w' =>
      e = .returned (.int .u64 ((val (ps.drop m) / val (ys.drop m) : Nat) : Int)) ∧ Ext w w' := by
  have l1 : (ps.drop m).length = 3 := by rw [List.length_drop]; omega
  have l2 : (ys.drop m).length = 2 := by rw [List.length_drop]; omega
  have b1 := val_lt (dp.drop m)
  have b2 := val_lt (dy.drop m)
  rw [l1] at b1
  rw [l2] at b2
  have hs := split_calls w b (off + m) (ps.drop m) (cp - m) (by omega) (by omega) (hp.drop m) (dp.drop m) (by omega) (by omega)
  have hv := valueOf_calls w (some ⟨b', off' + m, none⟩) (ys.drop m) (cy - m) (by omega) (by omega) (hy.drop m) (by omega)
  rw [l1] at hs
  rw [l2] at hv
  have hd := div64_any w (val (ps.drop m) / 18446744073709551616) (val (ps.drop m) % 18446744073709551616) (val (ys.drop m)) (by omega) (by omega) (by omega)
  rw [show val (ps.drop m) / 18446744073709551616 * 18446744073709551616 + val (ps.drop m) % 18446744073709551616 = val (ps.drop m) by omega] at hd
  generalize val (ps.drop m) = p at *
  generalize val (ys.drop m) = y at *
  have HS := Lib.hid hs
  have HV := Lib.hid hv
  have HD := Lib.hid hd
  have k1 : ¬ cp = m := by omega
  have k2 : ¬ cy = m := by omega
  have k3 : (m : Int) + 3 ≤ (cp : Int) := by omega
  have k4 : (m : Int) + 2 ≤ (cy : Int) := by omega
  clear hs hv hd l1 l2 b1 b2 hp hy dp dy hm hl hlt
  go_enter Tryz.func258, Tryz.ntmps258
  go_wp2_with fail
  refine HS.out.mono ?_
  rintro e w' ⟨rfl, rfl⟩
  go_wp2_with fail
  refine HV.out.mono ?_
  rintro e w' ⟨rfl, rfl⟩
  go_wp2_with fail
  refine HD.out.mono ?_
  rintro e w' ⟨rfl, e1⟩
  go_wp2_with fail
  go_ret
  exact ⟨by simp, e1⟩

end Go.Proofs.YtifeacfljfmnpaaGreat
end

section
set_option maxRecDepth 100000
namespace Go.Proofs.YtifeacfljfmnpaaGreat
open Go.RowKit
theorem Only.trans {g : Nat} {a b c : World} (h : Only g a b) (k : Only g b c) : Only g a c := fun x zs hx hb => k x zs hx (h x zs hx hb)
theorem Only.ext {g : Nat} {a b : World} (h : Ext a b) : Only g a b := fun _ _ _ hb => hb.ext h
theorem val_take_drop (zs : List Nat) (j n : Nat) (h : j ≤ zs.length) : val (zs.take (j + n)) = val (zs.take j) + 1000000000 ^ j * val ((zs.drop j).take n) := by
  have e : zs.take (j + n) = zs.take j ++ (zs.drop j).take n := by rw [List.take_add]
  rw [e, val_append, List.length_take, Nat.min_eq_left h]
theorem take_eq_of {zs ws : List Nat} {j : Nat} (hl : ws.length = zs.length) (h : ∀ i, i < j → ws.getD i 0 = zs.getD i 0) : ws.take j = zs.take j := by
  apply List.ext_getElem?
  intro i
  rw [List.getElem?_take, List.getElem?_take]
  by_cases hi : i < j
  · rw [if_pos hi, if_pos hi]
    have := h i hi
    by_cases h1 : i < zs.length
    · have h2 : i < ws.length := by omega
      rw [List.getD_eq_getElem?_getD, List.getD_eq_getElem?_getD, List.getElem?_eq_getElem h1, List.getElem?_eq_getElem h2] at this
      rw [List.getElem?_eq_getElem h1, List.getElem?_eq_getElem h2]
      simpa using this
    · rw [List.getElem?_eq_none (by omega), List.getElem?_eq_none (by omega)]
  · rw [if_neg hi, if_neg hi]

def LongRel (w : World) (g : Nat) (xs ys : List Nat) (k : Nat) (zs qs : List Nat) (wr : World) : Prop :=
  zs.length = xs.length + 1 ∧ Dig zs ∧ Blk wr g zs ∧ qs.length + ys.length = xs.length + 1 ∧ Dig qs ∧ Blk wr (g + 1) qs ∧ Ext w wr ∧
    val xs = val (zs.take (k + ys.length)) + val ys * (1000000000 ^ k * val (qs.drop k)) ∧ val ((zs.drop k).take ys.length) < val ys
section
variable {w : World} {g : Nat} {xs ys : List Nat} {k : Nat} {zs qs : List Nat} {wr : World}
theorem LongRel.part (h : LongRel w g xs ys (k + 1) zs qs wr) (hk : k + 1 + ys.length ≤ xs.length + 1) :
    val ((zs.drop k).take (ys.length + 1)) < 1000000000 * val ys ∧ val ((zs.drop k).take (ys.length + 1)) = val ((zs.drop k).take ys.length) + 1000000000 ^ ys.length * zs.getD (k + ys.length) 0 := by
  obtain ⟨h1, h2, h3, h4, h5, h6, h7, h8, h9⟩ := h
  refine ⟨?_, ?_⟩
  · have e : (zs.drop k).take (ys.length + 1) = zs.getD k 0 :: (zs.drop (k + 1)).take ys.length := by
      rw [drop_getD zs k (by omega), List.take_succ_cons]
    rw [e, val]
    have := h2 k
    omega
  · rw [val_take_succ', getD_drop]
theorem LongRel.step (h : LongRel w g xs ys (k + 1) zs qs wr) (hg : w.heap.size ≤ g) (hk : k + 1 + ys.length ≤ xs.length + 1) {ws : List Nat} {w2 : World} (l : ws.length = zs.length) (d : Dig ws) (b : Blk w2 g ws) (e : Ext w w2) (o : Only g wr w2)
    (hlow : ∀ i, i < k → ws.getD i 0 = zs.getD i 0) (hr : val ((ws.drop k).take ys.length) = val ((zs.drop k).take (ys.length + 1)) % val ys) (q : Nat) (hq : q = val ((zs.drop k).take (ys.length + 1)) / val ys) {V : Int} (hV : V = q) :
    LongRel w g xs ys k ws (qs.set k q) (w2.setCell ⟨g + 1, k, none⟩ (.int .u32 V)) := by
  obtain ⟨hp1, hp2⟩ := h.part hk
  obtain ⟨h1, h2, h3, h4, h5, h6, h7, h8, h9⟩ := h
  have hy : 0 < val ys := by omega
  have hq1 : q < 1000000000 := by rw [hq]; exact Nat.div_lt_of_lt_mul (by rw [Nat.mul_comm]; exact hp1)
  have hb2 := o (g + 1) qs (by omega) h6
  refine ⟨by omega, d, b.far (p := ⟨g + 1, k, none⟩) (Nat.ne_of_lt (Nat.lt_succ_self g)) _, by simpa using h4, h5.set k hq1, hb2.set' k q (by omega) hV, e.setCell (p := ⟨g + 1, k, none⟩) (Nat.le_succ_of_le hg) _, ?_, ?_⟩
  · rw [h8]
    have e1 : k + 1 + ys.length = k + (ys.length + 1) := by omega
    rw [e1, val_take_drop zs k _ (by omega), val_take_drop ws k _ (by omega), take_eq_of l hlow, hr]
    have e2 := val_drop (qs.set k q) k (by rw [List.length_set]; omega)
    have e3 : (qs.set k q).getD k 0 = q := by simp [List.getD_eq_getElem?_getD, show k < qs.length by omega]
    have e4 : (qs.set k q).drop (k + 1) = qs.drop (k + 1) := by rw [List.drop_set_of_lt (by omega)]
    rw [e3, e4] at e2
    rw [e2]
    have e5 := Nat.div_add_mod (val ((zs.drop k).take (ys.length + 1))) (val ys)
    rw [← hq] at e5
    rw [Nat.pow_succ]
    generalize val ((zs.drop k).take (ys.length + 1)) % val ys = r at *
    generalize val ((zs.drop k).take (ys.length + 1)) = p at *
    generalize val (qs.drop (k + 1)) = Q at *
    generalize val ys = Y at *
    generalize 1000000000 ^ k = B at *
    generalize val (zs.take k) = L at *
    rw [← e5]
    simp only [Nat.mul_add]
    have m1 : B * (Y * q) = Y * (B * q) := Nat.mul_left_comm _ _ _
    have m2 : Y * (B * 1000000000 * Q) = Y * (B * (1000000000 * Q)) := by rw [Nat.mul_assoc B]
    omega
  · rw [hr]; exact Nat.mod_lt _ hy
theorem LongRel.done (h : LongRel w g xs ys 0 zs qs wr) : val xs / val ys = val qs ∧ val xs % val ys = val (zs.take ys.length) := by
  obtain ⟨h1, h2, h3, h4, h5, h6, h7, h8, h9⟩ := h
  rw [List.drop_zero] at h9
  rw [Nat.zero_add, Nat.pow_zero, Nat.one_mul, List.drop_zero] at h8
  exact (Nat.div_mod_unique (by omega)).2 ⟨by omega, h9⟩
end
theorem long_est {ps ys : List Nat} {m : Nat} (hp : ps.length = m + 3) (hy : ys.length = m + 2) (dp : Dig ps) (dy : Dig ys) (hlt : val ps < 1000000000 * val ys) (htop : ys.getD (m + 1) 0 ≠ 0) :
    val (ps.drop m) < 1000000001 * val (ys.drop m) ∧ val ps / val ys ≤ val (ps.drop m) / val (ys.drop m) ∧ val (ps.drop m) / val (ys.drop m) ≤ val ps / val ys + 1 ∧ val (ps.drop m) / val (ys.drop m) ≤ 1000000000 := by
  have e1 := val_split ps m (by omega)
  have e2 := val_split ys m (by omega)
  have b1 := val_lt (dp.take m)
  have b2 := val_lt (dy.take m)
  rw [List.length_take, Nat.min_eq_left (by omega)] at b1 b2
  have b3 : 1000000000 ≤ val (ys.drop m) := by
    rw [val_drop ys m (by omega), val_drop ys (m + 1) (by omega)]
    omega
  have := est_bounds (D := 1000000000 ^ m) (p3 := val (ps.drop m)) (p0 := val (ps.take m)) (y2 := val (ys.drop m)) (y0 := val (ys.take m)) (B := 1000000000) (Nat.pow_pos (by omega)) b1 b2 b3 (by omega)
    (by rw [Nat.mul_comm _ (1000000000 ^ m), Nat.mul_comm _ (1000000000 ^ m)]; omega)
  rw [Nat.mul_comm _ (1000000000 ^ m), Nat.mul_comm _ (1000000000 ^ m), Nat.add_comm (1000000000 ^ m * _), Nat.add_comm (1000000000 ^ m * _), ← e1, ← e2] at this
  exact this
theorem over_lacks {N low low' t c q Y r : Nat} (hN : 0 < N) (hY : Y ≤ N) (hr : r < Y) (hP : low + N * t = q * Y + r) (hl : low' < N) (h : low' + (q + 1) * Y = low + N * c) : t < c :=
  (round_over hY hr hP hl h (low2 := (low' + Y) % N) (c2 := (low' + Y) / N) (Nat.mod_lt _ hN) (by have := Nat.div_add_mod (low' + Y) N; omega)).1

end Go.Proofs.YtifeacfljfmnpaaGreat
end

section
set_option maxRecDepth 100000
namespace Go.Proofs.YtifeacfljfmnpaaGreat
open Go.RowKit
set_option maxRecDepth 100000
theorem copy_fresh (hsz : (Tryz.prog.info? 149).map (·.size) = some 1) (b off cx : Nat) (xs : List Nat) (n : Nat) (h0 : 0 < xs.length) (w : World) (hx : Cells w (some ⟨b, off, none⟩) xs) :
    ∃ W2, (Builtin.copy_ #[22, 22] 3 #[.slice (some ⟨w.heap.size, 0, none⟩) (xs.length + n) (xs.length + n), .slice (some ⟨b, off, none⟩) xs.length cx]).run Tryz.prog (w.alloc (.cells (u32s (List.replicate (xs.length + n) 0)) 149)) = .ok (goInt xs.length) W2 ∧
      Ext w W2 ∧ Hid (W2.heap.size = w.heap.size + 1 ∧ Blk W2 w.heap.size (xs ++ List.replicate n 0)) := by
  obtain ⟨b', off', he, hc⟩ := hx.at_ h0
  injection he with he
  injection he with h1 h2
  subst h1 h2
  have hg0 : (w.alloc (.cells (u32s (List.replicate (xs.length + n) 0)) 149)).heap[w.heap.size]? = some (.cells (u32s (List.replicate (xs.length + n) 0)) 149 (0, 0)) := by
    show (w.heap.push _)[w.heap.size]? = _
    rw [Array.getElem?_push_size]
  have eA : Ext w (w.alloc (.cells (u32s (List.replicate (xs.length + n) 0)) 149)) := (Ext.refl w).alloc _
  have hrun := run_copy_row (P := Tryz.prog) (w.alloc (.cells (u32s (List.replicate (xs.length + n) 0)) 149)) 22 22 3 149 w.heap.size 0 (xs.length + n) (xs.length + n) ⟨b, off, none⟩ xs.length cx
    (u32s (List.replicate (xs.length + n) 0)) 149 (u32s xs).toList Tryz.underlying22 hsz hg0 (by simp [u32s]) ?_ (by simp [u32s]) (by simp [u32s, Value.oneCell'])
  · have hl : (u32s xs).toList.length = xs.length := by simp [u32s]
    rw [hl] at hrun
    refine ⟨_, hrun, below_setRow eA (Nat.le_refl _) _, ?_⟩
    refine ⟨by simp [World.setRow], #[], ?_⟩
    rw [setRow_heap _ _ _ _ _ _ hg0, Array.append_empty]
    congr 2
    apply Array.toList_inj.1
    simp [u32s]
  · intro j v hj
    have hjl : j < xs.length := by
      rcases Nat.lt_or_ge j xs.length with h | h
      · exact h
      · rw [List.getElem?_eq_none (by simp [u32s]; omega)] at hj; cases hj
    have h3 := eA.cell (hc j hjl)
    have h4 := u32s_at xs j hjl
    rw [← Array.getElem?_toList, hj] at h4
    injection h4 with h4
    rw [h4]
    have e : ((⟨b, off, none⟩ : Addr).add j) = ⟨b, off + j, none⟩ := by unfold Addr.add; split <;> simp_all
    rw [e]
    exact h3

theorem Cells.dropAt {w : World} {g : Nat} {zs : List Nat} (h : Cells w (some ⟨g, 0, none⟩) zs) (k : Nat) : Cells w (some ⟨g, k, none⟩) (zs.drop k) := by
  have := h.drop k
  rwa [Nat.zero_add] at this
theorem long_round {w : World} {g : Nat} {xs ys : List Nat} {k m : Nat} {zs qs : List Nat} {wr : World} (h : LongRel w g xs ys (k + 1) zs qs wr) (hm : ys.length = m + 2) (htop : ys.getD (m + 1) 0 ≠ 0) (dy : Dig ys) (hk : k + 1 + ys.length ≤ xs.length + 1) :
    ((zs.drop k).take (ys.length + 1)).length = m + 3 ∧
    (val (((zs.drop k).take (ys.length + 1)).drop m) < 1000000001 * val (ys.drop m) ∧ val ((zs.drop k).take (ys.length + 1)) / val ys ≤ val (((zs.drop k).take (ys.length + 1)).drop m) / val (ys.drop m) ∧
      val (((zs.drop k).take (ys.length + 1)).drop m) / val (ys.drop m) ≤ val ((zs.drop k).take (ys.length + 1)) / val ys + 1 ∧ val (((zs.drop k).take (ys.length + 1)).drop m) / val (ys.drop m) ≤ 1000000000) := by
  have hl : ((zs.drop k).take (ys.length + 1)).length = m + 3 := by
    have := h.1
    rw [List.length_take, List.length_drop]; omega
  exact ⟨hl, long_est hl hm ((h.2.1.drop k).take _) dy (h.part hk).1 htop⟩

section
variable {w : World} {g : Nat} {xs ys : List Nat} {k q c : Nat} {zs qs ws : List Nat} {wr w1 w2 : World}
theorem low_lt {ws : List Nat} {n : Nat} (d : Dig ws) (h : k + n ≤ ws.length) : val ((ws.drop k).take n) < 1000000000 ^ n := by
  have := val_lt ((d.drop k).take n)
  rwa [List.length_take, List.length_drop, Nat.min_eq_left (by omega)] at this
theorem long_exact (h : LongRel w g xs ys (k + 1) zs qs wr) (hk : k + 1 + ys.length ≤ xs.length + 1) (dy : Dig ys) (hM : MS w w1 g zs k ys q ys.length c ws w2) (hq : q = val ((zs.drop k).take (ys.length + 1)) / val ys) :
    decide (zs.getD (k + ys.length) 0 < c) = false ∧ val ((ws.drop k).take ys.length) = val ((zs.drop k).take (ys.length + 1)) % val ys := by
  obtain ⟨hp1, hp2⟩ := h.part hk
  have hl := h.1
  obtain ⟨m1, m2, m3, m4, m5, m6, m7, m8⟩ := hM
  rw [List.take_of_length_le (Nat.le_refl ys.length)] at m7
  have e := Nat.div_add_mod (val ((zs.drop k).take (ys.length + 1))) (val ys)
  have hr := Nat.mod_lt (val ((zs.drop k).take (ys.length + 1))) (show 0 < val ys by omega)
  rw [← hq, hp2, Nat.mul_comm] at e
  rw [hp2] at hr
  have := round_eq (Nat.le_of_lt (val_lt dy)) hr e.symm (low_lt m2 (by omega)) m7
  rw [hp2]
  exact ⟨decide_eq_false (by omega), this.2⟩
theorem long_over (h : LongRel w g xs ys (k + 1) zs qs wr) (hk : k + 1 + ys.length ≤ xs.length + 1) (dy : Dig ys) (hM : MS w w1 g zs k ys q ys.length c ws w2) (hq : q = val ((zs.drop k).take (ys.length + 1)) / val ys + 1) :
    decide (zs.getD (k + ys.length) 0 < c) = true ∧ ∀ c2 us w3, AB w w2 g ws k ys ys.length c2 us w3 → val ((us.drop k).take ys.length) = val ((zs.drop k).take (ys.length + 1)) % val ys := by
  obtain ⟨hp1, hp2⟩ := h.part hk
  have hl := h.1
  obtain ⟨m1, m2, m3, m4, m5, m6, m7, m8⟩ := hM
  rw [List.take_of_length_le (Nat.le_refl ys.length)] at m7
  have e := Nat.div_add_mod (val ((zs.drop k).take (ys.length + 1))) (val ys)
  have hr := Nat.mod_lt (val ((zs.drop k).take (ys.length + 1))) (show 0 < val ys by omega)
  rw [hp2, Nat.mul_comm] at e
  rw [hp2] at hr hq ⊢
  generalize (val ((zs.drop k).take ys.length) + 1000000000 ^ ys.length * zs.getD (k + ys.length) 0) / val ys = Q at *
  subst hq
  refine ⟨decide_eq_true (over_lacks (Nat.pow_pos (by omega)) (Nat.le_of_lt (val_lt dy)) hr e.symm (low_lt m2 (by omega)) m7), ?_⟩
  intro c2 us w3 hA
  obtain ⟨a1, a2, a3, a4, a5, a6, a7, a8⟩ := hA
  rw [List.take_of_length_le (Nat.le_refl ys.length)] at a7
  exact (round_over (Nat.le_of_lt (val_lt dy)) hr e.symm (low_lt m2 (by omega)) m7 (low_lt a2 (by omega)) a7).2
end
set_option maxRecDepth 100000 in
set_option maxHeartbeats 1600000 in
theorem divideLong_calls (w : World) (b off b' off' : Nat) (xs ys : List Nat) (cx cy m : Nat) (hm : ys.length = m + 2) (hxy : ys.length ≤ xs.length) (lx : xs.length ≤ 1048576) (kx : xs.length ≤ cx) (bx : cx ≤ 9223372036854775807) (ky : ys.length ≤ cy) (by_ : cy ≤ 9223372036854775807)
    (hx : Cells w (some ⟨b, off, none⟩) xs) (dx : Dig xs) (hy : Cells w (some ⟨b', off', none⟩) ys) (dy : Dig ys) (htop : ys.getD (m + 1) 0 ≠ 0) :
    Calls Tryz.prog 251 #[.slice (some ⟨b, off, none⟩) xs.length cx, .slice (some ⟨b', off', none⟩) ys.length cy] w (Ret2 (IsLimbs (val xs / val ys)) (IsLimbs (val xs % val ys)) w) := by
  have hmk := run_mk (xs.length + 1) (by omega) (↑xs.length + 1) (by omega)
  obtain ⟨L, hL⟩ : ∃ L, L + ys.length = xs.length + 1 := ⟨xs.length + 1 - ys.length, by omega⟩
  have hmk2 := run_mk L (by omega) (↑xs.length - ↑ys.length + 1) (by omega)
  have HL := Lib.hid hL
  have hLw : (L : Int) ≤ 1048577 := by omega
  have hL1 : (1 : Int) ≤ (L : Int) := by omega
  have hxyI : (ys.length : Int) ≤ (xs.length : Int) := by omega
  have HM := Lib.hid hm
  have HX := Lib.hid hx
  have hx0 : 0 < xs.length := by omega
  obtain ⟨i0, hi, hz0, hz1, hz2⟩ := info_parts info_u32
  have HSZ := Lib.hid (show (Tryz.prog.info? 149).map (·.size) = some 1 by rw [hi]; exact congrArg some hz1)
  clear hm hL i0 hi hz0 hz1 hz2
  obtain ⟨W2, hcp, e2, HB⟩ := copy_fresh HSZ.out b off cx xs 1 hx0 w hx
  go_enter Tryz.func251, Tryz.ntmps251
  go_upto_region 3 with fail
  clear hmk
  go_upto_region 4 with fail
  clear hcp
  have hB := HB.out
  have hgs : W2.heap.size = w.heap.size + 1 := hB.1
  have HBX := Lib.hid hB.2
  have HGS := Lib.hid hgs
  clear hB HB
  go_upto_region 5 with fail
  clear hmk2 hgs
  have h0 : LongRel w w.heap.size xs ys L (xs ++ [0]) (List.replicate L 0) (W2.alloc (.cells (u32s (List.replicate L 0)) 149)) := by
    have hbq := Blk.new W2 (List.replicate L 0)
    rw [HGS.out] at hbq
    refine ⟨by simp, dx.append (Dig.cons (by omega) Dig.nil), HBX.out.alloc _, by rw [List.length_replicate]; exact HL.out, Dig.replicate _, hbq, e2.alloc _, ?_, ?_⟩
    · have hl := HL.out
      rw [List.take_of_length_le (by simp; omega), List.drop_of_length_le (by simp), val_append]
      simp [val]
    · have hl := HL.out
      have hd : (xs ++ [0]).drop L = xs.drop L ++ [0] := by rw [List.drop_append_of_le_length (by have := HM.out; omega)]
      rw [hd, List.take_of_length_le (by have := HM.out; simp; omega), val_append]
      have h1 := val_lt (dx.drop L)
      rw [List.length_drop, show xs.length - L = m + 1 by have := HM.out; omega] at h1
      have h2 := val_split ys (m + 1) (by have := HM.out; omega)
      rw [val_drop ys (m + 1) (by have := HM.out; omega)] at h2
      have h3 : 1000000000 ^ (m + 1) * 1 ≤ 1000000000 ^ (m + 1) * (ys.getD (m + 1) 0 + 1000000000 * val (ys.drop (m + 1 + 1))) := Nat.mul_le_mul_left _ (by omega)
      simp only [val]
      omega
  have H0 := Lib.hid h0
  clear h0
  go_wp2
  go_loopw [9, 10, 11] (fun j _ _ wr => ∃ (k : Nat) (zs qs : List Nat), k ≤ L ∧ j = .int .i64 ((k : Int) - 1) ∧ LongRel w w.heap.size xs ys k zs qs wr) (fun j _ _ _ => (intOf j + 1).toNat)
  case atStart => exact ⟨L, _, _, Nat.le_refl _, by go_num, H0.out⟩
  case round =>
    obtain ⟨k, zs, qs, hk, rfl, hR⟩ := hrel
    clear H0 HBX HGS e2
    rcases k with _ | k
    · have HD := Lib.hid hR.done
      have H1 := Lib.hid hR.1
      have H4 := Lib.hid hR.2.2.2.1
      have hE := hR.2.2.2.2.2.2.1
      have hq : qs.length = L := by have := HL.out; have := H4.out; omega
      have hz : (zs.take ys.length).length = ys.length := by rw [List.length_take]; have := H1.out; omega
      have t1 := fun n => quiet_eq (P := Tryz.prog) (n := n) (trim_calls (wr.drewN n) (some ⟨w.heap.size + 1, 0, none⟩) qs L (by omega) (by omega) (hR.2.2.2.2.2.1.ext ((Ext.refl wr).drewN n)).cells hR.2.2.2.2.1)
      have t2 := fun n => quiet_eq (P := Tryz.prog) (n := n) (trim_calls (wr.drewN n) (some ⟨w.heap.size, 0, none⟩) (zs.take ys.length) (xs.length + 1) (by omega) (by omega) ((hR.2.2.1.ext ((Ext.refl wr).drewN n)).cells.take ys.length) (hR.2.1.take _))
      have hf1 := hR.2.2.2.2.2.1.cells.trim hR.2.2.2.2.1
      have hf2 := (hR.2.2.1.cells.take ys.length).trim (hR.2.1.take _)
      have hf3 : (limbs (val qs)).length ≤ L := by rw [← trimN_length hR.2.2.2.2.1]; have := trimN_le qs qs.length; omega
      have hf4 : (limbs (val (zs.take ys.length))).length ≤ xs.length + 1 := by rw [← trimN_length (hR.2.1.take _)]; have := trimN_le (zs.take ys.length) (zs.take ys.length).length; omega
      rw [hq] at t1
      rw [hz] at t2
      rw [← HD.out.1] at t1 hf1 hf3
      rw [← HD.out.2] at t2 hf2 hf4
      have T1 := Lib.hid t1
      have T2 := Lib.hid t2
      have F := Lib.hid (And.intro hf1 (And.intro hf2 (And.intro hf3 hf4)))
      clear hR hq hz t1 t2 hf1 hf2 hf3 hf4
      go_wp2_with fail
      go_quiet ((first | (go_at_call 205; with_reducible exact T1.out _) | (go_at_call 205; with_reducible exact T2.out _)))
      go_wp2
      go_ret2
      exact ⟨_, _, rfl, ⟨_, _, rfl, F.out.2.2.1, by omega, F.out.1.ext ((Ext.refl wr).drewN _)⟩, ⟨_, _, rfl, F.out.2.2.2, by omega, F.out.2.1.ext ((Ext.refl wr).drewN _)⟩, hE.drewN _⟩
    · have HR := Lib.hid hR
      have ek : ((k + 1 : Nat) : Int) - 1 = (k : Int) := by omega
      rw [ek]
      have hk1 : (k : Int) + (ys.length : Int) ≤ (xs.length : Int) := by have := HL.out; omega
      have hk2 : k + ys.length + 1 - k = ys.length + 1 := by omega
      have hkL : k < L := by omega
      have HS := Lib.hid (long_round hR HM.out htop dy (by have := HL.out; omega))
      clear hR ek
      go_upto_region 9 with fail
      have HK := Lib.hid hk2
      clear hk2
      obtain ⟨hps, hest⟩ := HS.out
      have hE := estimate_calls wr w.heap.size k b' off' _ ys (xs.length + 1 - k) cy m HM.out hps (by rw [hps]; have := HL.out; have := HM.out; omega) (by omega) ky by_ ((HR.out.2.2.1.cells.dropAt k).take (ys.length + 1)) ((HR.out.2.1.drop k).take _) (hy.ext HR.out.2.2.2.2.2.2.1) dy hest.1
      rw [← HM.out, show m + 3 = ys.length + 1 by have := HM.out; omega] at hE
      obtain ⟨q, hq⟩ : ∃ q, q = val (((zs.drop k).take (ys.length + 1)).drop m) / val (ys.drop m) := ⟨_, rfl⟩
      rw [← hq] at hE hest
      rw [← HK.out] at hE
      have HE := Lib.hid hE
      have HEst := Lib.hid hest.2
      have hqI : (q : Int) ≤ 1000000000 := by have := hest.2.2.2; omega
      clear hE hest hps HS hq
      go_wp2_with fail
      refine HE.out.mono ?_
      rintro e w1 ⟨rfl, e1⟩
      clear HE
      have hSub := subtractMultiple_calls w w1 w.heap.size zs k (some ⟨b', off', none⟩) ys (xs.length + 1 - k) cy q (Nat.le_refl _) (HR.out.2.2.1.ext e1) HR.out.2.1 (HR.out.2.2.2.2.2.2.1.trans e1) hy dy (by rw [HR.out.1]; have := HL.out; omega) (by rw [HR.out.1]; omega) HEst.out.2.2
      rw [← HK.out] at hSub
      have HSub := Lib.hid hSub
      clear hSub
      go_wp2_with fail
      refine HSub.out.mono ?_
      rintro e w2 ⟨c, ws, rfl, hMS⟩
      clear HSub
      have HMS := Lib.hid hMS
      clear hMS
      rcases (show q = val ((zs.drop k).take (ys.length + 1)) / val ys ∨ q = val ((zs.drop k).take (ys.length + 1)) / val ys + 1 by have := HEst.out; omega) with hex | hex
      · obtain ⟨d1, d2⟩ := long_exact HR.out (by have := HL.out; omega) dy HMS.out hex
        have hst := HR.out.step (Nat.le_refl _) (by have := HL.out; omega) HMS.out.1 HMS.out.2.1 HMS.out.2.2.1 HMS.out.2.2.2.1 ((Only.ext e1).trans HMS.out.2.2.2.2.1) (fun i hi => HMS.out.2.2.2.2.2.1 i (.inl hi)) d2 q hex (V := (q : Int)) rfl
        have HST := Lib.hid hst
        have hbq := HMS.out.2.2.2.2.1 (w.heap.size + 1) qs (by omega) (HR.out.2.2.2.2.2.1.ext e1)
        have hzc := hbq.cell k (by have := HR.out.2.2.2.1; have := HL.out; omega)
        have hzf := hbq.frozen k
        rw [d1]
        clear d1 d2 hex hst hbq
        go_wp2
        go_roundw
        case rel => exact ⟨k, _, _, by omega, by go_num, HST.out⟩
        case measure => simp [intOf]
      · obtain ⟨d1, d2⟩ := long_over HR.out (by have := HL.out; omega) dy HMS.out hex
        have D2 := Lib.hid d2
        have HEX := Lib.hid hex
        rw [d1]
        clear d1 d2 hex
        have hAdd := addBack_calls w w2 w.heap.size ws k (some ⟨b', off', none⟩) ys (xs.length + 1 - k) cy (Nat.le_refl _) HMS.out.2.2.1 HMS.out.2.1 HMS.out.2.2.2.1 hy dy (by have := HMS.out.1; have := HR.out.1; have := HL.out; omega) (by have := HMS.out.1; have := HR.out.1; omega)
        rw [← HK.out] at hAdd
        have HAdd := Lib.hid hAdd
        obtain ⟨q1, hq1⟩ : ∃ q1, q1 = q - 1 := ⟨_, rfl⟩
        have hqn : 1 ≤ q := by rw [HEX.out]; exact Nat.le_add_left 1 _
        have hqq : (1 : Int) ≤ (q : Int) := by omega
        have hq1I : (q : Int) - 1 = (q1 : Int) := by omega
        have HQ1 := Lib.hid (show q1 = val ((zs.drop k).take (ys.length + 1)) / val ys by have := HEX.out; omega)
        have hq1w : (q1 : Int) ≤ 1000000000 := by omega
        clear hAdd hq1
        go_wp2_with fail
        refine HAdd.out.mono ?_
        rintro e w3 ⟨c2, us, rfl, hAB⟩
        have HAB := Lib.hid hAB
        have hst := HR.out.step (Nat.le_refl _) (by have := HL.out; omega) (hAB.1.trans HMS.out.1) hAB.2.1 hAB.2.2.1 hAB.2.2.2.1 (((Only.ext e1).trans HMS.out.2.2.2.2.1).trans hAB.2.2.2.2.1) (fun i hi => (hAB.2.2.2.2.2.1 i (.inl hi)).trans (HMS.out.2.2.2.2.2.1 i (.inl hi))) (D2.out _ _ _ hAB) q1 HQ1.out (V := (q1 : Int)) rfl
        have HST := Lib.hid hst
        have hbq := hAB.2.2.2.2.1 (w.heap.size + 1) qs (by omega) (HMS.out.2.2.2.2.1 (w.heap.size + 1) qs (by omega) (HR.out.2.2.2.2.2.1.ext e1))
        have hzc := hbq.cell k (by have := HR.out.2.2.2.1; have := HL.out; omega)
        have hzf := hbq.frozen k
        clear hAB hst hbq HAdd
        go_wp2
        go_roundw
        case rel => exact ⟨k, _, _, by omega, by go_num, HST.out⟩
        case measure => simp [intOf]

end Go.Proofs.YtifeacfljfmnpaaGreat
end

section
set_option maxRecDepth 100000
namespace Go.Proofs.YtifeacfljfmnpaaGreat
open Go.RowKit
theorem limbs_top {n m : Nat} (h : (limbs n).length = m + 2) : (limbs n).getD (m + 1) 0 ≠ 0 := by
  have := limbs_last n (by intro e; rw [e] at h; simp at h)
  rwa [h, show m + 2 - 1 = m + 1 by omega] at this

set_option maxRecDepth 100000 in
set_option maxHeartbeats 800000 in
theorem divOK_long (m n : Nat) (lx : (limbs m).length ≤ 1048576) (h : 2 < (limbs m).length) (hn : 2 ≤ (limbs n).length) (hmn : (limbs n).length ≤ (limbs m).length) : DivOK m n := by
  intro w ax ay cx cy kx ky bx by_ hx hy
  obtain ⟨k, hk⟩ : ∃ k, (limbs n).length = k + 2 := ⟨(limbs n).length - 2, by omega⟩
  obtain ⟨b, off, rfl, _⟩ := hx.at_ (by omega)
  obtain ⟨b', off', rfl, _⟩ := hy.at_ (by omega)
  have hcall := divideLong_calls w b off b' off' (limbs m) (limbs n) cx cy k hk hmn lx kx bx ky by_ hx (z6q m) hy (z6q n) (limbs_top hk)
  rw [z1q, z1q] at hcall
  have HS := Lib.hid hcall
  have l0 : ¬ ((limbs m).length : Int) < ((limbs n).length : Int) := by omega
  have l1 : decide (((limbs m).length : Int) ≤ 2) = false := decide_eq_false (by omega)
  have l2 : (((limbs n).length : Int) == 1) = false := by rw [beq_eq_false_iff_ne]; omega
  clear hcall hk h hn hmn kx ky bx by_ hx hy lx
  go_enter Tryz.func221, Tryz.ntmps221
  go_wp2_with fail
  refine HS.out.mono ?_
  rintro e w1 ⟨v1, v2, rfl, hv1, hv2, e1⟩
  obtain ⟨a1, c1, rfl, k1, k2, k3⟩ := hv1
  obtain ⟨a2, c2, rfl, j1, j2, j3⟩ := hv2
  go_wp2
  go_ret2
  exact ⟨_, _, rfl, ⟨a1, c1, rfl, k1, k2, k3⟩, ⟨a2, c2, rfl, j1, j2, j3⟩, e1⟩

theorem divOK (m n : Nat) (lx : (limbs m).length ≤ 1048576) (hn : 0 < n) : DivOK m n := by
  have hl := limbs_pos hn
  by_cases h1 : (limbs m).length < (limbs n).length
  · exact divOK_less m n lx h1
  by_cases h2 : (limbs m).length ≤ 2
  · exact divOK_small m n h1 h2 (by omega)
  by_cases h3 : (limbs n).length = 1
  · exact divOK_short m n lx (by omega) h3
  exact divOK_long m n lx (by omega) (by omega) (by omega)

theorem divMod_any (w : World) (v1 v2 : Value) (z1 z2 : Int) (h : IsInt w v1 z1) (k : IsInt w v2 z2) (l1 : Sm z1) (l2 : Sm z2) (hz2 : z2 ≠ 0) :
    Calls Tryz.prog 207 #[v1, v2] w (RetDM z1 z2 w) :=
  divMod_calls w v1 v2 z1 z2 h k l1 l2 hz2 (divOK _ _ l1 (by omega))

end Go.Proofs.YtifeacfljfmnpaaGreat
end

section
set_option maxRecDepth 100000
namespace Go.Proofs.YtifeacfljfmnpaaGreat
open Go.RowKit
def dq (a b : Int) : Int := if b = 0 then 0 else a.fdiv b
def dr (a b : Int) : Int := if b = 0 then 0 else a.fmod b
def de (b : Int) : Int := if b = 0 then 6 else 0
theorem quo_unique {a b q r q' r' : Int} (h : a = q * b + r) (k : a = q' * b + r') (hr : 0 ≤ r ∧ r < b ∨ b < r ∧ r ≤ 0) (kr : 0 ≤ r' ∧ r' < b ∨ b < r' ∧ r' ≤ 0) : q = q' ∧ r = r' := by
  have hq : q = q' := by
    rcases Int.lt_trichotomy q q' with h1 | h1 | h1
    · exfalso
      obtain ⟨n, rfl⟩ : ∃ n : Int, q' = q + 1 + n := ⟨q' - q - 1, by omega⟩
      have hn : 0 ≤ n := by omega
      rw [Int.add_mul, Int.add_mul, Int.one_mul] at k
      rcases hr with hr | hr
      · have := Int.mul_nonneg hn (show 0 ≤ b by omega); omega
      · have := Int.mul_nonpos_of_nonneg_of_nonpos hn (show b ≤ 0 by omega); omega
    · exact h1
    · exfalso
      obtain ⟨n, rfl⟩ : ∃ n : Int, q = q' + 1 + n := ⟨q - q' - 1, by omega⟩
      have hn : 0 ≤ n := by omega
      rw [Int.add_mul, Int.add_mul, Int.one_mul] at h
      rcases hr with hr | hr
      · have := Int.mul_nonneg hn (show 0 ≤ b by omega); omega
      · have := Int.mul_nonpos_of_nonneg_of_nonpos hn (show b ≤ 0 by omega); omega
  subst hq
  exact ⟨rfl, by omega⟩
theorem fmod_range (a : Int) {b : Int} (h : b ≠ 0) : 0 ≤ a.fmod b ∧ a.fmod b < b ∨ b < a.fmod b ∧ a.fmod b ≤ 0 := by
  rcases Int.lt_or_gt_of_ne h with h1 | h1
  · right
    have e := Int.neg_fmod_neg a b
    have h2 := Int.fmod_nonneg_of_pos (-a) (show 0 < -b by omega)
    have h3 := Int.fmod_lt_of_pos (-a) (show 0 < -b by omega)
    omega
  · left
    exact ⟨Int.fmod_nonneg_of_pos a h1, Int.fmod_lt_of_pos a h1⟩
theorem dm_fn {a b q r : Int} (h : DM a b q r) (hb : b ≠ 0) : q = dq a b ∧ r = dr a b := by
  unfold dq dr
  rw [if_neg hb, if_neg hb]
  have e := Int.mul_fdiv_add_fmod a b
  exact quo_unique h.1 (by rw [Int.mul_comm]; omega) h.2.1 (fmod_range a hb)

def RetDMF (a b : Int) (w : World) (e : Ending) (w' : World) : Prop :=
  ∃ v1 v2, e = .returned (.tuple #[v1, v2, .int .i64 (de b)]) ∧ IsInt w' v1 (dq a b) ∧ IsInt w' v2 (dr a b) ∧ Ext w w'
theorem divMod_fn (w : World) (v1 v2 : Value) (a b : Int) (h : IsInt w v1 a) (k : IsInt w v2 b) (l1 : Sm a) (l2 : Sm b) :
    Calls Tryz.prog 207 #[v1, v2] w (RetDMF a b w) := by
  by_cases hb : b = 0
  · subst hb
    refine (divMod_zero w v1 v2 a h k).mono ?_
    rintro e w' ⟨u1, u2, rfl, h1, h2, h3⟩
    exact ⟨u1, u2, rfl, h1, h2, h3⟩
  · refine (divMod_any w v1 v2 a b h k l1 l2 hb).mono ?_
    rintro e w' ⟨u1, u2, q, r, rfl, h1, h2, h3, h4⟩
    obtain ⟨rfl, rfl⟩ := dm_fn h3 hb
    exact ⟨u1, u2, by unfold de; rw [if_neg hb], h1, h2, h4⟩
theorem dq_dr {a b : Int} (hb : b ≠ 0) : dq a b * b + dr a b = a ∧ (0 ≤ dr a b ∧ dr a b < b ∨ b < dr a b ∧ dr a b ≤ 0) := by
  unfold dq dr
  rw [if_neg hb, if_neg hb]
  have e := Int.mul_fdiv_add_fmod a b
  exact ⟨by rw [Int.mul_comm]; exact e, fmod_range a hb⟩
theorem sgn_self (a : Int) : sgn (decide (a < 0)) a.natAbs = a := by
  by_cases h : a < 0
  · rw [decide_eq_true h]; simp [sgn]; omega
  · rw [decide_eq_false h]; simp [sgn]; omega
theorem dm_exists (a : Int) {b : Int} (hb : b ≠ 0) : ∃ q r, DM a b q r := by
  have ha := sgn_self a
  have hb' := sgn_self b
  by_cases h : decide (a < 0) = decide (b < 0) ∨ a.natAbs % b.natAbs = 0
  · have := dm_same (decide (a < 0)) (decide (b < 0)) a.natAbs b.natAbs (by omega) h
    rw [ha, hb'] at this
    exact ⟨_, _, this⟩
  · have := dm_other (decide (a < 0)) (decide (b < 0)) a.natAbs b.natAbs (by omega) (fun e => h (.inl e)) (fun e => h (.inr e))
    rw [ha, hb'] at this
    exact ⟨_, _, this⟩
theorem dq_abs (a b : Int) : (dq a b).natAbs ≤ a.natAbs := by
  by_cases hb : b = 0
  · unfold dq; rw [if_pos hb]; simp
  · obtain ⟨q, r, h⟩ := dm_exists a hb
    rw [← (dm_fn h hb).1]
    exact h.2.2.1
theorem dr_abs (a : Int) {b : Int} (hb : b ≠ 0) : (dr a b).natAbs < b.natAbs := by
  obtain ⟨q, r, h⟩ := dm_exists a hb
  rw [← (dm_fn h hb).2]
  exact h.2.2.2

end Go.Proofs.YtifeacfljfmnpaaGreat
end

section
set_option maxRecDepth 100000
namespace Go.Proofs.YtifeacfljfmnpaaGreat
def IsSq (n r : Nat) : Prop := r * r ≤ n ∧ n < (r + 1) * (r + 1)
theorem IsSq.unique {n r s : Nat} (h : IsSq n r) (k : IsSq n s) : r = s := by
  obtain ⟨h1, h2⟩ := h
  obtain ⟨k1, k2⟩ := k
  rcases Nat.lt_trichotomy r s with hlt | he | hlt
  · have := Nat.mul_le_mul (show r + 1 ≤ s from hlt) (show r + 1 ≤ s from hlt)
    omega
  · exact he
  · have := Nat.mul_le_mul (show s + 1 ≤ r from hlt) (show s + 1 ≤ r from hlt)
    omega
theorem sq_mono {a b : Nat} (h : a ≤ b) : a * a ≤ b * b := Nat.mul_le_mul h h
theorem newton_stop {n r : Nat} (hr : 0 < r) (hu : n < (r + 1) * (r + 1)) (h : r ≤ (r + n / r) / 2) : IsSq n r := by
  refine ⟨?_, hu⟩
  have h2 : r ≤ n / r := by omega
  rwa [Nat.le_div_iff_mul_le hr] at h2
theorem newton_next {n r : Nat} (hr : 0 < r) : n < ((r + n / r) / 2 + 1) * ((r + n / r) / 2 + 1) := by
  have h1 := Nat.div_add_mod n r
  have h2 := Nat.mod_lt n hr
  generalize n / r = t at *
  obtain ⟨m, hm⟩ : ∃ m, m = (r + t) / 2 + 1 := ⟨_, rfl⟩
  rw [← hm]
  have h3 : r + (t + 1) ≤ 2 * m := by omega
  have h4 : n < r * (t + 1) := by rw [Nat.mul_add]; omega
  have h5 : 4 * (r * (t + 1)) ≤ (r + (t + 1)) * (r + (t + 1)) := by
    generalize t + 1 = s
    rcases Nat.le_total r s with hle | hle
    · obtain ⟨k, rfl⟩ : ∃ k, s = r + k := ⟨s - r, by omega⟩
      simp only [Nat.mul_add, Nat.add_mul, Nat.mul_comm k r]
      have := Nat.zero_le (k * k)
      omega
    · obtain ⟨k, rfl⟩ : ∃ k, r = s + k := ⟨r - s, by omega⟩
      simp only [Nat.mul_add, Nat.add_mul, Nat.mul_comm k s]
      have := Nat.zero_le (k * k)
      omega
  have h6 := sq_mono h3
  have h7 : 2 * m * (2 * m) = 4 * (m * m) := by rw [Nat.mul_mul_mul_comm]
  omega
theorem newton_pos {n r : Nat} (hr : 0 < r) (hn : 0 < n) : 0 < (r + n / r) / 2 := by
  rcases Nat.lt_or_ge 1 r with h | h
  · have : 0 ≤ n / r := Nat.zero_le _
    omega
  · obtain rfl : r = 1 := by omega
    rw [Nat.div_one]; omega
theorem newton_quo {n r : Nat} (hr : 0 < r) (hu : n < (r + 1) * (r + 1)) : n / r ≤ r + 2 := by
  have : n / r < r + 3 := by
    rw [Nat.div_lt_iff_lt_mul hr]
    have e : (r + 1) * (r + 1) = r * r + 2 * r + 1 := by rw [Nat.add_mul, Nat.mul_add]; omega
    have e2 : (r + 3) * r = r * r + 3 * r := Nat.add_mul r 3 r
    omega
  omega
theorem first_root {top low r p : Nat} (hp : low < p * p) (hr : IsSq top r) : top * (p * p) + low < (p * (r + 1)) * (p * (r + 1)) := by
  have h := hr.2
  have h1 : (top + 1) * (p * p) ≤ (r + 1) * (r + 1) * (p * p) := Nat.mul_le_mul_right _ h
  rw [Nat.add_mul] at h1
  have h2 : (p * (r + 1)) * (p * (r + 1)) = (r + 1) * (r + 1) * (p * p) := by
    rw [Nat.mul_mul_mul_comm, Nat.mul_comm]
  omega
theorem lt_next_sq {n r : Nat} (h : n < r * r) : n < (r + 1) * (r + 1) := Nat.lt_of_lt_of_le h (sq_mono (Nat.le_succ r))

end Go.Proofs.YtifeacfljfmnpaaGreat
end

section
set_option maxRecDepth 100000
namespace Go.Proofs.YtifeacfljfmnpaaGreat
open Go.RowKit
theorem len_sum {a b k : Nat} (ha : (limbs a).length ≤ k) (hb : (limbs b).length ≤ k) : (limbs (a + b)).length ≤ k + 1 := by
  have h1 := z4q ha
  have h2 := z4q hb
  refine limbs_len_le ?_
  rw [Nat.pow_succ]
  omega
theorem limbs_of_one : limbs 1 = [1] := rfl

set_option maxRecDepth 100000 in
set_option maxHeartbeats 1600000 in
theorem newton_calls (w : World) (ax ar : Option Addr) (m r cx cr : Nat) (lx : (limbs m).length ≤ 1048575) (lr : (limbs r).length ≤ 1048575) (hr : 0 < r) (kx : (limbs m).length ≤ cx) (kr : (limbs r).length ≤ cr) (bx : cx ≤ 9223372036854775807) (br : cr ≤ 9223372036854775807)
    (hx : Cells w ax (limbs m)) (hy : Cells w ar (limbs r)) :
    Calls Tryz.prog 263 #[.slice ax (limbs m).length cx, .slice ar (limbs r).length cr] w (Ret (IsLimbs ((r + m / r) / 2)) w) := by
  have HD := Lib.hid (divOK m r (by omega) hr w ax ar cx cr kx kr bx br hx hy)
  have HY := Lib.hid hy
  have hq : (limbs (m / r)).length ≤ 1048575 := Nat.le_trans (z12q (Nat.div_le_self m r)) lx
  have hs : 0 < r + m / r := Nat.add_pos_left hr _
  have hsl : (limbs (r + m / r)).length ≤ 1048575 + 1 := len_sum lr hq
  have HB := Lib.hid (And.intro lr (And.intro hq (And.intro hs hsl)))
  clear lx lr hr kx kr bx br hx hy hq hs hsl
  go_enter Tryz.func263, Tryz.ntmps263
  go_wp2_with fail
  refine HD.out.mono ?_
  rintro e w1 ⟨v1, v2, rfl, ⟨a1, c1, rfl, p1, p2, p3⟩, _, e1⟩
  have HA := Lib.hid (addLimbs_calls w1 ar a1 (limbs r) (limbs (m / r)) cr c1 (Nat.le_trans HB.out.1 (by omega)) (Nat.le_trans HB.out.2.1 (by omega)) (HY.out.ext e1) p3 (z6q _) (z6q _))
  rw [z1q, z1q] at HA
  go_wp2_with fail
  refine HA.out.mono ?_
  rintro e w2 ⟨v2, rfl, ⟨a2, c2, rfl, q1, q2, q3⟩, e2⟩
  have hl0 := limbs_pos HB.out.2.2.1
  have HS := Lib.hid (divideShort_calls w2 a2 (limbs (r + m / r)) c2 2 (Nat.le_trans HB.out.2.2.2 (by omega)) hl0 q3 (z6q _) (by omega) (by omega))
  rw [z1q] at HS
  clear hl0
  go_wp2_with fail
  refine HS.out.mono ?_
  rintro e w3 ⟨v3, v4, rfl, ⟨a3, c3, rfl, r1, r2, r3⟩, rfl, e3⟩
  go_wp2
  go_ret
  exact ⟨_, rfl, ⟨_, _, rfl, r1, r2, r3⟩, (e1.trans e2).trans e3⟩

end Go.Proofs.YtifeacfljfmnpaaGreat
end

section
set_option maxRecDepth 100000
namespace Go.Proofs.YtifeacfljfmnpaaGreat
open Go.RowKit
theorem len_two {n hi lo L : Nat} (h1 : hi = n / 18446744073709551616) (h2 : lo = n % 18446744073709551616) (h0 : 0 < n) (hn : n < 2 ^ 120) (hL : L = if hi = 0 then Lib.bitLen lo else 64 + Lib.bitLen hi) : n < 2 ^ L ∧ L ≤ 120 := by
  have key : n < 2 ^ L ∧ 2 ^ (L - 1) ≤ n := by
    by_cases hz : hi = 0
    · rw [if_pos hz] at hL
      have e : n = lo := by omega
      obtain ⟨b1, b2, b3⟩ := bitLen_bounds lo (by omega)
      rw [hL, e]
      exact ⟨b1, (b3 (by omega)).2⟩
    · rw [if_neg hz] at hL
      have hb : hi < 18446744073709551616 := by
        have : (2 : Nat) ^ 120 = 1329227995784915872903807060280344576 := by decide
        omega
      obtain ⟨b1, b2, b3⟩ := bitLen_bounds hi hb
      obtain ⟨b4, b5⟩ := b3 (by omega)
      have e1 : 2 ^ L = 18446744073709551616 * 2 ^ Lib.bitLen hi := by rw [hL, Nat.pow_add]
      have e2 : 2 ^ (L - 1) = 18446744073709551616 * 2 ^ (Lib.bitLen hi - 1) := by rw [hL, show 64 + Lib.bitLen hi - 1 = 64 + (Lib.bitLen hi - 1) by omega, Nat.pow_add]
      rw [e1, e2]
      generalize 2 ^ Lib.bitLen hi = A at *
      generalize 2 ^ (Lib.bitLen hi - 1) = B at *
      omega
  refine ⟨key.1, ?_⟩
  rcases Nat.lt_or_ge 120 L with h | h
  · have := Nat.pow_le_pow_right (n := 2) (by omega) (show 120 ≤ L - 1 by omega)
    omega
  · exact h
theorem first_pow {n L k : Nat} (h : n < 2 ^ L) (hL : L ≤ 120) (hk : k = (L + 1) / 2) : n < 2 ^ k * 2 ^ k ∧ k ≤ 60 ∧ 0 < 2 ^ k ∧ 2 ^ k ≤ 1152921504606846976 := by
  have hk2 : k ≤ 60 := by omega
  refine ⟨?_, hk2, Nat.pow_pos (by omega), ?_⟩
  · rw [← Nat.pow_add]
    exact Nat.lt_of_lt_of_le h (Nat.pow_le_pow_right (by omega) (by omega))
  · have := Nat.pow_le_pow_right (n := 2) (by omega) hk2
    have e : (2 : Nat) ^ 60 = 1152921504606846976 := by decide
    omega
theorem root_step {n r : Nat} (hn : n < 2 ^ 120) (h0 : 0 < n) (hr : 0 < r) (hu : n < (r + 1) * (r + 1)) (hm : r ≤ 1152921504606846976) : n / 18446744073709551616 < r ∧ n / r ≤ r + 2 := by
  refine ⟨?_, newton_quo hr hu⟩
  have e : (2 : Nat) ^ 120 = 18446744073709551616 * 72057594037927936 := by decide
  rcases Nat.lt_or_ge (n / 18446744073709551616) r with h | h
  · exact h
  · exfalso
    have h1 : n / 18446744073709551616 < 72057594037927936 := by omega
    have h2 : r + 1 ≤ 72057594037927936 := by omega
    have h3 : (r + 1) * (r + 1) ≤ 72057594037927936 * (r + 1) := Nat.mul_le_mul_right _ h2
    omega

set_option maxRecDepth 100000 in
set_option maxHeartbeats 800000 in
theorem sqrtSmall_calls (w : World) (n hi lo r : Nat) (h1 : hi = n / 18446744073709551616) (h2 : lo = n % 18446744073709551616) (hn : n < 2 ^ 120) (hr : IsSq n r) :
    Calls Tryz.prog 261 #[.int .u64 (hi : Int), .int .u64 (lo : Int)] w fun e w' => e = .returned (.int .u64 (r : Int)) ∧ Ext w w' := by
  rcases Nat.eq_zero_or_pos n with h0 | h0
  · subst h0
    obtain rfl : hi = 0 := by omega
    obtain rfl : lo = 0 := by omega
    obtain rfl : r = 0 := by
      have := hr.1
      rcases Nat.eq_zero_or_pos r with h | h
      · exact h
      · have := Nat.mul_pos h h; omega
    clear h1 h2 hn hr
    go_enter Tryz.func261, Tryz.ntmps261
    go_wp2
    go_ret
    exact ⟨ret_int rfl, Ext.refl w⟩
  · obtain ⟨L, hL⟩ : ∃ L, L = if hi = 0 then Lib.bitLen lo else 64 + Lib.bitLen hi := ⟨_, rfl⟩
    have HLL := len_two h1 h2 h0 hn hL
    have HL := Lib.hid HLL
    have HH := Lib.hid (And.intro h1 (And.intro h2 (And.intro h0 (And.intro hn hr))))
    have hlo : lo < 18446744073709551616 := by omega
    have hhi : hi < 18446744073709551616 := by
      have : (2 : Nat) ^ 120 = 1329227995784915872903807060280344576 := by decide
      omega
    have hguard : hi = 0 → ((lo : Int) == 0) = false := by intro h; rw [beq_eq_false_iff_ne]; omega
    have HGd := Lib.hid hguard
    have HLo := Lib.hid (len64_calls w lo _ hlo rfl)
    have HHi := Lib.hid (len64_calls w hi _ hhi rfl)
    have HLe := Lib.hid hL
    clear h1 h2 h0 hn hr hlo hhi hguard hL HLL
    go_enter Tryz.func261, Tryz.ntmps261
    go_upto_region 1 with fail
    go_cut [15] (fun p wx => p = .bool false ∧ w = wx)
    case first =>
      by_cases hz : hi = 0
      · have hg := HGd.out hz
        subst hz
        go_wp2_with fail
        go_meet
        exact ⟨rfl, rfl⟩
      · have hg : ((hi : Int) == 0) = false := by rw [beq_eq_false_iff_ne]; omega
        go_wp2_with fail
        go_meet
        exact ⟨rfl, rfl⟩
    case rest =>
      obtain ⟨rfl, rfl⟩ := hcut
      go_wp2_with fail
      refine HLo.out.mono ?_
      rintro e w1 ⟨rfl, rfl⟩
      go_upto_if 19 with fail
      go_cut [5] (fun p wx => p = .int .i64 (L : Int) ∧ w = wx)
      case first =>
        by_cases hz : hi = 0
        · have hLz := Lib.hid (show L = Lib.bitLen lo by rw [HLe.out, if_pos hz])
          subst hz
          go_wp2_with fail
          go_meet
          exact ⟨by rw [hLz.out], rfl⟩
        · have hLz := Lib.hid (show L = 64 + Lib.bitLen hi by rw [HLe.out, if_neg hz])
          have hg : ((hi : Int) == 0) = false := by rw [beq_eq_false_iff_ne]; omega
          have hg2 : ((hi : Int) != 0) = true := by rw [bne_iff_ne]; omega
          have hLI : (64 : Int) + (Lib.bitLen hi : Int) = (L : Int) := by rw [hLz.out]; omega
          have hLb : L ≤ 120 := HL.out.2
          go_wp2_with fail
          refine HHi.out.mono ?_
          rintro e w1 ⟨rfl, rfl⟩
          go_wp2_with fail
          go_meet
          exact ⟨rfl, rfl⟩
      case rest =>
        obtain ⟨rfl, rfl⟩ := hcut
        have hLb : L ≤ 120 := HL.out.2
        obtain ⟨k, hk⟩ : ∃ k, k = (L + 1) / 2 := ⟨_, rfl⟩
        have hkI : ((L : Int) + 1).tdiv 2 = (k : Int) := by rw [Int.tdiv_eq_ediv_of_nonneg (by omega)]; omega
        have HK := Lib.hid (first_pow HL.out.1 HL.out.2 hk)
        have hk60 := HK.out.2.1
        clear hk
        have hpw : IntKind.u64.wrap ((2 : Int) ^ k) = ((2 ^ k : Nat) : Int) := by
          have e : ((2 : Int) ^ k) = ((2 ^ k : Nat) : Int) := by rw [Int.natCast_pow]; rfl
          rw [e, IntKind.wrap_u64]
          have hP := HK.out.2.2.2
          have hP2 := HK.out.2.2.1
          generalize 2 ^ k = P at hP hP2 ⊢
          omega
        go_wp2_with fail
        have HK2 := Lib.hid HK.out.2.2
        obtain ⟨p0, hp0⟩ : ∃ p0, p0 = 2 ^ k := ⟨_, rfl⟩
        have hpI : (2 : Int) ^ k = (p0 : Int) := by rw [hp0, Int.natCast_pow]; rfl
        rw [← hp0] at HK2
        rw [hpI]
        have HN : Hid (n < p0 * p0) := by rw [hp0]; exact HK.out.1
        clear hp0 hpI hpw HK hkI hk60 hLb HL HGd HLo HHi HLe
        go_loopw [6] (fun x wr => ∃ q : Nat, x = .int .u64 q ∧ Hid (0 < q ∧ n < (q + 1) * (q + 1) ∧ q ≤ 1152921504606846976) ∧ Ext w wr) (fun x _ => (intOf x).toNat)
        case atStart => exact ⟨p0, rfl, ⟨HK2.out.1, lt_next_sq HN.out, HK2.out.2⟩, Ext.refl w⟩
        case round =>
          obtain ⟨q, rfl, HQ, hE⟩ := hrel
          have hst := root_step HH.out.2.2.2.1 HH.out.2.2.1 HQ.out.1 HQ.out.2.1 HQ.out.2.2
          have hdv := div64_any wr hi lo q (by rw [HH.out.1]; exact hst.1) (by have := HH.out.2.1; omega) (by have := HQ.out.2.2; omega)
          have hval : hi * 18446744073709551616 + lo = n := by have := HH.out.1; have := HH.out.2.1; omega
          rw [hval] at hdv
          obtain ⟨t, ht⟩ : ∃ t, t = n / q := ⟨_, rfl⟩
          rw [← ht] at hdv hst
          obtain ⟨u, hu⟩ : ∃ u, u = n % q := ⟨_, rfl⟩
          rw [← hu] at hdv
          have HDV := Lib.hid hdv
          obtain ⟨m, hm⟩ : ∃ m, m = (q + t) / 2 := ⟨_, rfl⟩
          have hmI : ((q : Int) + (t : Int)).tdiv 2 = (m : Int) := by rw [Int.tdiv_eq_ediv_of_nonneg (by omega)]; omega
          have HM := Lib.hid (And.intro hm ht)
          have hs : (q : Int) + (t : Int) ≤ 3000000000000000000 := by have := HQ.out.2.2; have := hst.2; omega
          clear hdv hval ht hu hm
          have hmb : m ≤ 3000000000000000000 := by have := HM.out.1; omega
          by_cases hge : q ≤ m
          · have hgeI : (q : Int) ≤ (m : Int) := by omega
            have HR : Hid (q = r) := by
              have := newton_stop (n := n) HQ.out.1 HQ.out.2.1 (by rw [← HM.out.2, ← HM.out.1]; exact hge)
              exact this.unique HH.out.2.2.2.2
            clear hge hst
            go_wp2_with fail
            refine HDV.out.mono ?_
            rintro e w1 ⟨rfl, e1⟩
            go_wp2_with fail
            go_ret
            exact ⟨ret_int (by rw [HR.out]), hE.trans e1⟩
          · have hgeI : ¬ (q : Int) ≤ (m : Int) := by omega
            have HX := Lib.hid hge
            clear hge hst
            go_wp2_with fail
            refine HDV.out.mono ?_
            rintro e w1 ⟨rfl, e1⟩
            go_wp2_with fail
            go_roundw
            case rel => exact ⟨m, rfl, ⟨by rw [HM.out.1, HM.out.2]; exact newton_pos HQ.out.1 HH.out.2.2.1, by rw [HM.out.1, HM.out.2]; exact newton_next HQ.out.1, by have := HX.out; have := HQ.out.2.2; omega⟩, hE.trans e1⟩
            case measure => have := HX.out; simp [intOf]; omega

end Go.Proofs.YtifeacfljfmnpaaGreat
end

section
set_option maxRecDepth 100000
namespace Go.Proofs.YtifeacfljfmnpaaGreat
open Go.RowKit
theorem limbs_shift (d n : Nat) (hn : 0 < n) : limbs (1000000000 ^ d * n) = List.replicate d 0 ++ limbs n := by
  have hne : limbs n ≠ [] := by intro h; have := limbs_pos hn; rw [h] at this; simp at this
  have h1 : val (List.replicate d 0 ++ limbs n) = 1000000000 ^ d * n := by
    rw [val_append, z1q, List.length_replicate]
    have : val (List.replicate d 0) = 0 := by
      induction d with
      | zero => rfl
      | succ d ih => rw [List.replicate_succ]; simp [val, ih]
    omega
  rw [← h1]
  refine limbs_val ((Dig.replicate d).append (z6q n)) (fun _ => ?_)
  have hp := limbs_pos hn
  have hl := limbs_last n hne
  rw [List.length_append, List.length_replicate, List.getD_eq_getElem?_getD, List.getElem?_append_right (by rw [List.length_replicate]; omega), List.length_replicate, show d + (limbs n).length - 1 - d = (limbs n).length - 1 by omega, ← List.getD_eq_getElem?_getD]
  exact hl
theorem limbs_div (m k : Nat) (hk : k ≤ (limbs m).length) : limbs (m / 1000000000 ^ k) = (limbs m).drop k := by
  have h1 := val_split (limbs m) k hk
  have h2 := val_lt ((z6q m).take k)
  rw [List.length_take, Nat.min_eq_left hk] at h2
  rw [z1q] at h1
  have h3 : m / 1000000000 ^ k = val ((limbs m).drop k) := by
    generalize val ((limbs m).take k) = A at h1 h2
    generalize val ((limbs m).drop k) = D at h1 ⊢
    rw [h1, Nat.add_mul_div_left _ _ (Nat.pow_pos (by omega)), Nat.div_eq_of_lt h2, Nat.zero_add]
  rw [h3]
  refine limbs_val ((z6q m).drop k) (fun hne => ?_)
  rw [List.length_drop]
  have hlt : k < (limbs m).length := by
    rcases Nat.lt_or_ge k (limbs m).length with h | h
    · exact h
    · exact absurd (List.drop_of_length_le h) hne
  rw [List.getD_eq_getElem?_getD, List.getElem?_drop, show k + ((limbs m).length - k - 1) = (limbs m).length - 1 by omega, ← List.getD_eq_getElem?_getD]
  exact limbs_last m (by intro h; rw [h] at hlt; simp at hlt)
theorem isSq_exists (n : Nat) : ∃ r, IsSq n r := by
  induction n with
  | zero => exact ⟨0, by decide, by decide⟩
  | succ n ih =>
    obtain ⟨r, h1, h2⟩ := ih
    rcases Nat.lt_or_ge (n + 1) ((r + 1) * (r + 1)) with h | h
    · exact ⟨r, by omega, h⟩
    · refine ⟨r + 1, h, ?_⟩
      have : (r + 1) * (r + 1) < (r + 1 + 1) * (r + 1 + 1) := Nat.mul_lt_mul'' (by omega) (by omega)
      omega
theorem isSq_le {n r : Nat} (h : IsSq n r) : r ≤ n := by
  have h1 := h.1
  rcases Nat.eq_zero_or_pos r with h0 | h0
  · omega
  · have := Nat.mul_le_mul_left r h0; omega

theorem run_append_onto (w : World) (ty : TypeId) (zs : List Nat) (lz : zs.length ≤ 1099511627776) (hz : 0 < zs.length) (ao : Option Addr) (xs : List Nat) (c : Nat) (lx : xs.length ≤ 1099511627776) (h : Cells w ao xs) :
    ∃ ao' cap w1, (Builtin.append_ #[22, 22] ty #[.slice (some ⟨w.heap.size, 0, none⟩) zs.length zs.length, .slice ao xs.length c]).run Tryz.prog (w.alloc (.cells (u32s zs) 149)) = .ok (.slice ao' (zs.length + xs.length) cap) w1 ∧
      zs.length + xs.length ≤ cap ∧ cap ≤ 9223372036854775807 ∧ Ext w w1 ∧ Cells w1 ao' (zs ++ xs) := by
  obtain ⟨i0, hi, hz0, hz1, hz2⟩ := info_parts info_u32
  have hown : (w.alloc (.cells (u32s zs) 149)).ownsRow w.heap.size 149 1 (.slice (some ⟨w.heap.size, 0, none⟩) zs.length zs.length) zs.length (zs.map fun x => Value.int .u32 ((x : Nat) : Int)) :=
    ⟨by simp, .inr ⟨w.heap.size, zs.length, u32s zs, rfl, Nat.le_refl _, heap_alloc_new w _, Nat.le_refl _, by unfold maxLen; omega, by simp [u32s], by rw [Nat.mul_one]; simp only [u32s]; exact List.take_of_length_le (by simp)⟩⟩
  have hfin : ∀ (w1 : World) (v' : Value), Ext w w1 → w1.ownsRow w.heap.size 149 1 v' (zs ++ xs).length ((zs ++ xs).map fun x => Value.int .u32 ((x : Nat) : Int)) →
      ∃ ao' cap, v' = .slice ao' (zs.length + xs.length) cap ∧ zs.length + xs.length ≤ cap ∧ cap ≤ 9223372036854775807 ∧ Ext w w1 ∧ Cells w1 ao' (zs ++ xs) := by
    intro w1 v' hE hown2
    rcases hown2.2 with ⟨rfl, h0⟩ | ⟨g, cap, cur, rfl, hg, _, hnc, hcm, _, _⟩
    · exfalso
      rw [List.length_append] at h0
      omega
    · rw [List.length_append] at hnc
      exact ⟨_, cap, by rw [List.length_append], hnc, by unfold maxLen at hcm; omega, hE, (Blk.of_owns hown2).cells⟩
  rcases ao with _ | a
  · obtain rfl : xs = [] := by
      rcases h with h | ⟨b, off, hh, _⟩
      · exact h
      · cases hh
    obtain ⟨ao', cap, hv, k1, k2, k3, k4⟩ := hfin _ _ ((Ext.refl w).alloc _) (by simpa using hown)
    injection hv with hv1 hv2 hv3
    subst hv1 hv3
    exact ⟨_, _, _, run_append_nil (P := Tryz.prog) w.heap.size 22 ty 149 i0 1 Tryz.underlying22 hi _ _ _ hown c, k1, k2, k3, k4⟩
  · have hnews : ∀ j u, (xs.map fun x => Value.int .u32 ((x : Nat) : Int))[j]? = some u → (w.alloc (.cells (u32s zs) 149)).cell? (a.add j) = some u := by
      intro j u hu
      refine ((Ext.refl w).alloc _).cell ?_
      rcases h with h | ⟨b, off, hh, hx⟩
      · subst h; simp at hu
      · injection hh with hh
        subst hh
        rw [List.getElem?_map] at hu
        obtain ⟨x, hx1, rfl⟩ := Option.map_eq_some_iff.1 hu
        have hj : j < xs.length := (List.getElem?_eq_some_iff.1 hx1).1
        have := hx j hj
        rw [List.getD_eq_getElem?_getD, hx1] at this
        by_cases h0 : j = 0
        · subst h0; simpa [Addr.add] using this
        · simpa [Addr.add, h0] using this
    obtain ⟨v', w1, hrun, hown1, hgrow, hnil⟩ := run_append_own (P := Tryz.prog) (w.alloc (.cells (u32s zs) 149)) w.heap.size 22 ty 149 i0 (.int .u32 0) 1 4 Tryz.underlying22 hi hz0 hz1 hz2 rfl (by decide) _ _ _ hown a xs.length c (xs.map fun x => Value.int .u32 ((x : Nat) : Int)) (by simp) hnews
      (by intro u hu; obtain ⟨x, _, rfl⟩ := List.mem_map.1 hu; rfl) (by unfold maxLen; omega) (by omega) (by simp)
    have hE : Ext w w1 := Below.grown ((Ext.refl w).alloc _) hgrow (by simp) (fun k hk => by simp [Value.ownBlock] at hk; omega)
    obtain ⟨ao', cap, rfl, k1, k2, k3, k4⟩ := hfin w1 v' hE (by rw [List.map_append, List.length_append]; exact hown1)
    exact ⟨_, _, _, hrun, k1, k2, k3, k4⟩

set_option maxHeartbeats 400000 in
theorem split_short (w : World) (ao : Option Addr) (xs : List Nat) (cap : Nat) (hc : xs.length ≤ cap) (hm : cap ≤ 9223372036854775807) (h : Cells w ao xs) (dx : Dig xs) (h2 : xs.length ≤ 2) :
    Calls Tryz.prog 262 #[.slice ao xs.length cap] w fun e w' =>
      e = .returned (.tuple #[.int .u64 ((val xs / 18446744073709551616 : Nat) : Int), .int .u64 ((val xs % 18446744073709551616 : Nat) : Int)]) ∧ w = w' := by
  have hb := val_lt dx
  have hb2 : val xs < 1000000000000000000 := Nat.lt_of_lt_of_le hb (Nat.pow_le_pow_right (by omega) h2)
  have hv := valueOf_calls w ao xs cap hc hm h (by omega)
  have HV := Lib.hid hv
  have hl : (xs.length : Int) ≤ 2 := by omega
  have e1 : val xs / 18446744073709551616 = 0 := by omega
  have e2 : val xs % 18446744073709551616 = val xs := by omega
  rw [e1, e2]
  clear hv hb hb2 e1 e2 hc hm h dx h2
  go_enter Tryz.func262, Tryz.ntmps262
  go_wp2_with fail
  refine HV.out.mono ?_
  rintro e w' ⟨rfl, rfl⟩
  go_wp2
  go_ret2
  exact ⟨rfl, rfl⟩
theorem split_any (w : World) (ao : Option Addr) (n : Nat) (cap : Nat) (hc : (limbs n).length ≤ cap) (hm : cap ≤ 9223372036854775807) (h : Cells w ao (limbs n)) (h4 : (limbs n).length ≤ 4) :
    Calls Tryz.prog 262 #[.slice ao (limbs n).length cap] w fun e w' =>
      e = .returned (.tuple #[.int .u64 ((n / 18446744073709551616 : Nat) : Int), .int .u64 ((n % 18446744073709551616 : Nat) : Int)]) ∧ w = w' := by
  by_cases h2 : (limbs n).length ≤ 2
  · have := split_short w ao (limbs n) cap hc hm h (z6q n) h2
    rwa [z1q] at this
  · obtain ⟨b, off, rfl, _⟩ := h.at_ (by omega)
    have := split_calls w b off (limbs n) cap hc hm h (z6q n) (by omega) h4
    rwa [z1q] at this

def SqL (m : Nat) (v : Value) (w : World) : Prop := ∃ r, IsSq m r ∧ IsLimbs r v w

set_option maxRecDepth 100000 in
set_option maxHeartbeats 800000 in
theorem sqrtLimbs_small (w : World) (ao : Option Addr) (m cap : Nat) (h1 : (limbs m).length ≤ cap) (h2 : cap ≤ 9223372036854775807) (h3 : Cells w ao (limbs m)) (h4 : (limbs m).length ≤ 4) :
    Calls Tryz.prog 252 #[.slice ao (limbs m).length cap] w (Ret (SqL m) w) := by
  obtain ⟨r, hr⟩ := isSq_exists m
  have hm : m < 2 ^ 120 := Nat.lt_of_lt_of_le (z4q h4) (by decide)
  have HV := Lib.hid (split_any w ao m cap h1 h2 h3 h4)
  have HS := Lib.hid (fun w => sqrtSmall_calls w m _ _ r rfl rfl hm hr)
  have hrb : r ≤ 18446744073709551615 := by
    rcases Nat.lt_or_ge r 18446744073709551616 with h | h
    · omega
    · have := sq_mono h
      have e : (2 : Nat) ^ 120 = 1329227995784915872903807060280344576 := by decide
      have := hr.1
      omega
  have HB := Lib.hid (And.intro hr hrb)
  have hl : ((limbs m).length : Int) ≤ 4 := by omega
  generalize m / 18446744073709551616 = hi at *
  generalize m % 18446744073709551616 = lo at *
  clear h1 h3 h4 hr hm hrb
  go_enter Tryz.func252, Tryz.ntmps252
  go_wp2_with fail
  refine HV.out.mono ?_
  rintro e w' ⟨rfl, rfl⟩
  go_wp2_with fail
  refine (HS.out _).mono ?_
  rintro e w1 ⟨rfl, e1⟩
  go_wp2_with fail
  refine (limbsOf_calls _ r HB.out.2).mono ?_
  rintro e w2 ⟨v, rfl, ⟨ao2, cap2, rfl, k1, k2, k3⟩, e2⟩
  go_wp2
  go_ret
  exact ⟨_, rfl, ⟨r, HB.out.1, _, _, rfl, k1, k2, k3⟩, e1.trans e2⟩

end Go.Proofs.YtifeacfljfmnpaaGreat
end

section
set_option maxRecDepth 100000
namespace Go.Proofs.YtifeacfljfmnpaaGreat
open Go.RowKit
theorem first_limbs {m d r : Nat} (hd : 0 < d) (h2 : 2 * d + 1 ≤ (limbs m).length) (hr : IsSq (m / 1000000000 ^ (2 * d)) r) :
    m < (1000000000 ^ d * (r + 1) + 1) * (1000000000 ^ d * (r + 1) + 1) ∧ 0 < 1000000000 ^ d * (r + 1) ∧ (limbs (1000000000 ^ d * (r + 1))).length ≤ (limbs m).length ∧ (limbs (r + 1)).length + d ≤ (limbs m).length := by
  have hP : 0 < 1000000000 ^ d := Nat.pow_pos (by omega)
  have e : 1000000000 ^ (2 * d) = 1000000000 ^ d * 1000000000 ^ d := by rw [← Nat.pow_add]; congr 1; omega
  have hl : (limbs (r + 1)).length + d ≤ (limbs m).length := by
    have h1 : (limbs r).length ≤ (limbs m).length - 2 * d := by
      have := z12q (isSq_le hr)
      rw [limbs_div m (2 * d) (by omega), List.length_drop] at this
      exact this
    have h3 := z4q h1
    have h4 : (limbs (r + 1)).length ≤ (limbs m).length - 2 * d + 1 := by
      refine limbs_len_le ?_
      rw [Nat.pow_succ]
      have : 0 < 1000000000 ^ ((limbs m).length - 2 * d) := Nat.pow_pos (by omega)
      omega
    omega
  refine ⟨?_, Nat.mul_pos hP (by omega), ?_, hl⟩
  · refine lt_next_sq ?_
    have h1 := Nat.div_add_mod m (1000000000 ^ (2 * d))
    have h2 := Nat.mod_lt m (show 0 < 1000000000 ^ (2 * d) from Nat.pow_pos (by omega))
    rw [e] at h1 h2 hr
    have := first_root h2 hr
    rw [Nat.mul_comm (m / _)] at this
    omega
  · rw [limbs_shift d (r + 1) (by omega), List.length_append, List.length_replicate]
    omega

theorem wpList_append_run' {P : Program} {w : World} {ops : Array Oper} {rest : List Oper} {o : Oper} {a : Act} {Q : Exit → Act → World → Prop} (hgd : o.guard = none) (s x : Operand) (t : TypeId)
    (ho : o.op = .call { callee := .builtin .append, args := #[s, x], argTypes := #[t, t] }) {vs vx v' : Value} {w' : World} (hs : a.eval s = vs) (hx : a.eval x = vx)
    (hrun : (Builtin.append_ #[t, t] o.type #[vs, vx]).run P w = .ok v' w') (h : wpList P ops Q rest (a.put o.dst v') w') : wpList P ops Q (o :: rest) a w := by
  refine wpList_plain hgd fun K hK => ?_
  unfold Oper.wp
  simp [execOp, ho, resolve, invoke, builtin, hs, hx, hrun, Result.andThen]
  exact hK _ _ h

def SqRel (w0 : World) (m q : Nat) (x : Value) (wr : World) : Prop :=
  ∃ a c, x = .slice a (limbs q).length c ∧ Hid (0 < q ∧ m < (q + 1) * (q + 1) ∧ (limbs q).length ≤ 1048575 ∧ (limbs q).length ≤ c ∧ c ≤ 9223372036854775807) ∧ Cells wr a (limbs q) ∧ Ext w0 wr

set_option maxRecDepth 100000 in
set_option maxHeartbeats 3200000 in
theorem sqrtLimbs_step (w : World) (ao : Option Addr) (m cap : Nat) (l : (limbs m).length ≤ 1048575) (h1 : (limbs m).length ≤ cap) (h2 : cap ≤ 9223372036854775807) (h3 : Cells w ao (limbs m)) (h4 : 4 < (limbs m).length)
    (ih : ∀ (k : Nat), (limbs k).length < (limbs m).length → ∀ (w : World) (ao : Option Addr) (cap : Nat), (limbs k).length ≤ 1048575 → (limbs k).length ≤ cap → cap ≤ 9223372036854775807 → Cells w ao (limbs k) → Calls Tryz.prog 252 #[.slice ao (limbs k).length cap] w (Ret (SqL k) w)) :
    Calls Tryz.prog 252 #[.slice ao (limbs m).length cap] w (Ret (SqL m) w) := by
  obtain ⟨b, off, rfl, _⟩ := h3.at_ (by omega)
  obtain ⟨d, hd⟩ : ∃ d, d = ((limbs m).length - 1) / 4 := ⟨_, rfl⟩
  have hm0 : 0 < m := by
    rcases Nat.eq_zero_or_pos m with h | h
    · subst h; simp [limbs_zero] at h4
    · exact h
  obtain ⟨L, hL⟩ : ∃ L, L = (limbs m).length := ⟨_, rfl⟩
  have hdI : ((L : Int) - 1).tdiv 4 = (d : Int) := by rw [Int.tdiv_eq_ediv_of_nonneg (by omega)]; omega
  have htop : limbs (m / 1000000000 ^ (2 * d)) = (limbs m).drop (2 * d) := limbs_div m (2 * d) (by omega)
  have hlen : (limbs (m / 1000000000 ^ (2 * d))).length = L - 2 * d := by rw [htop, List.length_drop, hL]
  have hIH := ih (m / 1000000000 ^ (2 * d)) (by omega) w (some ⟨b, off + 2 * d, none⟩) (cap - 2 * d) (by omega) (by omega) (by omega) (by rw [htop]; exact h3.drop (2 * d))
  rw [hlen] at hIH
  have HIH := Lib.hid hIH
  have HF := Lib.hid (fun r (hr : IsSq (m / 1000000000 ^ (2 * d)) r) => first_limbs (m := m) (d := d) (by omega) (by omega) hr)
  have HX := Lib.hid (And.intro h3 (And.intro h1 (And.intro h2 (And.intro l hm0))))
  have HLe := Lib.hid hL
  have hL4 : ¬ (L : Int) ≤ 4 := by omega
  have hLb : (L : Int) ≤ 1048575 := by omega
  have hL0 : (1 : Int) ≤ (L : Int) := by omega
  have hd0 : 0 < d := by omega
  have hdb : (d : Int) ≤ 262144 := by omega
  have hcL : (L : Int) ≤ (cap : Int) := by omega
  have hd2 : 2 * (d : Int) ≤ (L : Int) := by omega
  have hd2c : 2 * (d : Int) ≤ (cap : Int) := by omega
  have hne : ¬ cap = 2 * d := by omega
  have hmk := run_mk d (by omega) ↑d rfl
  have HDb := Lib.hid (show d ≤ 262144 by omega)
  rw [← hL]
  clear hIH ih hd htop hlen h1 h3 h4 l hm0 hL
  go_enter Tryz.func252, Tryz.ntmps252
  go_wp2_with fail
  refine HIH.out.mono ?_
  rintro e w1 ⟨v1, rfl, ⟨r, hr, ⟨a1, c1, rfl, p1, p2, p3⟩⟩, e1⟩
  have HR := Lib.hid (HF.out r hr)
  have hrl : (limbs r).length ≤ 1048576 := by have := z12q (show r ≤ r + 1 by omega); have := HR.out.2.2.2; have := HX.out.2.2.2.1; omega
  have hadd := addLimbs_calls (w1.alloc (.cells #[.int .u32 1] 149)) a1 (some ⟨w1.heap.size, 0, none⟩) (limbs r) [1] c1 1 (by omega) (by simp) (p3.ext ((Ext.refl w1).alloc _)) (Blk.new w1 [1]).cells (z6q _) (Dig.cons (by omega) Dig.nil)
  rw [z1q, show val [1] = 1 from rfl] at hadd
  have HA := Lib.hid hadd
  clear hr hrl hadd HIH HF p1 p2 p3
  go_wp2_with fail
  refine HA.out.mono ?_
  rintro e w2 ⟨v2, rfl, ⟨a2, c2, rfl, q1, q2, q3⟩, e2⟩
  have e12 := e1.trans (((Ext.refl w1).alloc (.cells #[.int .u32 1] 149)).trans e2)
  have hl2 : (limbs (r + 1)).length ≤ 1048576 := by have := HR.out.2.2.2; have := HX.out.2.2.2.1; omega
  obtain ⟨a3, c3, w3, hrun, r1, r2, e3, r3⟩ := run_append_onto w2 22 (List.replicate d 0) (by rw [List.length_replicate]; have := HDb.out; omega) (by rw [List.length_replicate]; exact hd0) a2 (limbs (r + 1)) c2 (by omega) q3
  rw [← limbs_shift d (r + 1) (by omega)] at r3
  have hlen : d + (limbs (r + 1)).length = (limbs (1000000000 ^ d * (r + 1))).length := by
    rw [limbs_shift d (r + 1) (by omega), List.length_append, List.length_replicate]
  rw [List.length_replicate, hlen] at hrun r1
  have HRUN := Lib.hid hrun
  have HC := Lib.hid (And.intro r1 (And.intro r2 r3))
  have HE := Lib.hid ((e12.trans e3))
  clear hrun r1 r2 r3 hlen hl2 e12 e1 e2 e3 q1 q2 q3 HA
  go_wp2_with (at_builtin; refine wpList_append_run' rfl _ _ 22 rfl rfl rfl HRUN.out ?_)
  obtain ⟨p0, hp0⟩ : ∃ p0, p0 = 1000000000 ^ d * (r + 1) := ⟨_, rfl⟩
  rw [← hp0] at HC HR ⊢
  have HCut : Hid (SqRel w m p0 (.slice a3 (limbs p0).length c3) w3) := ⟨a3, c3, rfl, ⟨HR.out.2.1, HR.out.1, Nat.le_trans HR.out.2.2.1 HX.out.2.2.2.1, HC.out.1, HC.out.2.1⟩, HC.out.2.2, HE.out⟩
  clear hp0 HC HR HE HRUN hmk hd0 hdb hd2 hd2c hne hcL hdI hL4 hL0 HDb
  go_loopg [5] p0 (fun q x wr => SqRel w m q x wr)
  case atStart => exact HCut.out
  case round =>
    obtain ⟨a, c, rfl, H, hx, hE⟩ := hrel
    clear HCut
    have hnw := newton_calls wr (some ⟨b, off, none⟩) a m gk cap c HX.out.2.2.2.1 H.out.2.2.1 H.out.1 HX.out.2.1 H.out.2.2.2.1 HX.out.2.2.1 H.out.2.2.2.2 (HX.out.1.ext hE) hx
    rw [← HLe.out] at hnw
    have HN := Lib.hid hnw
    obtain ⟨k, hk⟩ : ∃ k, k = (gk + m / gk) / 2 := ⟨_, rfl⟩
    rw [← hk] at HN
    have HK := Lib.hid hk
    have HXX := Lib.hid hx
    clear hnw hk hx
    go_wp2_with fail
    refine HN.out.mono ?_
    rintro e w4 ⟨v4, rfl, ⟨a4, c4, rfl, s1, s2, s3⟩, e4⟩
    have HB := Lib.hid (And.intro s1 s2)
    have HS3 := Lib.hid s3
    clear s1 s2 s3 HN
    go_wp2_with fail
    refine (compareLimbs_calls _ _ _ k gk _ _ (Nat.le_trans HB.out.1 HB.out.2) (Nat.le_trans H.out.2.2.2.1 H.out.2.2.2.2) HS3.out (HXX.out.ext e4)).mono ?_
    rintro e w5 ⟨rfl, j, hw5⟩
    have e5 : Ext w4 w5 := by rw [hw5]; exact (Ext.refl w4).drewN j
    have eA := hE.trans (e4.trans e5)
    clear hw5
    by_cases hge : gk ≤ k
    · have hc0 : (0 : Int) ≤ cmpZ k gk := by rcases z2q (k : Int) (gk : Int) with h | h | h <;> omega
      have HSq := Lib.hid (newton_stop H.out.1 H.out.2.1 (by rw [← HK.out]; exact hge))
      clear hge
      go_wp2_with fail
      go_ret
      exact ⟨_, rfl, ⟨gk, HSq.out, a, c, rfl, H.out.2.2.2.1, H.out.2.2.2.2, HXX.out.ext (e4.trans e5)⟩, eA⟩
    · have hc0 : ¬ (0 : Int) ≤ cmpZ k gk := by rcases z2q (k : Int) (gk : Int) with h | h | h <;> omega
      have HP := Lib.hid (show 0 < k ∧ m < (k + 1) * (k + 1) by rw [HK.out]; exact ⟨newton_pos H.out.1 HX.out.2.2.2.2, newton_next H.out.1⟩)
      have HG := Lib.hid hge
      clear hge
      go_wp2_with fail
      go_roundg k
      case measure => have := HG.out; omega
      case rel => exact ⟨a4, c4, rfl, ⟨HP.out.1, HP.out.2, Nat.le_trans (z12q (by have := HG.out; omega)) H.out.2.2.1, HB.out.1, HB.out.2⟩, HS3.out.ext e5, eA⟩

theorem sqrtLimbs_any (w : World) (ao : Option Addr) (m cap : Nat) (l : (limbs m).length ≤ 1048575) (h1 : (limbs m).length ≤ cap) (h2 : cap ≤ 9223372036854775807) (h3 : Cells w ao (limbs m)) :
    Calls Tryz.prog 252 #[.slice ao (limbs m).length cap] w (Ret (SqL m) w) := by
  suffices h : ∀ (n : Nat) (m : Nat), (limbs m).length = n → ∀ (w : World) (ao : Option Addr) (cap : Nat), (limbs m).length ≤ 1048575 → (limbs m).length ≤ cap → cap ≤ 9223372036854775807 → Cells w ao (limbs m) → Calls Tryz.prog 252 #[.slice ao (limbs m).length cap] w (Ret (SqL m) w) from
    h _ m rfl w ao cap l h1 h2 h3
  intro n
  induction n using Nat.strongRecOn with
  | ind n ih =>
    intro m hm w ao cap l h1 h2 h3
    rcases Nat.lt_or_ge 4 (limbs m).length with h4 | h4
    · exact sqrtLimbs_step w ao m cap l h1 h2 h3 h4 (fun k hk w ao cap => ih _ (by omega) k rfl w ao cap)
    · exact sqrtLimbs_small w ao m cap h1 h2 h3 h4

end Go.Proofs.YtifeacfljfmnpaaGreat
end

section
set_option maxRecDepth 100000
namespace Go.Proofs.YtifeacfljfmnpaaGreat
open Go.RowKit
def isqF : Nat → Nat → Nat → Nat
  | 0, r, _ => r
  | k + 1, r, n => if (r + 2 ^ k) * (r + 2 ^ k) ≤ n then isqF k (r + 2 ^ k) n else isqF k r n
theorem isqF_spec {n : Nat} : ∀ (k r : Nat), r * r ≤ n → n < (r + 2 ^ k) * (r + 2 ^ k) → isqF k r n * isqF k r n ≤ n ∧ n < (isqF k r n + 1) * (isqF k r n + 1)
  | 0, r, h1, h2 => ⟨h1, h2⟩
  | k + 1, r, h1, h2 => by
    have e : r + 2 ^ k + 2 ^ k = r + 2 ^ (k + 1) := by rw [Nat.pow_succ]; omega
    unfold isqF
    split
    · rename_i h
      exact isqF_spec k (r + 2 ^ k) h (by rw [e]; exact h2)
    · rename_i h
      exact isqF_spec k r h1 (by omega)
def isqN (n : Nat) : Nat := isqF (n.log2 / 2 + 1) 0 n
theorem isqN_spec (n : Nat) : IsSq n (isqN n) := by
  refine isqF_spec _ 0 (by omega) ?_
  rw [Nat.zero_add]
  have h : n < 2 ^ (n.log2 + 1) := Nat.lt_log2_self
  refine Nat.lt_of_lt_of_le h ?_
  rw [← Nat.pow_add]
  exact Nat.pow_le_pow_right (by decide) (by omega)
theorem isqN_spec_eq {n r : Nat} (h : IsSq n r) : isqN n = r := (isqN_spec n).unique h
def isq (z : Int) : Int := if z < 0 then 0 else (isqN z.natAbs : Int)
def isqE (z : Int) : Int := if z < 0 then 7 else 0
def RetSqA (z : Int) (w : World) (e : Ending) (w' : World) : Prop :=
  ∃ v, e = .returned (.tuple #[v, .int .i64 (isqE z)]) ∧ IsInt w' v (isq z) ∧ Ext w w'

set_option maxRecDepth 100000 in
set_option maxHeartbeats 1600000 in
theorem sqrt_any (w : World) (v : Value) (z : Int) (h : IsInt w v z) (l : Lim 1048575 z) : Calls Tryz.prog 224 #[v] w (RetSqA z w) := by
  obtain ⟨ao, cap, s, n, rfl, h1, h2, h3, H4, H5, H6⟩ := h.open_
  obtain ⟨W, hW, eW, c0, c1, r0, r1, f0, f1⟩ := boxes1r w (.bool s) (.slice ao (limbs n).length cap) 24
  unfold Lim at l
  rw [← H4.out] at l
  cases s
  · have hz : z = (n : Int) := H5.out
    subst hz
    have HVA := Lib.hid (isInt_raw (s := false) h1 h2 h3 (by simp))
    have HL := Lib.hid (And.intro l (And.intro h1 (And.intro h2 h3)))
    have HN := Lib.hid (show isqE (n : Int) = 0 ∧ isq (n : Int) = (isqN n : Int) from ⟨if_neg (by omega), by unfold isq; rw [if_neg (by omega), Int.natAbs_natCast]⟩)
    clear H4 H5 H6 h l h1 h3
    go_enter Tryz.func224, Tryz.ntmps224
    go_wp2_with fail
    clear hW
    refine (valid_calls W _ false (limbs n) (HVA.out.1.ext eW)).mono ?_
    rintro e w1 ⟨rfl, e1⟩
    rw [HVA.out.2]
    replace c0 := e1.cell c0
    replace c1 := e1.cell c1
    go_wp2_with fail
    refine (sqrtLimbs_any w1 ao n cap HL.out.1 HL.out.2.1 HL.out.2.2.1 (HL.out.2.2.2.ext (eW.trans e1))).mono ?_
    rintro e w2 ⟨v2, rfl, ⟨r, hr, ⟨ao2, cap2, rfl, k1, k2, k3⟩⟩, e2⟩
    have HR := Lib.hid hr
    clear hr
    go_wp2_with fail
    refine (signedL_calls _ _ _ r _ k1 k2 k3).mono ?_
    rintro e w3 ⟨v3, rfl, hI, e3⟩
    obtain ⟨ao3, cap3, s3, n3, rfl, _⟩ := IsInt.open_ hI
    have eA := (e1.trans e2).trans e3
    have r02 := eA.cell r0
    have r12 := eA.cell r1
    have f02 := eA.frozen (z0q r0) f0
    have f12 := eA.frozen (z0q r1) f1
    clear r0 r1 f0 f1 c0 c1
    go_wp2
    obtain ⟨u, hu, hu2, hu3⟩ := fin_int hI r02 r12 (by omega) (eW.trans eA)
    injection hu with hu
    subst hu
    exact bodyPost_ret (v := .tuple #[.agg #[.bool s3, .slice ao3 (limbs n3).length cap3], .int .i64 0]) (by simp [results, Tryz.results224, go_sem, r02, r12]) rfl ⟨_, by rw [HN.out.1], by rw [HN.out.2, isqN_spec_eq HR.out]; exact hu2, hu3⟩
  · have hz : z < 0 := by have h5 := H5.out; have h6 := H6.out rfl; simp only [sgn, if_true] at h5; omega
    have HN := Lib.hid (show isqE z = 7 ∧ isq z = 0 from ⟨if_pos hz, if_pos hz⟩)
    clear H4 H5 H6 h l hz
    go_enter Tryz.func224, Tryz.ntmps224
    go_wp2
    exact bodyPost_ret (v := .tuple #[.agg #[.bool false, .slice none 0 0], .int .i64 7]) (by simp [results, Tryz.results224, go_sem, r0, r1]) rfl ⟨_, by rw [HN.out.1], by rw [HN.out.2]; exact isInt_zero _, (eW.setCell (p := ⟨w.heap.size + 1, 0, none⟩) (Nat.le_succ _) _).setCell (p := ⟨w.heap.size + 1, 1, none⟩) (Nat.le_succ _) _⟩

end Go.Proofs.YtifeacfljfmnpaaGreat
end

section
set_option maxRecDepth 100000
namespace Go.Proofs.YtifeacfljfmnpaaGreat
open Go.RowKit
def fn1 : Nat → Int → Int
  | 0, x => -x
  | 1, x => de x
  | 2, x => isq x
  | 3, x => isqE x
  | 4, x => ((limbs x.natAbs).length : Int)
  | 5, x => (x.natAbs : Int)
  | 20, x => IntKind.i64.wrap x
  | 21, x => IntKind.u64.wrap x
  | 22, x => IntKind.u32.wrap x
  | 30, x => 2 ^ x.toNat
  | _, x => x
def fn2 : Nat → Int → Int → Int
  | 0, x, y => x + y
  | 1, x, y => x - y
  | 2, x, y => x * y
  | 3, x, y => cmpZ x y
  | 4, x, y => dq x y
  | 5, x, y => dr x y
  | 6, x, y => ((Nat.gcd x.natAbs y.natAbs : Nat) : Int)
  | 7, x, y => (Rat.divInt x y).num
  | 8, x, y => ((Rat.divInt x y).den : Int)
  | 9, x, y => ((x.natAbs / y.natAbs : Nat) : Int)
  | 10, x, y => ((x.natAbs % y.natAbs : Nat) : Int)
  | 11, x, y => if y = 0 then 0 else ((Rat.divInt x y).den : Int)
  | 12, x, y => if y < x then y else x
  | 13, x, y => if y > x then y else x
  | 19, x, y => x * y / 18446744073709551616
  | 14, x, y => IntKind.u64.wrap ((BitVec.ofInt 64 x ||| BitVec.ofInt 64 y).toNat : Int)
  | 15, x, y => x.tmod y
  | 16, x, y => x.tdiv y
  | 17, x, y => x * 2 ^ y.toNat
  | 18, x, y => x.fdiv (2 ^ y.toNat)
  | _, x, _ => x
def sgS (a s : Rat) : Int := if s.num = 0 then cmpZ a.num 0 else if cmpZ a.num 0 = - cmpZ s.num 0 then cmpZ a.num 0 * cmpZ (a.num * a.num * (s.den : Int)) ((s.num.natAbs : Int) * ((a.den : Int) * (a.den : Int))) else cmpZ s.num 0
def flS (a s : Rat) : Int := if s.num = 0 then dq a.num (a.den : Int) else dq (a.num * (s.den : Int) + (if s.num < 0 then - (isq ((s.num.natAbs : Int) * (s.den : Int) * ((a.den : Int) * (a.den : Int))) + 1) else isq ((s.num.natAbs : Int) * (s.den : Int) * ((a.den : Int) * (a.den : Int))))) ((a.den : Int) * (s.den : Int))
def sqz (z : Int) : Bool := isq z * isq z == z
def Rdb (b c : Rat) : Bool := (b.num == 0 && c.num == 0) || (b.num != 0 && (decide (0 < c.num) && !(sqz c.num && sqz (c.den : Int))))
def simS : Nat → Int → Int → Int → Int → Int × Int
  | 0, _, _, _, _ => (1, 1)
  | k + 1, ln, ld, hn, hd => if (ln / ld + 1) * hd < hn then (ln / ld + 1, 1) else ((ln / ld) * (simS k hd (hn - ln / ld * hd) ld (ln - ln / ld * ld)).1 + (simS k hd (hn - ln / ld * hd) ld (ln - ln / ld * ld)).2, (simS k hd (hn - ln / ld * hd) ld (ln - ln / ld * ld)).1)
def simQ (k : Nat) (a b : Rat) : Rat := Rat.divInt (simS k a.num (a.den : Int) b.num (b.den : Int)).1 (simS k a.num (a.den : Int) b.num (b.den : Int)).2
def simP (a b : Rat) : Rat := simQ ((a.den : Int) + (b.den : Int) + 1).toNat a b
def simV (a b : Rat) : Rat := if 0 ≤ a.num then simP a b else if b.num ≤ 0 then - simP (-b) (-a) else 0
def ratF : Nat → Rat → Rat → Rat
  | 0, a, b => a + b
  | 1, a, b => a - b
  | 2, a, b => a * b
  | 5, a, b => if a.num = 0 then 0 else b
  | 6, a, b => if a.num = 0 then b else 0
  | 7, a, b => if a.num < 0 then - (a * a * b) else a * a * b
  | 8, a, s => (sgS a s : Rat)
  | 9, a, s => (flS a s : Rat)
  | 10, b, c => if Rdb b c then 1 else 0
  | 12, a, b => simV a b
  | _, a, b => a / b
def fn4 (f : Nat) (x y z t : Int) : Int := if f % 2 = 0 then (ratF (f / 2) (Rat.divInt x y) (Rat.divInt z t)).num else if f = 9 ∧ Rat.divInt z t = 0 then 0 else ((ratF (f / 2) (Rat.divInt x y) (Rat.divInt z t)).den : Int)
inductive IT where
  | var (i : Nat)
  | lit (z : Int)
  | rlen (i : Nat)
  | slen (i : Nat)
  | a1 (f : Nat) (x : IT)
  | a2 (f : Nat) (x y : IT)
  | a4 (f : Nat) (x y z t : IT)
structure Env where
  i : Nat → Int
  b : Nat → Bool
  r : Nat → Bool × List Nat
  s : Nat → List UInt8
def IT.den (E : Env) : IT → Int
  | .var i => E.i i
  | .lit z => z
  | .rlen i => ((E.r i).2.length : Int)
  | .slen i => ((E.s i).length : Int)
  | .a1 f x => fn1 f (x.den E)
  | .a2 f x y => fn2 f (x.den E) (y.den E)
  | .a4 f x y z t => fn4 f (x.den E) (y.den E) (z.den E) (t.den E)
def IT.beq : IT → IT → Bool
  | .var i, .var j => i == j
  | .lit x, .lit y => x == y
  | .rlen i, .rlen j => i == j
  | .slen i, .slen j => i == j
  | .a1 f x, .a1 g y => f == g && x.beq y
  | .a2 f x y, .a2 g z t => f == g && (x.beq z && y.beq t)
  | .a4 f x y z t, .a4 g x' y' z' t' => f == g && (x.beq x' && (y.beq y' && (z.beq z' && t.beq t')))
  | _, _ => false
theorem IT.eq_of_beq : ∀ {x y : IT}, x.beq y = true → x = y := by
  intro x
  induction x with
  | var i => intro y h; cases y <;> simp_all [IT.beq]
  | lit i => intro y h; cases y <;> simp_all [IT.beq]
  | rlen i => intro y h; cases y <;> simp_all [IT.beq]
  | slen i => intro y h; cases y <;> simp_all [IT.beq]
  | a1 f x ih =>
    intro y h
    cases y <;> simp only [IT.beq, Bool.false_eq_true, Bool.and_eq_true, beq_iff_eq] at h
    rw [h.1, ih h.2]
  | a2 f x y ihx ihy =>
    intro y h
    cases y <;> simp only [IT.beq, Bool.false_eq_true, Bool.and_eq_true, beq_iff_eq] at h
    rw [h.1, ihx h.2.1, ihy h.2.2]
  | a4 f x y z t ihx ihy ihz iht =>
    intro y h
    cases y <;> simp only [IT.beq, Bool.false_eq_true, Bool.and_eq_true, beq_iff_eq] at h
    rw [h.1, ihx h.2.1, ihy h.2.2.1, ihz h.2.2.2.1, iht h.2.2.2.2]
inductive ST where
  | lit (l : List UInt8)
  | var (i : Nat)
  | fmt (z : IT)
  | cat (x y : ST)
def ST.den (E : Env) : ST → List UInt8
  | .lit l => l
  | .var i => E.s i
  | .fmt z => Lib.itoa (z.den E)
  | .cat x y => x.den E ++ y.den E
def ST.beq : ST → ST → Bool
  | .lit l, .lit m => l == m
  | .var i, .var j => i == j
  | .fmt z, .fmt y => z.beq y
  | .cat x y, .cat z t => x.beq z && y.beq t
  | _, _ => false
theorem ST.eq_of_beq : ∀ {x y : ST}, x.beq y = true → x = y := by
  intro x
  induction x with
  | lit l => intro y h; cases y <;> simp_all [ST.beq]
  | var i => intro y h; cases y <;> simp_all [ST.beq]
  | fmt z => intro y h; cases y <;> simp only [ST.beq, Bool.false_eq_true] at h; rw [IT.eq_of_beq h]
  | cat x y ihx ihy =>
    intro z h
    cases z <;> simp only [ST.beq, Bool.false_eq_true, Bool.and_eq_true] at h
    rw [ihx h.1, ihy h.2]
inductive BT where
  | seq (x y : ST)
  | lit (b : Bool)
  | var (i : Nat)
  | eq (x y : IT)
  | lt (x y : IT)
  | le (x y : IT)
  | ok (i : Nat)
  | and (x y : BT)
  | not (x : BT)
def BT.den (E : Env) : BT → Bool
  | .seq x y => x.den E == y.den E
  | .lit b => b
  | .var i => E.b i
  | .eq x y => x.den E == y.den E
  | .lt x y => decide (x.den E < y.den E)
  | .le x y => decide (x.den E ≤ y.den E)
  | .ok i => okB (E.r i).1 (E.r i).2
  | .and x y => x.den E && y.den E
  | .not x => !(x.den E)
def BT.beq : BT → BT → Bool
  | .seq x y, .seq z t => x.beq z && y.beq t
  | .lit a, .lit b => a == b
  | .var i, .var j => i == j
  | .eq x y, .eq z t => x.beq z && y.beq t
  | .lt x y, .lt z t => x.beq z && y.beq t
  | .le x y, .le z t => x.beq z && y.beq t
  | .ok i, .ok j => i == j
  | .and x y, .and z t => x.beq z && y.beq t
  | .not x, .not y => x.beq y
  | _, _ => false
theorem BT.den_of_beq (E : Env) : ∀ {x y : BT}, x.beq y = true → x.den E = y.den E := by
  intro x
  induction x with
  | seq a b =>
    intro y h
    cases y <;> simp only [BT.beq, Bool.false_eq_true, Bool.and_eq_true] at h
    rw [BT.den, BT.den, ST.eq_of_beq h.1, ST.eq_of_beq h.2]
  | not x ih =>
    intro y h
    cases y <;> simp only [BT.beq, Bool.false_eq_true] at h
    simp only [BT.den, ih h]
  | lit a => intro y h; cases y <;> simp_all [BT.beq, BT.den]
  | and a b iha ihb =>
    intro y h
    cases y <;> simp only [BT.beq, Bool.false_eq_true, Bool.and_eq_true] at h
    simp only [BT.den, iha h.1, ihb h.2]
  | var a => intro y h; cases y <;> simp_all [BT.beq, BT.den]
  | ok a => intro y h; cases y <;> simp_all [BT.beq, BT.den]
  | eq a b =>
    intro y h
    cases y <;> simp only [BT.beq, Bool.false_eq_true, Bool.and_eq_true] at h
    rw [BT.den, BT.den, IT.eq_of_beq h.1, IT.eq_of_beq h.2]
  | lt a b =>
    intro y h
    cases y <;> simp only [BT.beq, Bool.false_eq_true, Bool.and_eq_true] at h
    rw [BT.den, BT.den, IT.eq_of_beq h.1, IT.eq_of_beq h.2]
  | le a b =>
    intro y h
    cases y <;> simp only [BT.beq, Bool.false_eq_true, Bool.and_eq_true] at h
    rw [BT.den, BT.den, IT.eq_of_beq h.1, IT.eq_of_beq h.2]
abbrev Asm := List (BT × Bool)
def Asm.holds (E : Env) (G : Asm) : Prop := ∀ p ∈ G, p.1.den E = p.2
def Asm.find : Asm → BT → Option Bool
  | [], _ => none
  | p :: G, t => if p.1.beq t then some p.2 else Asm.find G t
theorem Asm.find_spec {E : Env} : ∀ {G : Asm} {t : BT} {b : Bool}, G.holds E → G.find t = some b → t.den E = b
  | [], _, _, _, h => by simp [Asm.find] at h
  | p :: G, t, b, hG, h => by
    unfold Asm.find at h
    split at h
    · rename_i hb
      injection h with h
      rw [← BT.den_of_beq E hb, hG p (by simp), h]
    · exact Asm.find_spec (fun q hq => hG q (by simp [hq])) h
def andE : Option Bool → Option Bool → Option Bool → Option Bool
  | some false, _, _ => some false
  | some true, some b, _ => some b
  | none, some false, _ => some false
  | _, _, d => d
theorem andE_spec {p q b : Bool} {x y d : Option Bool} (hx : ∀ c, x = some c → p = c) (hy : ∀ c, y = some c → q = c) (hd : d = some b → (p && q) = b) (h : andE x y d = some b) : (p && q) = b := by
  unfold andE at h
  split at h
  · injection h with h; rw [hx _ rfl, ← h]; rfl
  · injection h with h; rw [hx _ rfl, hy _ rfl, ← h]; rfl
  · injection h with h; rw [hy _ rfl, ← h, Bool.and_false]
  · exact hd h
def IT.cl : IT → Option Int
  | .lit z => some z
  | .a1 f x => match x.cl with
    | some a => some (fn1 f a)
    | none => none
  | .a2 f x y => match x.cl, y.cl with
    | some a, some b => some (fn2 f a b)
    | _, _ => none
  | .a4 f x y z t => match x.cl, y.cl, z.cl, t.cl with
    | some a, some b, some c, some d => some (fn4 f a b c d)
    | _, _, _, _ => none
  | _ => none
theorem IT.cl_spec {E : Env} : ∀ {x : IT} {z : Int}, x.cl = some z → x.den E = z := by
  intro x
  induction x with
  | lit z => intro y h; unfold IT.cl at h; injection h
  | a1 f x ih =>
    intro z h
    unfold IT.cl at h
    split at h
    · rename_i a ha
      injection h with h
      rw [← h, ← ih ha]; rfl
    · cases h
  | a2 f x y ihx ihy =>
    intro z h
    unfold IT.cl at h
    split at h
    · rename_i a b ha hb
      injection h with h
      rw [← h, ← ihx ha, ← ihy hb]; rfl
    · cases h
  | a4 f x y z t ihx ihy ihz iht =>
    intro u h
    unfold IT.cl at h
    split at h
    · rename_i a b c d ha hb hc hd
      injection h with h
      rw [← h, ← ihx ha, ← ihy hb, ← ihz hc, ← iht hd]; rfl
    · cases h
  | _ => intro z h; cases h
def ST.cl : ST → Option (List UInt8)
  | .lit l => some l
  | .fmt z => match z.cl with
    | some n => some (Lib.itoa n)
    | none => none
  | .cat x y => match x.cl, y.cl with
    | some a, some b => some (a ++ b)
    | _, _ => none
  | .var _ => none
theorem ST.cl_spec {E : Env} : ∀ {x : ST} {l : List UInt8}, x.cl = some l → x.den E = l := by
  intro x
  induction x with
  | lit l => intro y h; unfold ST.cl at h; injection h
  | var i => intro y h; cases h
  | fmt z =>
    intro y h
    unfold ST.cl at h
    split at h
    · rename_i n hn
      injection h with h
      rw [← h, ← IT.cl_spec hn]; rfl
    · cases h
  | cat x y ihx ihy =>
    intro z h
    unfold ST.cl at h
    split at h
    · rename_i a b ha hb
      injection h with h
      rw [← h, ← ihx ha, ← ihy hb]; rfl
    · cases h
def BT.ev (G : Asm) : BT → Option Bool
  | .lit b => some b
  | .not x => (x.ev G).map (!·)
  | .eq x y => match x.cl, y.cl with
    | some a, some b => some (a == b)
    | _, _ => if x.beq y then some true else G.find (.eq x y)
  | .lt x y => match x.cl, y.cl with
    | some a, some b => some (decide (a < b))
    | _, _ => G.find (.lt x y)
  | .le x y => match x.cl, y.cl with
    | some a, some b => some (decide (a ≤ b))
    | _, _ => G.find (.le x y)
  | .and x y => andE (x.ev G) (y.ev G) (G.find (.and x y))
  | .seq x y => match x.cl, y.cl with
    | some a, some b => some (a == b)
    | _, _ => if x.beq y then some true else G.find (.seq x y)
  | t => G.find t
theorem BT.ev_spec {E : Env} {G : Asm} (hG : G.holds E) : ∀ {t : BT} {b : Bool}, t.ev G = some b → t.den E = b := by
  intro t
  induction t with
  | not x ih =>
    intro b h
    unfold BT.ev at h
    obtain ⟨c, hc, rfl⟩ := Option.map_eq_some_iff.1 h
    rw [BT.den, ih hc]
  | lit a => intro b h; unfold BT.ev at h; injection h
  | and x y ihx ihy =>
    intro b h
    unfold BT.ev at h
    exact andE_spec (fun c hc => ihx hc) (fun c hc => ihy hc) (fun hd => Asm.find_spec (t := .and x y) hG hd) h
  | var i => intro b h; unfold BT.ev at h; exact Asm.find_spec hG h
  | ok i => intro b h; unfold BT.ev at h; exact Asm.find_spec hG h
  | seq x y =>
    intro b h
    unfold BT.ev at h
    split at h
    · rename_i c d hc hd
      injection h with h
      rw [← h, BT.den, ST.cl_spec hc, ST.cl_spec hd]
    · split at h
      · rename_i hb
        injection h with h
        rw [BT.den, ST.eq_of_beq hb, ← h]
        simp
      · exact Asm.find_spec hG h
  | eq x y =>
    intro b h
    unfold BT.ev at h
    split at h
    · rename_i c d hc hd
      injection h with h
      rw [← h, BT.den, IT.cl_spec hc, IT.cl_spec hd]
    · split at h
      · rename_i hb
        injection h with h
        rw [BT.den, IT.eq_of_beq hb, ← h]
        simp
      · exact Asm.find_spec hG h
  | lt x y =>
    intro b h
    unfold BT.ev at h
    split at h
    · rename_i c d hc hd
      injection h with h
      rw [← h, BT.den, IT.cl_spec hc, IT.cl_spec hd]
    · exact Asm.find_spec hG h
  | le x y =>
    intro b h
    unfold BT.ev at h
    split at h
    · rename_i c d hc hd
      injection h with h
      rw [← h, BT.den, IT.cl_spec hc, IT.cl_spec hd]
    · exact Asm.find_spec hG h
def BT.norm (G : Asm) (t : BT) : BT := match t.ev G with | some b => .lit b | none => t
theorem BT.norm_den {E : Env} {G : Asm} (hG : G.holds E) (t : BT) : (t.norm G).den E = t.den E := by
  unfold BT.norm
  split
  · rename_i b h; rw [BT.ev_spec hG h]; rfl
  · rfl

inductive Chunk where
  | b (t : BT)
  | n (k : IntKind) (t : IT)
  | int (t : IT) (lim : Nat)
  | raw (i : Nat)
  | mag (t : IT) (lim : Nat)
  | rmag (i : Nat)
  | fn (f : Nat)
  | nilSlice
  | str (t : ST) (lim : Nat)
def Chunk.size : Chunk → Nat
  | .int _ _ => 2
  | .raw _ => 2
  | _ => 1
def Chunk.holds (E : Env) (w : World) : Chunk → List Value → Prop
  | .b t, vs => vs = [.bool (t.den E)]
  | .n k t, vs => vs = [.int k (t.den E)]
  | .int t l, vs => ∃ x y, vs = [x, y] ∧ IsInt w (.agg #[x, y]) (t.den E) ∧ Lim l (t.den E)
  | .raw i, vs => ∃ x y, vs = [x, y] ∧ Raw w (.agg #[x, y]) (E.r i).1 (E.r i).2
  | .mag t l, vs => ∃ x, vs = [x] ∧ IsLimbs (t.den E).natAbs x w ∧ Lim l (t.den E)
  | .rmag i, vs => ∃ x, vs = [x] ∧ ∃ ao c, x = .slice ao (E.r i).2.length c ∧ (E.r i).2.length ≤ c ∧ c ≤ 9223372036854775807 ∧ Cells w ao (E.r i).2
  | .fn f, vs => vs = [.func (.func f) #[] #[]]
  | .nilSlice, vs => vs = [.slice none 0 0]
  | .str t l, vs => vs = [.string ⟨(t.den E).toArray⟩] ∧ (t.den E).length ≤ l
structure Kp (B : Nat) (w w' : World) : Prop where
  below : Below B w w'
  u32 : ∀ p x, w.cell? p = some (.int .u32 x) → w'.cell? p = some (.int .u32 x)
theorem Kp.of {B : Nat} {w w' : World} (e : Ext w w') (h : B ≤ w.heap.size) : Kp B w w' := ⟨Below.mono e h, fun _ _ hc => e.cell hc⟩
theorem Kp.cells {B : Nat} {w w' : World} (k : Kp B w w') {ao : Option Addr} {xs : List Nat} (h : Cells w ao xs) : Cells w' ao xs := by
  rcases h with h | ⟨b, off, rfl, h⟩
  · exact .inl h
  · exact .inr ⟨b, off, rfl, fun i hi => k.u32 _ _ (h i hi)⟩
theorem Chunk.keep {E : Env} {B : Nat} {w w' : World} (k : Kp B w w') : ∀ {c : Chunk} {vs : List Value}, c.holds E w vs → c.holds E w' vs
  | .b _, _, h => h
  | .n _ _, _, h => h
  | .int _ _, _, ⟨x, y, hv, ⟨ao, cap, h1, h2, h3, h4⟩, hl⟩ => ⟨x, y, hv, ⟨ao, cap, h1, h2, h3, k.cells h4⟩, hl⟩
  | .raw _, _, ⟨x, y, hv, ⟨ao, cap, h1, h2, h3, h4⟩⟩ => ⟨x, y, hv, ⟨ao, cap, h1, h2, h3, k.cells h4⟩⟩
  | .mag _ _, _, ⟨x, hv, ⟨ao, cap, h1, h2, h3, h4⟩, hl⟩ => ⟨x, hv, ⟨ao, cap, h1, h2, h3, k.cells h4⟩, hl⟩
  | .rmag _, _, ⟨x, hv, ao, c, h1, h2, h3, h4⟩ => ⟨x, hv, ao, c, h1, h2, h3, k.cells h4⟩
  | .fn _, _, h => h
  | .nilSlice, _, h => h
  | .str _ _, _, h => h
def chunks (E : Env) (w : World) : List Chunk → List Value → Prop
  | [], vs => vs = []
  | c :: cs, vs => ∃ l r, vs = l ++ r ∧ c.holds E w l ∧ chunks E w cs r
theorem Chunk.len {E : Env} {w : World} {c : Chunk} {vs : List Value} (h : c.holds E w vs) : vs.length = c.size := by
  cases c with
  | b _ => simp only [Chunk.holds] at h; subst h; rfl
  | n _ _ => simp only [Chunk.holds] at h; subst h; rfl
  | int _ _ => obtain ⟨x, y, rfl, _⟩ := h; rfl
  | raw _ => obtain ⟨x, y, rfl, _⟩ := h; rfl
  | mag _ _ => obtain ⟨x, rfl, _⟩ := h; rfl
  | rmag _ => obtain ⟨x, rfl, _⟩ := h; rfl
  | fn _ => simp only [Chunk.holds] at h; subst h; rfl
  | nilSlice => simp only [Chunk.holds] at h; subst h; rfl
  | str _ _ => obtain ⟨rfl, _⟩ := h; rfl
def sizes : List Chunk → Nat
  | [] => 0
  | c :: cs => c.size + sizes cs
theorem chunks_len {E : Env} {w : World} : ∀ {cs : List Chunk} {vs : List Value}, chunks E w cs vs → vs.length = sizes cs
  | [], _, h => by simp only [chunks] at h; subst h; rfl
  | c :: cs, _, ⟨l, r, hv, hc, hr⟩ => by subst hv; rw [List.length_append, c.len hc, chunks_len hr]; rfl
theorem chunks_keep {E : Env} {B : Nat} {w w' : World} (k : Kp B w w') : ∀ {cs : List Chunk} {vs : List Value}, chunks E w cs vs → chunks E w' cs vs
  | [], _, h => h
  | _ :: _, _, ⟨l, r, hv, hc, hr⟩ => ⟨l, r, hv, Chunk.keep k hc, chunks_keep k hr⟩
theorem chunks_append {E : Env} {w : World} : ∀ {cs ds : List Chunk} {vs us : List Value}, chunks E w cs vs → chunks E w ds us → chunks E w (cs ++ ds) (vs ++ us)
  | [], _, _, _, h, k => by simp only [chunks] at h; subst h; exact k
  | c :: cs, ds, _, us, ⟨l, r, hv, hc, hr⟩, k => by subst hv; exact ⟨l, r ++ us, by rw [List.append_assoc], hc, chunks_append hr k⟩
def splitC : List Chunk → Nat → Option (List Chunk × List Chunk)
  | cs, 0 => some ([], cs)
  | [], _ + 1 => none
  | c :: cs, n + 1 => if c.size ≤ n + 1 then (splitC cs (n + 1 - c.size)).map fun p => (c :: p.1, p.2) else none
theorem splitC_spec {E : Env} {w : World} : ∀ (cs : List Chunk) (n : Nat) (l r : List Chunk) (vs : List Value), splitC cs n = some (l, r) → chunks E w cs vs →
    cs = l ++ r ∧ sizes l = n ∧ chunks E w l (vs.take n) ∧ chunks E w r (vs.drop n)
  | cs, 0, l, r, vs, h, k => by
    unfold splitC at h
    injection h with h
    injection h with h1 h2
    subst h1 h2
    exact ⟨rfl, rfl, by simp [chunks], by simpa using k⟩
  | [], n + 1, l, r, vs, h, k => by simp [splitC] at h
  | c :: cs, n + 1, l, r, vs, h, k => by
    unfold splitC at h
    split at h
    · rename_i hle
      obtain ⟨p, hp, he⟩ := Option.map_eq_some_iff.1 h
      obtain ⟨p1, p2⟩ := p
      injection he with h1 h2
      subst h1 h2
      obtain ⟨a, b, rfl, ha, hb⟩ := k
      obtain ⟨k1, k2, k3, k4⟩ := splitC_spec cs (n + 1 - c.size) p1 p2 b hp hb
      have hl := c.len ha
      refine ⟨by rw [k1]; rfl, by simp only [sizes, k2]; omega, ⟨a, b.take (n + 1 - c.size), ?_, ha, k3⟩, ?_⟩
      · rw [List.take_append, hl, List.take_of_length_le (by omega)]
      · rw [List.drop_append, hl, List.drop_of_length_le (by omega), List.nil_append]; exact k4
    · cases h

end Go.Proofs.YtifeacfljfmnpaaGreat
end

section
set_option maxRecDepth 100000
namespace Go.Proofs.YtifeacfljfmnpaaGreat
open Go.RowKit
inductive AV where
  | val (ag : Bool) (cs : List Chunk)
  | ptr (x off : Nat)
  | tup (l : List (Bool × List Chunk))
  | bad
def one (E : Env) (w : World) (p : Bool × List Chunk) (v : Value) : Prop :=
  match p.1 with
  | true => ∃ vs : List Value, v = .agg vs.toArray ∧ chunks E w p.2 vs
  | false => chunks E w p.2 [v] ∧ v.cells = #[v]
def tupAll (E : Env) (w : World) : List (Bool × List Chunk) → List Value → Prop
  | [], vs => vs = []
  | p :: l, vs => ∃ v r, vs = v :: r ∧ one E w p v ∧ tupAll E w l r
def big : Nat := 1000000000000
def ro : Nat := 1000000
def pv (b off : Nat) : Value := if off < big then .pointer (some ⟨b, off, none⟩) else .slice (some ⟨b, 0, none⟩) (off - big) (off - big)
def big2 : Nat := 2000000000000
def opn (E : Env) (b off : Nat) (v : Value) : Prop := v = .slice (some ⟨b, 0, none⟩) (off - big2) ((E.r 1000003).2.headD 0) ∧ b = ((E.r 1000001).2.headD 0)
def AV.holds (E : Env) (β : Nat → Nat) (w : World) : AV → Value → Prop
  | .val ag cs, v => one E w (ag, cs) v
  | .ptr x off, v => if off < big2 then v = pv (β x) off else opn E (β x) off v
  | .tup l, v => ∃ vs : List Value, v = .tuple vs.toArray ∧ tupAll E w l vs
  | .bad, v => v = Go.undef
theorem AV.pv_of {E : Env} {β : Nat → Nat} {w : World} {x off : Nat} {v : Value} (h : (AV.ptr x off).holds E β w v) (k : off < big2) : v = pv (β x) off := by
  have h' : if off < big2 then v = pv (β x) off else opn E (β x) off v := h
  rwa [if_pos k] at h'
theorem AV.of_pv {E : Env} {β : Nat → Nat} {w : World} {x off : Nat} {v : Value} (h : v = pv (β x) off) (k : off < big2) : (AV.ptr x off).holds E β w v := by
  show if off < big2 then v = pv (β x) off else opn E (β x) off v
  rwa [if_pos k]
theorem AV.opn_of {E : Env} {β : Nat → Nat} {w : World} {x off : Nat} {v : Value} (h : (AV.ptr x off).holds E β w v) (k : big2 ≤ off) : opn E (β x) off v := by
  have h' : if off < big2 then v = pv (β x) off else opn E (β x) off v := h
  rwa [if_neg (by omega)] at h'
def lt2 {α : Type} (off : Nat) (o : Option α) : Option α := if off < big2 then o else none
theorem lt2_spec {α : Type} {off : Nat} {o : Option α} {c : α} (h : lt2 off o = some c) : off < big2 ∧ o = some c := by
  unfold lt2 at h
  split at h
  · rename_i k; exact ⟨k, h⟩
  · cases h
theorem big_lt {off : Nat} (h : off < big) : off < big2 := by unfold big at h; unfold big2; omega
section
variable {E : Env} {β : Nat → Nat} {B : Nat} {w w' : World}
theorem one_keep (k : Kp B w w') {p : Bool × List Chunk} {v : Value} (h : one E w p v) : one E w' p v := by
  obtain ⟨ag, cs⟩ := p
  cases ag
  · exact ⟨chunks_keep k h.1, h.2⟩
  · obtain ⟨vs, hv, hc⟩ := h
    exact ⟨vs, hv, chunks_keep k hc⟩
theorem tupAll_keep (k : Kp B w w') : ∀ {l : List (Bool × List Chunk)} {vs : List Value}, tupAll E w l vs → tupAll E w' l vs
  | [], _, h => h
  | _ :: _, _, ⟨v, r, hv, ho, hr⟩ => ⟨v, r, hv, one_keep k ho, tupAll_keep k hr⟩
theorem AV.keep (k : Kp B w w') : ∀ {x : AV} {v : Value}, x.holds E β w v → x.holds E β w' v
  | .val _ _, _, h => one_keep k h
  | .ptr _ _, _, h => h
  | .tup _, _, ⟨vs, hv, h⟩ => ⟨vs, hv, tupAll_keep k h⟩
  | .bad, _, h => h
theorem one_cells {p : Bool × List Chunk} {v : Value} (h : one E w p v) : chunks E w p.2 v.cells.toList := by
  obtain ⟨ag, cs⟩ := p
  cases ag
  · rw [h.2]; exact h.1
  · obtain ⟨vs, hv, hc⟩ := h
    subst hv
    exact hc
def VarAt (E : Env) (w : World) (b : Nat) (cs : List Chunk) : Prop :=
  ∃ vs : List Value, chunks E w cs vs ∧ ∀ i v, vs[i]? = some v → w.cell? ⟨b, i, none⟩ = some v ∧ w.frozen? ⟨b, i, none⟩ = false
theorem VarAt.ext {b : Nat} {cs : List Chunk} (h : VarAt E w b cs) (e : Ext w w') : VarAt E w' b cs := by
  obtain ⟨vs, h1, h2⟩ := h
  refine ⟨vs, chunks_keep (Kp.of e (Nat.le_refl _)) h1, fun i v hv => ?_⟩
  obtain ⟨k1, k2⟩ := h2 i v hv
  exact ⟨e.cell k1, e.frozen (p := ⟨b, i, none⟩) (z0q k1) k2⟩
end
structure Cfg where
  zero : TypeId → Option (List Chunk)
  ag : TypeId → Option (Bool × Nat)
  fld : TypeId → Nat → Option Nat
  flds : TypeId → Option (List (Nat × Nat))
  bool : TypeId → Bool
  slc : TypeId → Bool
  strT : TypeId → Bool
  cnv : TypeId → TypeId → Option IntKind := fun _ _ => none
  row : TypeId → Option TypeId
  arr : TypeId → Option (Nat × TypeId)
  calls : Nat → List AV → List (Option (List Chunk)) → Asm → Option AV
  need : Nat → List AV → List (Option (List Chunk)) → Asm → Option BT := fun _ _ _ _ => none
  wok : World → Prop
  eq2 : TypeId → Bool := fun _ => false
  fty : TypeId → Nat → Option (TypeId × Nat) := fun _ _ => none
structure CfgOK (P : Program) (E : Env) (C : Cfg) : Prop where
  zero : ∀ t cs, C.zero t = some cs → ∀ w, ∃ z, (zeroValue t).run P w = .ok z w ∧ chunks E w cs z.cells.toList
  ag : ∀ t b n, C.ag t = some (b, n) → ∀ w, (isAgg t).run P w = .ok b w ∧ (sizeOf t).run P w = .ok n w ∧ (b = false → n = 1)
  fld : ∀ t k off, C.fld t k = some off → ∀ w a, (Instr.fieldAt t (.pointer (some a)) k).run P w = .ok (.pointer (some (a.add off))) w
  flds : ∀ t l, C.flds t = some l → ∃ fields, P.underlying t = some (.struct fields) ∧ ∀ w, (fields.mapM fun f => do pure (f.offset, ← sizeOf f.type) : Sem (Array (Nat × Nat))).run P w = .ok l.toArray w
  bool : ∀ t, C.bool t = true → P.underlying t = some .bool
  row : ∀ t e, C.row t = some e → P.underlying t = some (.slice e)
  arr : ∀ t n e, C.arr t = some (n, e) → P.underlying t = some (.array n e)
  calls : ∀ f args M G r, C.calls f args M G = some r → G.holds E → ∀ (β : Nat → Nat) (w : World) (vs : List Value), C.wok w → (∀ (i : Nat) (x : AV), args[i]? = some x → ∃ v, vs[i]? = some v ∧ x.holds E β w v) → vs.length = args.length →
    (∀ (i x off : Nat) (cs : List Chunk), args[i]? = some (.ptr x off) → M[i]? = some (some cs) → VarAt E w (β x) cs) →
    Calls P f vs.toArray w (fun e w' => ∃ v, e = .returned v ∧ r.holds E β w' v ∧ Ext w w')
  nptr : ∀ f args M G r, C.calls f args M G = some r → ∀ x off, r ≠ .ptr x off
  body : ∀ f args M G r, C.calls f args M G = some r → ∃ fn, P.funcs[f]? = some fn ∧ fn.name ≠ "runtime.NumGoroutine" ∧ fn.body.isNone = false
  slc : ∀ t, C.slc t = true → ∃ e, P.underlying t = some (.slice e)
  strT : ∀ t, C.strT t = true → P.underlying t = some .string
  cnv : ∀ s d k, C.cnv s d = some k → (∃ u, P.underlying s = some u) ∧ P.underlying d = some (.int k)
  apd : ∀ t, C.slc t = true → ∀ (ty : TypeId) (w : World) (n : Nat) (x : Value), (limbs n).length ≤ 1099511627776 → IsLimbs n x w → ∃ y w', (Builtin.append_ #[t, t] ty #[.slice none 0 0, x]).run P w = .ok y w' ∧ IsLimbs n y w' ∧ Ext w w'
  eq2 : ∀ t, C.eq2 t = true → ∀ (w : World) (x y : Operand) (a b c d : Int), (do eqGuard .eql t x y (.agg #[.int .i64 a, .int .i64 b]) (.agg #[.int .i64 c, .int .i64 d]); binOp .eql t (.agg #[.int .i64 a, .int .i64 b]) (.agg #[.int .i64 c, .int .i64 d]) : Sem Value).run P w = .ok (.bool (a == c && b == d)) w
  fty : ∀ t k e off, C.fty t k = some (e, off) → ∃ fields f, P.underlying t = some (.struct fields) ∧ fields[k]? = some f ∧ f.type = e ∧ f.offset = off

structure CfgAt (P : Program) (E : Env) (C : Cfg) (B : Nat) (w0 : World) : Prop where
  ok : CfgOK P E C
  wk : ∀ w', Below B w0 w' → C.wok w'

inductive Eff where
  | set (x : AV)
  | new (t : TypeId) (cs : List Chunk) (off : Nat)
  | put (x : Nat) (cs : List Chunk)
def avOf : Value → Option AV
  | .bool b => some (.val false [.b (.lit b)])
  | .int k n => some (.val false [.n k (.lit n)])
  | .func (.func f) a c => if a.isEmpty && c.isEmpty then some (.val false [.fn f]) else none
  | .slice none 0 0 => some (.val false [.nilSlice])
  | .string s => some (.val false [.str (.lit s.data.toList) s.data.toList.length])
  | _ => none
theorem avOf_spec {E : Env} {β : Nat → Nat} {w : World} {v : Value} {x : AV} (h : avOf v = some x) : x.holds E β w v := by
  unfold avOf at h
  split at h
  · injection h with h; subst h; exact ⟨⟨_, [], rfl, rfl, rfl⟩, rfl⟩
  · injection h with h; subst h; exact ⟨⟨_, [], rfl, rfl, rfl⟩, rfl⟩
  · rename_i f a c
    split at h
    · rename_i hc
      rw [Bool.and_eq_true] at hc
      have h1 := Array.isEmpty_iff.1 hc.1
      have h2 := Array.isEmpty_iff.1 hc.2
      subst h1 h2
      injection h with h; subst h; exact ⟨⟨_, [], rfl, rfl, rfl⟩, rfl⟩
    · cases h
  · injection h with h; subst h; exact ⟨⟨_, [], rfl, rfl, rfl⟩, rfl⟩
  · injection h with h; subst h; exact ⟨⟨_, [], rfl, ⟨rfl, Nat.le_refl _⟩, rfl⟩, rfl⟩
  · cases h
def opnd (look : Nat → Option AV) : Operand → Option AV
  | .tmp t => look t
  | .const v => avOf v
  | .func f => some (.val false [.fn f])
  | _ => none
theorem z13q {E : Env} {β : Nat → Nat} {w : World} {a : Act} {look : Nat → Option AV} (hl : ∀ t x, look t = some x → x.holds E β w (a.tmps.getD t undef)) {o : Operand} {x : AV} (h : opnd look o = some x) : x.holds E β w (a.eval o) := by
  cases o with
  | tmp t => exact hl t x h
  | const v => exact avOf_spec h
  | global g => cases h
  | func f => injection h with h; subst h; exact ⟨⟨_, [], rfl, rfl, rfl⟩, rfl⟩
def part1 (r : List Chunk) (b : Bool) (n : Nat) : Option AV :=
  match splitC r n with
  | some (l, _) => some (.val b l)
  | none => match r, b, n with
    | .int t _ :: _, false, 1 => some (.val false [.b (.lt t (.lit 0))])
    | _, _, _ => none
def loadE (C : Cfg) (cs : List Chunk) (off : Nat) (t : TypeId) : Option AV :=
  match C.ag t with
  | some (b, n) =>
    match splitC cs off with
    | some (_, r) => part1 r b n
    | none => match b, off with
      | false, o + 1 => match splitC cs o with
        | some (_, .int t l :: _) => some (.val false [.mag t l])
        | some (_, .raw i :: _) => some (.val false [.rmag i])
        | _ => none
      | _, _ => none
  | none => none
def noU32 : List Chunk → Bool
  | [] => true
  | .n .u32 _ :: _ => false
  | _ :: cs => noU32 cs

end Go.Proofs.YtifeacfljfmnpaaGreat
end

section
set_option maxRecDepth 100000
namespace Go.Proofs.YtifeacfljfmnpaaGreat
open Go.RowKit
section
variable {P : Program} {E : Env} {β : Nat → Nat} {B : Nat} {w w' : World}
theorem Chunk.cellish {c : Chunk} {vs : List Value} (h : c.holds E w vs) : ∀ v ∈ vs, v.oneCell' = true := by
  cases c with
  | b _ => simp only [Chunk.holds] at h; subst h; simp [Value.oneCell']
  | n _ _ => simp only [Chunk.holds] at h; subst h; simp [Value.oneCell']
  | int _ _ =>
    obtain ⟨x, y, rfl, ⟨ao, cap, hv, _⟩, _⟩ := h
    injection hv with hv
    have h0 := congrArg (fun a => a[0]?) hv
    have h1 := congrArg (fun a => a[1]?) hv
    simp at h0 h1
    subst h0 h1
    simp [Value.oneCell']
  | raw _ =>
    obtain ⟨x, y, rfl, ⟨ao, cap, hv, _⟩⟩ := h
    injection hv with hv
    have h0 := congrArg (fun a => a[0]?) hv
    have h1 := congrArg (fun a => a[1]?) hv
    simp at h0 h1
    subst h0 h1
    simp [Value.oneCell']
  | mag _ _ => obtain ⟨x, rfl, ⟨ao, cap, rfl, _⟩, _⟩ := h; simp [Value.oneCell']
  | rmag _ => obtain ⟨x, rfl, ao, c, rfl, _⟩ := h; simp [Value.oneCell']
  | fn _ => simp only [Chunk.holds] at h; subst h; simp [Value.oneCell']
  | nilSlice => simp only [Chunk.holds] at h; subst h; simp [Value.oneCell']
  | str _ _ => obtain ⟨rfl, _⟩ := h; simp [Value.oneCell']
theorem chunks_cellish : ∀ {cs : List Chunk} {vs : List Value}, chunks E w cs vs → ∀ v ∈ vs, v.oneCell' = true
  | [], _, h, v, hv => by simp only [chunks] at h; subst h; simp at hv
  | c :: cs, _, ⟨l, r, he, hc, hr⟩, v, hv => by
    subst he
    rcases List.mem_append.1 hv with h | h
    · exact Chunk.cellish hc v h
    · exact chunks_cellish hr v h
theorem cells_of_cellish {v : Value} (h : v.oneCell' = true) : v.cells = #[v] := by
  cases v <;> simp_all [Value.cells, Value.oneCell']

theorem add_addr (b off d : Nat) : (⟨b, off, none⟩ : Addr).add d = ⟨b, off + d, none⟩ := by unfold Addr.add; split <;> simp_all
theorem run_loadCells {b off : Nat} : ∀ (vs : List Value) (i : Nat) (acc : Array Value), (∀ j v, vs[j]? = some v → w.cell? ⟨b, off + i + j, none⟩ = some v) →
    (loadCellsFrom ⟨b, off, none⟩ i vs.length acc).run P w = .ok (acc ++ vs.toArray) w
  | [], i, acc, _ => by simp [loadCellsFrom]
  | v :: vs, i, acc, h => by
    have h0 := h 0 v rfl
    rw [Nat.add_zero] at h0
    have ih := run_loadCells vs (i + 1) (acc.push v) (fun j u hj => by
      have := h (j + 1) u (by simpa using hj)
      rwa [show off + (i + 1) + j = off + i + (j + 1) by omega])
    rw [List.length_cons]
    unfold loadCellsFrom
    simp only [Sem.run_bind, run_load, add_addr, h0, Result.andThen_ok]
    rw [ih]
    simp
theorem run_loadVar {b off : Nat} {t : TypeId} {bb : Bool} {n : Nat} (ha : (isAgg t).run P w = .ok bb w) (hs : (sizeOf t).run P w = .ok n w) (vs : List Value) (hl : vs.length = n) (h1 : bb = false → ∃ x, vs = [x])
    (h : ∀ j v, vs[j]? = some v → w.cell? ⟨b, off + j, none⟩ = some v) :
    ∃ v, (Instr.loadAt t (.pointer (some ⟨b, off, none⟩))).run P w = .ok v w ∧ (bb = true → v = .agg vs.toArray) ∧ (bb = false → vs = [v]) := by
  subst hl
  cases bb
  · obtain ⟨x, rfl⟩ := h1 rfl
    refine ⟨x, ?_, by simp, by simp⟩
    have := h 0 x rfl
    rw [Nat.add_zero] at this
    simp [Instr.loadAt, Instr.sureAddr, loadVar, ha, this]
  · refine ⟨.agg vs.toArray, ?_, by simp, by simp⟩
    have := run_loadCells (P := P) (b := b) (off := off) (w := w) vs 0 #[] (fun j v hj => by rw [Nat.add_zero]; exact h j v hj)
    simp [Instr.loadAt, Instr.sureAddr, loadVar, ha, hs, loadCells, this]
theorem isInt_pair {x y : Value} {z : Int} (h : IsInt w (.agg #[x, y]) z) : x = .bool (decide (z < 0)) ∧ IsLimbs z.natAbs y w := by
  obtain ⟨ao, cap, hv, h1, h2, h3⟩ := h
  injection hv with hv
  have h0 := congrArg (fun a => a[0]?) hv
  have h1' := congrArg (fun a => a[1]?) hv
  simp at h0 h1'
  exact ⟨h0, ao, cap, h1', h1, h2, h3⟩
theorem loadE_sound {C : Cfg} (hC : CfgOK P E C) {cs : List Chunk} {b off : Nat} {t : TypeId} {x : AV} (h : loadE C cs off t = some x) (hv : VarAt E w b cs) :
    ∃ v, (Instr.loadAt t (.pointer (some ⟨b, off, none⟩))).run P w = .ok v w ∧ x.holds E β w v := by
  obtain ⟨vs, hc, hcell⟩ := hv
  unfold loadE at h
  split at h
  · rename_i bb n hag
    obtain ⟨ha, hs, hn1⟩ := hC.ag t bb n hag w
    have key : ∀ (l : List Value) (lc : List Chunk), l.length = n → chunks E w lc l → (∀ j v, l[j]? = some v → w.cell? ⟨b, off + j, none⟩ = some v) →
        ∃ v, (Instr.loadAt t (.pointer (some ⟨b, off, none⟩))).run P w = .ok v w ∧ (AV.val bb lc).holds E β w v := by
      intro l lc hl hlc hj
      obtain ⟨v, k1, k2, k3⟩ := run_loadVar ha hs l hl (fun hb => by
        have := hn1 hb
        rw [this] at hl
        match l, hl with
        | [y], _ => exact ⟨y, rfl⟩) hj
      refine ⟨v, k1, ?_⟩
      cases bb
      · have e := k3 rfl
        subst e
        exact ⟨hlc, cells_of_cellish (chunks_cellish hlc v (by simp))⟩
      · exact ⟨l, k2 rfl, hlc⟩
    have one1 : ∀ (u : Value), bb = false → n = 1 → w.cell? ⟨b, off, none⟩ = some u → (Instr.loadAt t (.pointer (some ⟨b, off, none⟩))).run P w = .ok u w := by
      intro u hb hn hu
      obtain ⟨v, k1, _, k3⟩ := run_loadVar ha hs [u] hn.symm (fun _ => ⟨u, rfl⟩) (fun j v hj => by
        match j, hj with
        | 0, hj => injection hj with hj; subst hj; exact hu)
      have := k3 hb
      injection this with this
      rw [this]; exact k1
    split at h
    · rename_i l0 r hsp
      obtain ⟨_, _, _, hr⟩ := splitC_spec _ _ _ _ _ hsp hc
      have hjr : ∀ j v, (vs.drop off)[j]? = some v → w.cell? ⟨b, off + j, none⟩ = some v := fun j v hj => (hcell (off + j) v (by rw [← List.getElem?_drop]; exact hj)).1
      unfold part1 at h
      split at h
      · rename_i l1 r1 hsp2
        obtain ⟨_, hsz, hl, _⟩ := splitC_spec _ _ _ _ _ hsp2 hr
        injection h with h
        subst h
        refine key _ _ (by rw [chunks_len hl, hsz]) hl (fun j v hj => hjr j v ?_)
        rw [List.getElem?_take] at hj
        split at hj
        · exact hj
        · cases hj
      · split at h
        · rename_i t' lim r' _ 
          injection h with h
          subst h
          obtain ⟨a, r2, hvs, ⟨x, y, rfl, hI, _⟩, _⟩ := hr
          obtain ⟨hx, _⟩ := isInt_pair hI
          refine ⟨x, one1 x rfl rfl ?_, ?_⟩
          · have := hjr 0 x (by rw [hvs]; rfl)
            rwa [Nat.add_zero] at this
          · subst hx
            exact ⟨⟨_, [], rfl, rfl, rfl⟩, rfl⟩
        · cases h
    · split at h
      · rename_i o _
        split at h
        · rename_i l0 t' lim r' hsp
          obtain ⟨_, _, _, hr⟩ := splitC_spec _ _ _ _ _ hsp hc
          injection h with h
          subst h
          obtain ⟨a, r2, hvs, ⟨x, y, rfl, hI, hlim⟩, _⟩ := hr
          obtain ⟨_, hy⟩ := isInt_pair hI
          refine ⟨y, one1 y rfl (hn1 rfl) ?_, ?_⟩
          · exact (hcell (o + 1) y (by rw [← List.getElem?_drop, hvs]; rfl)).1
          · refine ⟨⟨[y], [], rfl, ⟨y, rfl, hy, hlim⟩, rfl⟩, ?_⟩
            obtain ⟨ao, cap, rfl, _⟩ := hy
            rfl
        · rename_i l0 i r' hsp
          obtain ⟨_, _, _, hr⟩ := splitC_spec _ _ _ _ _ hsp hc
          injection h with h
          subst h
          obtain ⟨a, r2, hvs, ⟨x, y, rfl, ao, cap, hv, j1, j2, j3⟩, _⟩ := hr
          injection hv with hv
          have hv1 := congrArg (fun a => a[1]?) hv
          simp at hv1
          refine ⟨y, one1 y rfl (hn1 rfl) ?_, ?_⟩
          · exact (hcell (o + 1) y (by rw [← List.getElem?_drop, hvs]; rfl)).1
          · exact ⟨⟨[y], [], rfl, ⟨y, rfl, ao, cap, hv1, j1, j2, j3⟩, rfl⟩, by rw [hv1]; rfl⟩
        · cases h
      · cases h
  · cases h

theorem below_setCells {b : Nat} : ∀ (vs : List Value) (o : Nat) (w : World), B ≤ b → Below B w (w.setCells b o vs)
  | [], _, _, _ => Below.refl _ _
  | v :: r, o, w, h => ((Below.refl B w).setCell (p := ⟨b, o, none⟩) h v).trans (below_setCells r (o + 1) _ h)
theorem size_setCells {b : Nat} : ∀ (vs : List Value) (o : Nat) (w : World), (w.setCells b o vs).heap.size = w.heap.size
  | [], _, _ => rfl
  | v :: r, o, w => by rw [World.setCells, size_setCells r]; simp [World.setCell]
theorem noU32_spec : ∀ {cs : List Chunk} {vs : List Value}, noU32 cs = true → chunks E w cs vs → ∀ x, Value.int .u32 x ∉ vs
  | [], _, _, h, x => by simp only [chunks] at h; subst h; simp
  | c :: cs, _, hn, ⟨l, r, he, hc, hr⟩, x => by
    subst he
    intro hx
    rcases List.mem_append.1 hx with h | h
    · cases c with
      | b _ => simp only [Chunk.holds] at hc; subst hc; simp at h
      | n k t =>
        simp only [Chunk.holds] at hc
        subst hc
        simp at h
        obtain ⟨rfl, _⟩ := h
        simp [noU32] at hn
      | int _ _ =>
        obtain ⟨x1, y1, rfl, hI, _⟩ := hc
        obtain ⟨rfl, ao, cap, rfl, _⟩ := isInt_pair hI
        simp at h
      | raw _ =>
        obtain ⟨x1, y1, rfl, ⟨ao, cap, hv, _⟩⟩ := hc
        injection hv with hv
        have h0 := congrArg (fun a => a[0]?) hv
        have h1 := congrArg (fun a => a[1]?) hv
        simp at h0 h1
        subst h0 h1
        simp at h
      | mag _ _ => obtain ⟨x1, rfl, ⟨ao, cap, rfl, _⟩, _⟩ := hc; simp at h
      | rmag _ => obtain ⟨x1, rfl, ao, cap, rfl, _⟩ := hc; simp at h
      | fn _ => simp only [Chunk.holds] at hc; subst hc; simp at h
      | nilSlice => simp only [Chunk.holds] at hc; subst hc; simp at h
      | str _ _ => obtain ⟨rfl, _⟩ := hc; simp at h
    · refine noU32_spec (cs := cs) ?_ hr x h
      unfold noU32 at hn
      split at hn
      · rename_i e; cases e
      · cases hn
      · rename_i e; injection e with _ e; subst e; exact hn
def storeE (C : Cfg) (cx : List Chunk) (off : Nat) (t : TypeId) (_b : Bool) (cs : List Chunk) : Option (List Chunk) :=
  match C.ag t with
  | some (_, n) =>
    match splitC cx off with
    | some (l, r) =>
      match splitC r n with
      | some (m, r') => if sizes cs == n && noU32 m then some (l ++ cs ++ r') else none
      | none => none
    | none => none
  | none => none
theorem storeE_sound {C : Cfg} (hC : CfgOK P E C) {cx cs c2 : List Chunk} {b off : Nat} {t : TypeId} {bb : Bool} {v : Value} (h : storeE C cx off t bb cs = some c2) (hv : VarAt E w b cx) (ho : one E w (bb, cs) v) (hB : B ≤ b) :
    ∃ w', (Instr.storeAt t (.pointer (some ⟨b, off, none⟩)) v).run P w = .ok () w' ∧ Kp B w w' ∧ (∀ p : Addr, p.block ≠ b → w'.cell? p = w.cell? p) ∧ (∀ p, w'.frozen? p = w.frozen? p) ∧ w'.heap.size = w.heap.size ∧ VarAt E w' b c2 := by
  obtain ⟨vs, hc, hcell⟩ := hv
  have hcs := one_cells ho
  unfold storeE at h
  split at h
  · rename_i b' n hag
    obtain ⟨ha, hs, hn1⟩ := hC.ag t b' n hag w
    split at h
    · rename_i l r hsp
      obtain ⟨e1, z1, hl, hr⟩ := splitC_spec _ _ _ _ _ hsp hc
      split at h
      · rename_i m r' hsp2
        obtain ⟨e2, z2, hm, hr'⟩ := splitC_spec _ _ _ _ _ hsp2 hr
        split at h
        · rename_i hcond
          rw [Bool.and_eq_true, beq_iff_eq] at hcond
          obtain ⟨hsz, hnu⟩ := hcond
          injection h with h
          subst h
          obtain ⟨us, hus⟩ : ∃ us, us = v.cells.toList := ⟨_, rfl⟩
          rw [← hus] at hcs
          have hul : us.length = n := by rw [chunks_len hcs, hsz]
          have hml : ((vs.drop off).take n).length = n := by rw [chunks_len hm, z2]
          rw [List.length_take, List.length_drop] at hml
          have hcl : ∀ j, j < us.length → ∃ u, vs[off + j]? = some u ∧ w.cell? ⟨b, off + j, none⟩ = some u ∧ w.frozen? ⟨b, off + j, none⟩ = false := by
            intro j hj
            obtain ⟨u, hu⟩ : ∃ u, vs[off + j]? = some u := ⟨vs[off + j]'(by omega), List.getElem?_eq_getElem _⟩
            exact ⟨u, hu, hcell _ u hu⟩
          have hst := run_storeCells_cells (P := P) b off us 0 w (fun j hj => by obtain ⟨u, _, hu, _⟩ := hcl j hj; rw [Nat.add_zero, hu]; rfl) (fun j hj => by obtain ⟨u, _, _, hu⟩ := hcl j hj; rw [Nat.add_zero]; exact hu) (chunks_cellish hcs)
          rw [Nat.add_zero] at hst
          have hcz : v.cells.size = n := by rw [← hul, hus]; simp
          have hin := World.cell?_setCells_in b us off w (fun j hj => by obtain ⟨u, _, hu, _⟩ := hcl j hj; rw [hu]; rfl)
          have hout := World.cell?_setCells_out b us off w
          have hK : Kp B w (w.setCells b off us) := by
            refine ⟨below_setCells _ _ _ hB, fun p x hp => ?_⟩
            rw [hout p ?_]
            · exact hp
            · intro hb hsn
              rcases Nat.lt_or_ge p.off off with h1 | h1
              · exact .inl h1
              rcases Nat.lt_or_ge p.off (off + us.length) with h2 | h2
              · exfalso
                obtain ⟨u, hu1, hu2, _⟩ := hcl (p.off - off) (by omega)
                rw [show off + (p.off - off) = p.off by omega] at hu1 hu2
                have hpe : p = ⟨b, p.off, none⟩ := by cases p; simp_all
                rw [hpe, hu2] at hp
                injection hp with hp
                subst hp
                refine noU32_spec hnu hm x ?_
                rw [List.mem_iff_getElem?]
                refine ⟨p.off - off, ?_⟩
                rw [List.getElem?_take, if_pos (by omega), List.getElem?_drop, show off + (p.off - off) = p.off by omega]
                exact hu1
              · exact .inr h2
          refine ⟨w.setCells b off us, ?_, hK, fun p hp => hout p (fun hb _ => absurd hb hp), fun p => World.frozen?_setCells b us off w p, size_setCells _ _ _, ?_⟩
          · simp only [Instr.storeAt, Instr.sureAddr, storeVar, Sem.run_bind, Sem.run_pure, Result.andThen_ok, hs, hcz, ne_eq, not_true_eq_false, if_false, ← hus]
            exact hst
          · refine ⟨vs.take off ++ us ++ (vs.drop off).drop n, chunks_append (chunks_append (chunks_keep hK hl) (chunks_keep hK hcs)) (chunks_keep hK hr'), fun i u hi => ?_⟩
            have htl : (vs.take off).length = off := by rw [chunks_len hl, z1]
            rw [World.frozen?_setCells]
            rcases Nat.lt_or_ge i off with h1 | h1
            · rw [List.append_assoc, List.getElem?_append_left (by omega), List.getElem?_take, if_pos h1] at hi
              rw [hout ⟨b, i, none⟩ (fun _ _ => .inl h1)]
              exact hcell i u hi
            rcases Nat.lt_or_ge i (off + us.length) with h2 | h2
            · rw [List.append_assoc, List.getElem?_append_right (by omega), List.getElem?_append_left (by omega), htl] at hi
              have hk := hin (i - off) (by omega)
              rw [show off + (i - off) = i by omega] at hk
              rw [List.getElem?_eq_getElem (by omega)] at hi
              obtain ⟨u', hu', _, hf⟩ := hcl (i - off) (by omega)
              rw [show off + (i - off) = i by omega] at hf
              exact ⟨by rw [hk]; exact hi, hf⟩
            · rw [List.getElem?_append_right (by rw [List.length_append]; omega), List.length_append, htl, List.getElem?_drop, List.getElem?_drop] at hi
              rw [hout ⟨b, i, none⟩ (fun _ _ => .inr h2)]
              refine hcell i u ?_
              rw [← hi]
              congr 1
              omega
        · cases h
      · cases h
    · cases h
  · cases h
end
end Go.Proofs.YtifeacfljfmnpaaGreat
end

section
set_option maxRecDepth 100000
namespace Go.Proofs.YtifeacfljfmnpaaGreat
open Go.RowKit
def cmpE (op : BinOp) (x y : IT) : Option BT :=
  match op with
  | .eql => some (.eq x y)
  | .neq => some (.not (.eq x y))
  | .lss => some (.lt x y)
  | .leq => some (.le x y)
  | .gtr => some (.lt y x)
  | .geq => some (.le y x)
  | _ => none
def tiny : IT → Bool
  | .lit z => decide (-1000 ≤ z) && decide (z ≤ 1000)
  | .a2 3 _ _ => true
  | _ => false
theorem tiny_spec {E : Env} {t : IT} (h : tiny t = true) : -1000 ≤ t.den E ∧ t.den E ≤ 1000 := by
  unfold tiny at h
  split at h
  · rw [Bool.and_eq_true, decide_eq_true_iff, decide_eq_true_iff] at h; exact h
  · rename_i x y
    show -1000 ≤ cmpZ (x.den E) (y.den E) ∧ cmpZ (x.den E) (y.den E) ≤ 1000
    rcases z2q (x.den E) (y.den E) with ⟨_, h⟩ | ⟨_, h⟩ | ⟨_, h⟩ <;> rw [h] <;> omega
  · cases h
def wrF : IntKind → Option Nat
  | .i64 => some 20
  | .u64 => some 21
  | .u32 => some 22
  | _ => none
theorem wrF_spec {k : IntKind} {f : Nat} (h : wrF k = some f) (x : Int) : fn1 f x = k.wrap x := by
  unfold wrF at h
  split at h <;> (try injection h with h; subst h; rfl)
  cases h
def IT.fold (t : IT) : IT := match t.cl with | some z => .lit z | none => t
theorem IT.fold_den {E : Env} (t : IT) : t.fold.den E = t.den E := by
  unfold IT.fold
  split
  · rename_i z hz; rw [IT.cl_spec hz]; rfl
  · rfl
def wrE (k : IntKind) (t : IT) : Option AV := (wrF k).map fun f => .val false [.n k (IT.a1 f t).fold]
def arE (op : BinOp) (k : IntKind) (a b : IT) : Option AV :=
  match op with
  | .add => wrE k (.a2 0 a b)
  | .sub => wrE k (.a2 1 a b)
  | .mul => wrE k (.a2 2 a b)
  | .or => if k = .u64 then some (.val false [.n k (IT.a2 14 a b).fold]) else none
  | .rem => match b.cl with
    | some z => if z = 0 then none else some (.val false [.n k (IT.a2 15 a (.lit z)).fold])
    | none => none
  | .quo => match b.cl with
    | some z => if z = 0 then none else wrE k (.a2 16 a (.lit z))
    | none => none
  | _ => none
def shE (op : BinOp) (k : IntKind) (a b : IT) : Option AV :=
  match b.cl with
  | some z => if decide (0 ≤ z) && decide (z < (k.bits : Int)) then
      match op with
      | .shl => wrE k (.a2 17 a (.lit z))
      | .shr => some (.val false [.n k (IT.a2 18 a (.lit z)).fold])
      | _ => none
    else none
  | none => none
def cvtE (C : Cfg) (s d : TypeId) (x : AV) : Option AV :=
  match x with
  | .val false [.n _ t] => match C.cnv s d with
    | some k => wrE k t
    | none => none
  | _ => none
def isSh (op : BinOp) : Bool := match op with | .shl => true | .shr => true | _ => false
def binE (C : Cfg) (G : Asm) (op : BinOp) (ty : TypeId) (x y : AV) : Option AV :=
  match x, y with
  | .val false [.str s l], .val false [.str t m] => match op with
    | .eql => some (.val false [.b ((BT.seq s t).norm G)])
    | .neq => some (.val false [.b ((BT.not (.seq s t)).norm G)])
    | .add => if decide (l + m ≤ 1000000000000) then some (.val false [.str (.cat s t) (l + m)]) else none
    | _ => none
  | .val false [.b s], .val false [.b t] => if C.bool ty then
      match op, s.ev G, t.ev G with
      | .neq, some a, some b => some (.val false [.b (.lit (a != b))])
      | .eql, some a, some b => some (.val false [.b (.lit (a == b))])
      | _, _, _ => none
    else none
  | .val false [.n k a], .val false [.n k' b] =>
    if isSh op then shE op k a b else
    if k = k' then
      match cmpE op a b with
      | some t => some (.val false [.b (t.norm G)])
      | none => match op, k with
        | .mul, .i64 => if tiny a && tiny b then some (.val false [.n .i64 (.a2 2 a b)]) else arE .mul .i64 a b
        | .add, .i64 => match a.cl, b.cl with
          | some p, some q => if decide (-1000000 ≤ p + q) && decide (p + q ≤ 1000000) then some (.val false [.n .i64 (.lit (p + q))]) else arE .add .i64 a b
          | none, some q => if q == 1 && (G.find (.lt a (.lit 300)) == some true && G.find (.le (.lit 0) a) == some true) then some (.val false [.n .i64 (.a2 0 a b)]) else arE .add .i64 a b
          | _, none => arE .add .i64 a b
        | op, k => arE op k a b
    else none
  | .val true [.n .i64 a, .n .i64 b], .val true [.n .i64 c, .n .i64 d] => if C.eq2 ty then match op with
      | .eql => some (.val false [.b ((BT.and (.eq a c) (.eq b d)).norm G)])
      | _ => none
    else none
  | _, _ => none
def unE (G : Asm) (op : UnOp) (x : AV) : Option AV :=
  match op, x with
  | .not, .val false [.b t] => some (.val false [.b ((BT.not t).norm G)])
  | .neg, .val false [.n .i64 (.lit z)] => if decide (-1000 ≤ z) && decide (z ≤ 1000) then some (.val false [.n .i64 (.lit (-z))]) else wrE .i64 (.a2 1 (.lit 0) (.lit z))
  | .neg, .val false [.n .i64 t] => if tiny t then some (.val false [.n .i64 (.a1 0 t)]) else wrE .i64 (.a2 1 (.lit 0) t)
  | .neg, .val false [.n k t] => wrE k (.a2 1 (.lit 0) t)
  | _, _ => none
def opnds (look : Nat → Option AV) : List Operand → Option (List AV)
  | [] => some []
  | o :: os => match opnd look o, opnds look os with
    | some x, some xs => some (x :: xs)
    | _, _ => none
def partsE (look : Nat → Option AV) : List (Nat × Operand) → List (Nat × Nat) → Nat → Nat → Option (List Chunk)
  | [], [], _, _ => some []
  | (i, x) :: ps, (off, size) :: fs, k, at_ =>
    match opnd look x with
    | some (.val _ cs) => if i == k && (off == at_ && (size == sizes cs)) then (partsE look ps fs (k + 1) (at_ + size)).map (cs ++ ·) else none
    | _ => none
  | _, _, _, _ => none
def partsZ (look : Nat → Option AV) : List (Nat × Nat) → List (Nat × Operand) → List Chunk → Nat → Nat → Option (List Chunk)
  | _, [], zs, _, _ => some zs
  | (off, size) :: fs, (i, x) :: ps, zs, k, at_ =>
    match splitC zs size with
    | some (zl, zr) =>
      if i == k then
        match opnd look x with
        | some (.val _ cs) => if off == at_ && size == sizes cs then (partsZ look fs ps zr (k + 1) (at_ + size)).map (cs ++ ·) else none
        | _ => none
      else (partsZ look fs ((i, x) :: ps) zr (k + 1) (at_ + size)).map (zl ++ ·)
    | none => none
  | [], _ :: _, _, _, _ => none
def partsB (look : Nat → Option AV) (fs : List (Nat × Nat)) (ps : List (Nat × Operand)) (zs : List Chunk) : Option (List Chunk) :=
  match partsE look ps fs 0 0 with
  | some cs => some cs
  | none => partsZ look fs ps zs 0 0
def fuse : List Chunk → List Chunk
  | [.b (.lt x (.lit 0)), .mag y l] => if x.beq y then [.int y l] else [.b (.lt x (.lit 0)), .mag y l]
  | cs => cs
theorem fuse_spec {E : Env} {w : World} {cs : List Chunk} {vs : List Value} (h : chunks E w cs vs) : chunks E w (fuse cs) vs := by
  unfold fuse
  split
  · rename_i x y l
    split
    · rename_i hb
      have := IT.eq_of_beq hb
      subst this
      obtain ⟨a, r, rfl, ha, b, r2, rfl, ⟨u, rfl, ⟨ao, cap, rfl, h1, h2, h3⟩, hl⟩, hr⟩ := h
      simp only [Chunk.holds] at ha
      simp only [chunks] at hr
      subst ha hr
      exact ⟨[_, _], [], rfl, ⟨_, _, rfl, ⟨ao, cap, rfl, h1, h2, h3⟩, hl⟩, rfl⟩
    · exact h
  · exact h
def lenE : Chunk → Option AV
  | .mag t _ => some (.val false [.n .i64 (.a1 4 t)])
  | .rmag i => some (.val false [.n .i64 (.rlen i)])
  | .nilSlice => some (.val false [.n .i64 (.lit 0)])
  | _ => none
def slenE : Chunk → Option AV
  | .str (.var i) _ => some (.val false [.n .i64 (.slen i)])
  | .str (.lit l) _ => some (.val false [.n .i64 (.lit (l.length : Int))])
  | _ => none
def opndP (look : Nat → Option AV) (o : Operand) : Option (Nat × Nat) :=
  match opnd look o with
  | some (.ptr x off) => if off < big then some (x, off) else none
  | _ => none
def memOf (var : Nat → Option (List Chunk)) : AV → Option (List Chunk)
  | .ptr x off => if off < big then none else var x
  | _ => none
def places (size : Nat) (len : Nat) : List (Nat × Nat) := (List.range len).map fun i => (i * size, size)
def mmE (f : Nat) (look : Nat → Option AV) : List Operand → Option AV
  | [x, y] => match opnd look x, opnd look y with
    | some (.val false [.n k a]), some (.val false [.n k' b]) => if k = k' then some (.val false [.n k (IT.a2 f a b).fold]) else none
    | _, _ => none
  | _ => none
def partV (cs : List Chunk) (off : Nat) (b : Bool) (n : Nat) : Option AV :=
  match splitC cs off with
  | some (_, r) => match splitC r n with
    | some (l, _) => some (.val b l)
    | none => none
  | none => none
def fieldE (C : Cfg) (look : Nat → Option AV) (t : TypeId) (x : Operand) (k : Nat) : Option AV :=
  match opnd look x with
  | some (.val true cs) => match C.fty t k with
    | some (e, off) => match C.ag e with
      | some (b, size) => partV cs off b size
      | none => none
    | none => none
  | _ => none
def callE (C : Cfg) (G : Asm) (look : Nat → Option AV) (var : Nat → Option (List Chunk)) (c : Call) : Option AV :=
  match c.callee with
  | .value f => match opnd look f with
    | some (.val false [.fn g]) => match opnds look c.args.toList with
      | some xs => C.calls g xs (xs.map (memOf var)) G
      | none => none
    | _ => none
  | .builtin .len => match c.argTypes.toList, c.args.toList with
    | t :: _, [x] => match opnd look x with
      | some (.val false [ch]) => if C.slc t then lenE ch else if C.strT t then slenE ch else none
      | some (.ptr _ off) => if decide (big ≤ off) && (decide (off < big2) && (C.row t).isSome) then some (.val false [.n .i64 (.lit ((off - big : Nat) : Int))]) else none
      | _ => none
    | _, _ => none
  | .builtin .append => match c.argTypes.toList, c.args.toList with
    | [t, u], [x, y] => match opnd look x, opnd look y with
      | some (.val false [.nilSlice]), some (.val false [.mag s l]) => if C.slc t && (t == u && decide (l ≤ 1099511627776)) then some (.val false [.mag s l]) else none
      | _, _ => none
    | _, _ => none
  | .builtin .min => mmE 12 look c.args.toList
  | .builtin .max => mmE 13 look c.args.toList
  | _ => none
def idxE (C : Cfg) (look : Nat → Option AV) (t : TypeId) (x i : Operand) : Option (Nat × Nat) :=
  match opnd look i with
  | some (.val false [.n _ ti]) => match ti.cl with
    | some z => match C.row t with
      | some e => match opnd look x, C.ag e with
        | some (.ptr y off), some (_, size) => if decide (off < big2) then (if decide (big ≤ off) && (decide (0 ≤ z) && (decide (z < ((off - big : Nat) : Int)) && decide (z.toNat * size < big))) then some (y, z.toNat * size) else none) else
          if decide (0 ≤ z) && (decide (z < ((off - big2 : Nat) : Int)) && decide (z.toNat * size < big)) then some (y, z.toNat * size) else none
        | _, _ => none
      | none => match C.arr t with
        | some (len, e) => match opndP look x, C.ag e with
          | some (y, off), some (_, size) => if decide (0 ≤ z) && (decide (z < (len : Int)) && decide (off + z.toNat * size < big)) then some (y, off + z.toNat * size) else none
          | _, _ => none
        | none => none
    | none => none
  | _ => none
def opE (C : Cfg) (G : Asm) (look : Nat → Option AV) (var : Nat → Option (List Chunk)) (o : Op) : Option Eff :=
  match o with
  | .move x => (opnd look x).map .set
  | .assign x => (opnd look x).map .set
  | .pick c a b => match opnd look c with
    | some (.val false [.b t]) => match t.ev G with
      | some true => (opnd look a).map .set
      | some false => (opnd look b).map .set
      | none => none
    | _ => none
  | .alloc t => (C.zero t).map fun cs => .new t cs 0
  | .box t x => match opnd look x with
    | some (.val _ cs) => some (.new t cs 0)
    | _ => none
  | .buildSlice t len parts => match C.row t with
    | some e => match C.zero e, C.ag e with
      | some zs, some (_, size) => match partsE look parts.toList (places size len) 0 0 with
        | some cs => if sizes cs == len * size && (decide (len * size ≤ 1000) && (!(len * size == 0) && sizes zs == size)) then some (.new e cs (big + len)) else none
        | none => none
      | _, _ => none
    | none => none
  | .build t parts => match C.flds t, C.zero t with
    | some fs, some zs => if parts.isEmpty then some (.set (.val true zs)) else
      match partsB look fs parts.toList zs with
      | some cs => if sizes cs == sizes zs then some (.set (.val true (fuse cs))) else none
      | none => none
    | none, some zs => match C.arr t with
      | some (len, e) => match C.ag e with
        | some (_, size) => match partsB look (places size len) parts.toList zs with
          | some cs => if sizes cs == sizes zs then some (.set (.val true cs)) else none
          | none => none
        | none => none
      | none => none
    | _, _ => none
  | .load t a => match opndP look a with
    | some (x, off) => match var x with
      | some cs => (loadE C cs off t).map .set
      | none => none
    | _ => none
  | .store t a x => match opndP look a, opnd look x with
    | some (y, off), some (.val b cs) => match var y with
      | some cx => (storeE C cx off t b cs).map (.put y)
      | none => none
    | _, _ => none
  | .binOp op t x y _ => match opnd look x, opnd look y with
    | some a, some b => (binE C G op t a b).map .set
    | _, _ => none
  | .unOp op _ x => match opnd look x with
    | some a => (unE G op a).map .set
    | none => none
  | .convert s d x => match opnd look x with
    | some a => (cvtE C s d a).map .set
    | none => none
  | .fieldAddr t x k => match opndP look x, C.fld t k with
    | some (y, off), some d => if off + d < big then some (.set (.ptr y (off + d))) else none
    | _, _ => none
  | .field t x k => (fieldE C look t x k).map .set
  | .indexAddr t x i => (idxE C look t x i).map fun p => .set (.ptr p.1 p.2)
  | .index t x i => match opnd look x, opnd look i with
    | some (.val true cs), some (.val false [.n _ ti]) => match ti.cl, C.arr t with
      | some z, some (len, e) => match C.ag e with
        | some (b, size) => if decide (0 ≤ z) && decide (z < (len : Int)) then (partV cs (z.toNat * size) b size).map .set else none
        | none => none
      | _, _ => none
    | _, _ => none
  | .extract x i => match opnd look x with
    | some (.tup l) => match l[i]? with
      | some p => some (.set (.val p.1 p.2))
      | none => none
    | _ => none
  | .call c => (callE C G look var c).map .set
  | _ => none

section
variable {P : Program} {E : Env} {β : Nat → Nat} {B : Nat} {w : World} {a : Act} {G : Asm} {C : Cfg} {look : Nat → Option AV} {var : Nat → Option (List Chunk)}
theorem wrE_nptr {k : IntKind} {t : IT} {x off : Nat} (h : wrE k t = some (.ptr x off)) : False := by
  unfold wrE at h
  obtain ⟨_, _, h⟩ := Option.map_eq_some_iff.1 h
  cases h
theorem arE_nptr {op : BinOp} {k : IntKind} {s t : IT} {x off : Nat} (h : arE op k s t = some (.ptr x off)) : False := by
  unfold arE at h
  split at h
  · exact wrE_nptr h
  · exact wrE_nptr h
  · exact wrE_nptr h
  · split at h <;> cases h
  · split at h
    · split at h <;> cases h
    · cases h
  · split at h
    · split at h
      · cases h
      · exact wrE_nptr h
    · cases h
  · cases h
theorem shE_nptr {op : BinOp} {k : IntKind} {s t : IT} {x off : Nat} (h : shE op k s t = some (.ptr x off)) : False := by
  unfold shE at h
  split at h
  · split at h
    · split at h
      · exact wrE_nptr h
      · cases h
      · cases h
    · cases h
  · cases h
theorem num_holds {k : IntKind} {t : IT} {z : Int} (h : t.den E = z) : (AV.val false [.n k t]).holds E β w (.int k z) :=
  ⟨⟨[.int k z], [], rfl, (by show [Value.int k z] = [.int k (t.den E)]; rw [h]), rfl⟩, rfl⟩
theorem wrE_spec {k : IntKind} {t : IT} {z : AV} (h : wrE k t = some z) : z.holds E β w (.int k (k.wrap (t.den E))) := by
  unfold wrE at h
  obtain ⟨f, hf, rfl⟩ := Option.map_eq_some_iff.1 h
  refine num_holds ?_
  rw [IT.fold_den]
  exact wrF_spec hf _
theorem arE_sound {op : BinOp} {k : IntKind} {s r : IT} {z : AV} (t : TypeId) (h : arE op k s r = some z) : ∃ v, (binOp op t (.int k (s.den E)) (.int k (r.den E))).run P w = .ok v w ∧ z.holds E β w v := by
  unfold arE at h
  split at h
  · exact ⟨_, by simp [binOp, Op.intArith]; rfl, wrE_spec h⟩
  · exact ⟨_, by simp [binOp, Op.intArith]; rfl, wrE_spec h⟩
  · exact ⟨_, by simp [binOp, Op.intArith]; rfl, wrE_spec h⟩
  · split at h
    · rename_i hk
      subst hk
      injection h with h
      subst h
      exact ⟨.int .u64 (IntKind.u64.wrap ((BitVec.ofInt 64 (s.den E) ||| BitVec.ofInt 64 (r.den E)).toNat : Int)), by simp [binOp]; rfl, num_holds (by rw [IT.fold_den]; rfl)⟩
    · cases h
  · split at h
    · rename_i c hc
      split at h
      · cases h
      · rename_i hz
        injection h with h
        subst h
        have hcv := IT.cl_spec (E := E) hc
        exact ⟨.int k ((s.den E).tmod c), by simp [binOp, Op.intDiv, hcv, hz], num_holds (by rw [IT.fold_den]; rfl)⟩
    · cases h
  · split at h
    · rename_i c hc
      split at h
      · cases h
      · rename_i hz
        have hcv := IT.cl_spec (E := E) hc
        exact ⟨.int k (k.wrap ((s.den E).tdiv c)), by simp [binOp, Op.intDiv, hcv, hz], wrE_spec h⟩
    · cases h
  · cases h
theorem shE_sound {op : BinOp} {k k' : IntKind} {s r : IT} {z : AV} (t : TypeId) (h : shE op k s r = some z) : ∃ v, (binOp op t (.int k (s.den E)) (.int k' (r.den E))).run P w = .ok v w ∧ z.holds E β w v := by
  unfold shE at h
  split at h
  · rename_i c hc
    split at h
    · rename_i hb
      simp only [Bool.and_eq_true, decide_eq_true_iff] at hb
      obtain ⟨b1, b2⟩ := hb
      have hcv := IT.cl_spec (E := E) hc
      have hmin : min c.toNat k.bits = c.toNat := by omega
      split at h
      · refine ⟨_, ?_, wrE_spec h⟩
        show (Op.shift .shl k (s.den E) k' (r.den E)).run P w = _
        rw [hcv]
        unfold Op.shift
        rw [if_neg (by omega)]
        simp only [hmin]
        rfl
      · injection h with h
        subst h
        refine ⟨.int k ((s.den E).fdiv (2 ^ c.toNat)), ?_, num_holds (by rw [IT.fold_den]; rfl)⟩
        show (Op.shift .shr k (s.den E) k' (r.den E)).run P w = _
        rw [hcv]
        unfold Op.shift
        rw [if_neg (by omega)]
        simp only [hmin]
        rfl
      · cases h
    · cases h
  · cases h
theorem wp_value {o : Oper} {K : Act → World → Prop} {Q : Exit → Act → World → Prop} {s : Sem Value} {v : Value} {w' : World} (he : execOp a.eval o = (do pure (.value (← s)))) (hr : s.run P w = .ok v w') (h : K (a.put o.dst v) w') : Oper.wp P o a w K Q := by
  unfold Oper.wp
  rw [he]
  simp only [Sem.run_bind, hr, Result.andThen_ok, Sem.run_pure, Oper.upon_value]
  exact h
theorem wp_unit {o : Oper} {K : Act → World → Prop} {Q : Exit → Act → World → Prop} {s : Sem Unit} {w' : World} (he : execOp a.eval o = (do s; pure .skip)) (hr : s.run P w = .ok () w') (h : K (a.put o.dst undef) w') : Oper.wp P o a w K Q := by
  unfold Oper.wp
  rw [he]
  simp only [Sem.run_bind, hr, Result.andThen_ok, Sem.run_pure, Oper.upon_skip]
  exact h
theorem opnds_spec (hl : ∀ t x, look t = some x → x.holds E β w (a.tmps.getD t Go.undef)) : ∀ {os : List Operand} {xs : List AV}, opnds look os = some xs →
    (∀ (i : Nat) (x : AV), xs[i]? = some x → ∃ v, (os.map a.eval)[i]? = some v ∧ x.holds E β w v) ∧ (os.map a.eval).length = xs.length
  | [], _, h => by simp only [opnds] at h; injection h with h; subst h; simp
  | o :: os, _, h => by
    unfold opnds at h
    split at h
    · rename_i x xs h1 h2
      injection h with h
      subst h
      obtain ⟨k1, k2⟩ := opnds_spec hl h2
      refine ⟨fun i y hy => ?_, by simp [← k2]⟩
      match i, hy with
      | 0, hy => injection hy with hy; subst hy; exact ⟨_, rfl, z13q hl h1⟩
      | i + 1, hy => exact k1 i y hy
    · cases h

theorem sizes_append (ds rest : List Chunk) : sizes (ds ++ rest) = sizes ds + sizes rest := by
  induction ds with
  | nil => simp [sizes]
  | cons c ds ih => simp only [List.cons_append, sizes, ih]; omega
theorem foldl_set (off : Nat) : ∀ (l : List Value) (k : Nat) (A R : List Value), A.length = off + k → l.length ≤ R.length →
    (l.zipIdx k).foldl (fun (cs : Array Value) p => cs.setIfInBounds (off + p.2) p.1) (A ++ R).toArray = (A ++ l ++ R.drop l.length).toArray
  | [], k, A, R, _, _ => by simp
  | v :: l, k, A, R, h, hl => by
    match R, hl with
    | r :: R, hl =>
      rw [List.zipIdx_cons, List.foldl_cons]
      have e : ((A ++ r :: R).toArray.setIfInBounds (off + k) v) = ((A ++ [v]) ++ R).toArray := by
        simp [h]
      rw [e, foldl_set off l (k + 1) (A ++ [v]) R (by simp; omega) (by simpa using hl)]
      simp
theorem fill_seq (place : Nat → Option (Nat × Nat)) (hl : ∀ t x, look t = some x → x.holds E β w (a.tmps.getD t Go.undef)) : ∀ (ps : List (Nat × Operand)) (fs : List (Nat × Nat)) (k : Nat) (A R : List Value) (cs : List Chunk),
    partsE look ps fs k A.length = some cs → (∀ i p, fs[i]? = some p → place (k + i) = some p) → R.length = sizes cs →
    ∃ us, chunks E w cs us ∧ Instr.fill place (A ++ R).toArray (ps.map fun p => (p.1, a.eval p.2)) = some (A ++ us).toArray
  | [], [], k, A, R, cs, h, _, hR => by
    simp only [partsE] at h
    injection h with h
    subst h
    simp only [sizes, List.length_eq_zero_iff] at hR
    subst hR
    exact ⟨[], rfl, rfl⟩
  | [], _ :: _, _, _, _, _, h, _, _ => by simp [partsE] at h
  | _ :: _, [], _, _, _, _, h, _, _ => by simp [partsE] at h
  | (i, x) :: ps, (off, size) :: fs, k, A, R, cs, h, hp, hR => by
    unfold partsE at h
    split at h
    · rename_i bb ds hx
      split at h
      · rename_i hcond
        simp only [Bool.and_eq_true, beq_iff_eq] at hcond
        obtain ⟨rfl, rfl, rfl⟩ := hcond
        obtain ⟨rest, hrest, rfl⟩ := Option.map_eq_some_iff.1 h
        have hv := z13q (E := E) (β := β) (w := w) hl hx
        obtain ⟨us, hus⟩ : ∃ us, us = (a.eval x).cells.toList := ⟨_, rfl⟩
        have hc := one_cells hv
        rw [← hus] at hc
        have hul : us.length = sizes ds := chunks_len hc
        have hsz : (a.eval x).cells.size = sizes ds := by rw [← hul, hus]; simp
        have hsum := sizes_append ds rest
        rw [hsum] at hR
        have hpl := hp 0 _ rfl
        rw [Nat.add_zero] at hpl
        obtain ⟨vs, h1, h2⟩ := fill_seq place hl ps fs (i + 1) (A ++ us) (R.drop us.length) rest (by rw [List.length_append, hul]; exact hrest) (fun j p hj => by
          have := hp (j + 1) p (by simpa using hj)
          rwa [show i + (j + 1) = i + 1 + j by omega] at this) (by rw [List.length_drop]; omega)
        refine ⟨us ++ vs, chunks_append hc h1, ?_⟩
        rw [List.map_cons]
        unfold Instr.fill
        simp only [hpl]
        have hcond : (decide ((a.eval x).cells.size ≠ sizes ds) || decide (A.length + (a.eval x).cells.size > (A ++ R).toArray.size)) = false := by
          rw [hsz]
          simp
          omega
        simp only [hcond, Bool.false_eq_true, if_false]
        rw [← Array.foldl_toList, Array.toList_zipIdx, ← hus, foldl_set A.length us 0 A R (by omega) (by omega)]
        rw [h2, List.append_assoc]
      · cases h
    · cases h

theorem fill_seqZ (place : Nat → Option (Nat × Nat)) (hl : ∀ t x, look t = some x → x.holds E β w (a.tmps.getD t Go.undef)) : ∀ (fs : List (Nat × Nat)) (ps : List (Nat × Operand)) (zs : List Chunk) (k : Nat) (A R : List Value) (cs : List Chunk),
    partsZ look fs ps zs k A.length = some cs → (∀ i p, fs[i]? = some p → place (k + i) = some p) → chunks E w zs R →
    ∃ us, chunks E w cs us ∧ Instr.fill place (A ++ R).toArray (ps.map fun p => (p.1, a.eval p.2)) = some (A ++ us).toArray := by
  intro fs
  induction fs with
  | nil =>
    intro ps zs k A R cs h hp hR
    cases ps with
    | nil =>
      simp only [partsZ] at h
      injection h with h
      subst h
      exact ⟨R, hR, rfl⟩
    | cons p ps => simp [partsZ] at h
  | cons f fs ih =>
    obtain ⟨off, size⟩ := f
    intro ps zs k A R cs h hp hR
    cases ps with
    | nil =>
      simp only [partsZ] at h
      injection h with h
      subst h
      exact ⟨R, hR, rfl⟩
    | cons p ps =>
      obtain ⟨i, x⟩ := p
      simp only [partsZ] at h
      split at h
      · rename_i zl zr hsp
        obtain ⟨hzs, hsz, hzl, hzr⟩ := splitC_spec zs size zl zr R hsp hR
        have hlen := chunks_len hR
        have hsum := sizes_append zl zr
        rw [← hzs, hsz] at hsum
        have htake : (R.take size).length = size := by rw [List.length_take]; omega
        have hpl := hp 0 _ rfl
        rw [Nat.add_zero] at hpl
        have hp' : ∀ j p, fs[j]? = some p → place (k + 1 + j) = some p := fun j p hj => by
          have := hp (j + 1) p (by simpa using hj)
          rwa [show k + (j + 1) = k + 1 + j by omega] at this
        split at h
        · rename_i hik
          rw [beq_iff_eq] at hik
          subst hik
          split at h
          · rename_i bb ds hx
            split at h
            · rename_i hcond
              simp only [Bool.and_eq_true, beq_iff_eq] at hcond
              obtain ⟨rfl, hsd⟩ := hcond
              obtain ⟨rest, hrest, rfl⟩ := Option.map_eq_some_iff.1 h
              have hv := z13q (E := E) (β := β) (w := w) hl hx
              obtain ⟨us, hus⟩ : ∃ us, us = (a.eval x).cells.toList := ⟨_, rfl⟩
              have hc := one_cells hv
              rw [← hus] at hc
              have hul : us.length = sizes ds := chunks_len hc
              have hsz2 : (a.eval x).cells.size = sizes ds := by rw [← hul, hus]; simp
              obtain ⟨vs, h1, h2⟩ := ih ps zr (i + 1) (A ++ us) (R.drop size) rest (by rw [List.length_append, hul, ← hsd]; exact hrest) hp' hzr
              refine ⟨us ++ vs, chunks_append hc h1, ?_⟩
              rw [List.map_cons]
              unfold Instr.fill
              simp only [hpl]
              have hcond : (decide ((a.eval x).cells.size ≠ size) || decide (A.length + (a.eval x).cells.size > (A ++ R).toArray.size)) = false := by
                rw [hsz2, hsd]
                simp
                omega
              simp only [hcond, Bool.false_eq_true, if_false]
              rw [← Array.foldl_toList, Array.toList_zipIdx, ← hus, foldl_set A.length us 0 A R (by omega) (by omega)]
              rw [show us.length = size by rw [hul, hsd], h2, List.append_assoc]
            · cases h
          · cases h
        · obtain ⟨rest, hrest, rfl⟩ := Option.map_eq_some_iff.1 h
          obtain ⟨vs, h1, h2⟩ := ih ((i, x) :: ps) zr (k + 1) (A ++ R.take size) (R.drop size) rest (by rw [List.length_append, htake]; exact hrest) hp' hzr
          refine ⟨R.take size ++ vs, chunks_append hzl h1, ?_⟩
          rw [List.append_assoc, List.take_append_drop, List.append_assoc] at h2
          exact h2
      · cases h
set_option maxHeartbeats 1000000 in
theorem pv_lt {b off : Nat} (h : off < big) : pv b off = .pointer (some ⟨b, off, none⟩) := if_pos h
theorem opndP_spec (hl : ∀ t x, look t = some x → x.holds E β w (a.tmps.getD t Go.undef)) {x : Operand} {y off : Nat} (h : opndP look x = some (y, off)) : a.eval x = .pointer (some ⟨β y, off, none⟩) ∧ opnd look x = some (.ptr y off) := by
  unfold opndP at h
  split at h
  · rename_i y' off' hx
    split at h
    · rename_i hlt
      injection h with h
      injection h with h1 h2
      subst h1 h2
      have := z13q (E := E) (β := β) (w := w) hl hx
      exact ⟨Eq.trans (AV.pv_of (E := E) (β := β) (w := w) this (big_lt hlt)) (pv_lt hlt), hx⟩
    · cases h
  · cases h
theorem places_get {size len i : Nat} {p : Nat × Nat} (h : (places size len)[i]? = some p) : p = (i * size, size) := by
  unfold places at h
  rw [List.getElem?_map] at h
  obtain ⟨j, hj, rfl⟩ := Option.map_eq_some_iff.1 h
  obtain ⟨hlt, e⟩ := List.getElem?_eq_some_iff.1 hj
  rw [List.getElem_range] at e
  rw [e]
theorem idxE_sound (hC : CfgOK P E C) (hl : ∀ t x, look t = some x → x.holds E β w (a.tmps.getD t Go.undef)) {t : TypeId} {x i : Operand} {y off : Nat} (h : idxE C look t x i = some (y, off)) :
    off < big ∧ (Instr.indexAt t (a.eval x) (a.eval i)).run P w = .ok (.pointer (some ⟨β y, off, none⟩)) w ∧ ∃ off', opnd look x = some (.ptr y off') := by
  unfold idxE at h
  split at h
  · rename_i k ti hi
    obtain ⟨⟨l1, r1, h1, h2, h3⟩, _⟩ := z13q (E := E) (β := β) (w := w) hl hi
    simp only [Chunk.holds] at h2
    simp only [chunks] at h3
    subst h2 h3
    injection h1 with h1
    split at h
    · rename_i z hz
      rw [IT.cl_spec hz] at h1
      split at h
      · rename_i e he
        split at h
        · rename_i y' off' bb size hx ha
          split at h
          · rename_i hb2
            have hb2' : off' < big2 := of_decide_eq_true hb2
            split at h
            · rename_i hb
              simp only [Bool.and_eq_true, decide_eq_true_iff] at hb
              obtain ⟨b1, b2, b3, b4⟩ := hb
              injection h with h
              injection h with e1 e2
              subst e1 e2
              obtain ⟨_, hso, _⟩ := hC.ag e bb size ha w
              have hxv : a.eval x = .slice (some ⟨β y', 0, none⟩) (off' - big) (off' - big) := by
                have := z13q (E := E) (β := β) (w := w) hl hx
                refine Eq.trans (AV.pv_of (E := E) (β := β) (w := w) this hb2') ?_
                unfold pv
                rw [if_neg (by omega)]
              refine ⟨b4, ?_, off', hx⟩
              rw [hxv, h1]
              unfold Instr.indexAt
              have hlt : (0 : Int) ≤ z ∧ z < ((off' - big : Nat) : Int) := ⟨b2, b3⟩
              simp only [asIntOf, Sem.run_bind, Sem.run_pure, Result.andThen_ok, run_underlying (hC.row t e he), if_pos hlt, hso, add_addr, Nat.zero_add]
            · cases h
          · rename_i hb2
            have hb2' : big2 ≤ off' := by
              have := of_decide_eq_false (Bool.eq_false_iff.2 hb2)
              omega
            split at h
            · rename_i hb
              simp only [Bool.and_eq_true, decide_eq_true_iff] at hb
              obtain ⟨b2, b3, b4⟩ := hb
              injection h with h
              injection h with e1 e2
              subst e1 e2
              obtain ⟨_, hso, _⟩ := hC.ag e bb size ha w
              have hxv : a.eval x = .slice (some ⟨β y', 0, none⟩) (off' - big2) ((E.r 1000003).2.headD 0) := (AV.opn_of (E := E) (β := β) (w := w) (z13q (E := E) (β := β) (w := w) hl hx) hb2').1
              refine ⟨b4, ?_, off', hx⟩
              rw [hxv, h1]
              unfold Instr.indexAt
              have hlt : (0 : Int) ≤ z ∧ z < ((off' - big2 : Nat) : Int) := ⟨b2, b3⟩
              simp only [asIntOf, Sem.run_bind, Sem.run_pure, Result.andThen_ok, run_underlying (hC.row t e he), if_pos hlt, hso, add_addr, Nat.zero_add]
            · cases h
        · cases h
      · split at h
        · rename_i len e he
          split at h
          · rename_i y' off' bb size hx ha
            split at h
            · rename_i hb
              simp only [Bool.and_eq_true, decide_eq_true_iff] at hb
              obtain ⟨b1, b2, b3⟩ := hb
              injection h with h
              injection h with e1 e2
              subst e1 e2
              obtain ⟨_, hso, _⟩ := hC.ag e bb size ha w
              obtain ⟨hxv, hx2⟩ := opndP_spec (E := E) (β := β) (w := w) hl hx
              refine ⟨b3, ?_, off', hx2⟩
              rw [hxv, h1]
              unfold Instr.indexAt
              have hlt : (0 : Int) ≤ z ∧ z < (len : Int) := ⟨b1, b2⟩
              simp only [asIntOf, Sem.run_bind, Sem.run_pure, Result.andThen_ok, run_underlying (hC.arr t len e he), Instr.sureAddr, if_pos hlt, hso, add_addr]
            · cases h
          · cases h
        · cases h
    · cases h
  · cases h
theorem mmE_spec (hl : ∀ t x, look t = some x → x.holds E β w (a.tmps.getD t Go.undef)) {f : Nat} {args : Array Operand} {r : AV} (h : mmE f look args.toList = some r) :
    ∃ x y k s t, args = #[x, y] ∧ a.eval x = .int k (s.den E) ∧ a.eval y = .int k (t.den E) ∧ r = .val false [.n k (IT.a2 f s t).fold] := by
  obtain ⟨os, hos⟩ : ∃ os, os = args.toList := ⟨_, rfl⟩
  rw [← hos] at h
  unfold mmE at h
  split at h
  · rename_i x y
    split at h
    · rename_i k s k' t hx hy
      split at h
      · rename_i hk
        subst hk
        injection h with h
        obtain ⟨⟨l1, r1, h1, h2, h3⟩, _⟩ := z13q (E := E) (β := β) (w := w) hl hx
        simp only [Chunk.holds] at h2
        simp only [chunks] at h3
        subst h2 h3
        injection h1 with h1
        obtain ⟨⟨l2, r2, j1, j2, j3⟩, _⟩ := z13q (E := E) (β := β) (w := w) hl hy
        simp only [Chunk.holds] at j2
        simp only [chunks] at j3
        subst j2 j3
        injection j1 with j1
        exact ⟨x, y, k, s, t, by apply Array.toList_inj.1; simpa using hos.symm, h1, j1, h.symm⟩
      · cases h
    · cases h
  · cases h
theorem opE_sound (hC : CfgOK P E C) (hwk : C.wok w) (hG : G.holds E) (hl : ∀ t x, look t = some x → x.holds E β w (a.tmps.getD t Go.undef)) (hv : ∀ x cs, var x = some cs → (x < ro → B ≤ β x) ∧ VarAt E w (β x) cs)
    {o : Oper} {eff : Eff} (h : opE C G look var o.op = some eff) (K : Act → World → Prop) (Q : Exit → Act → World → Prop) (hro : ∀ x cs, eff = .put x cs → x < ro)
    (hset : ∀ x v w', eff = .set x → x.holds E β w' v → Ext w w' → K (a.put o.dst v) w')
    (hnew : ∀ t cs vs off, eff = .new t cs off → off < big2 → chunks E w cs vs → K (a.put o.dst (pv w.heap.size off)) (w.alloc (.cells vs.toArray t)))
    (hput : ∀ x cs w', eff = .put x cs → Kp B w w' → (∀ p : Addr, p.block ≠ β x → w'.cell? p = w.cell? p) → (∀ p, w'.frozen? p = w.frozen? p) → w'.heap.size = w.heap.size → VarAt E w' (β x) cs → K (a.put o.dst undef) w') :
    Oper.wp P o a w K Q := by
  obtain ⟨dst, op, ty, pos, after, guard⟩ := o
  cases op with
  | move x =>
    simp only [opE] at h
    obtain ⟨y, hy, rfl⟩ := Option.map_eq_some_iff.1 h
    exact hset _ _ _ rfl (z13q hl hy) (Ext.refl w)
  | assign x =>
    simp only [opE] at h
    obtain ⟨y, hy, rfl⟩ := Option.map_eq_some_iff.1 h
    exact hset _ _ _ rfl (z13q hl hy) (Ext.refl w)
  | pick c x y =>
    simp only [opE] at h
    split at h
    · rename_i t hc
      have hcv := z13q (E := E) (β := β) (w := w) hl hc
      obtain ⟨⟨l, r, h1, h2, h3⟩, _⟩ := hcv
      simp only [Chunk.holds] at h2
      simp only [chunks] at h3
      subst h2 h3
      injection h1 with h1
      have hrun : ∀ b, t.den E = b → execOp a.eval ⟨dst, .pick c x y, ty, pos, after, guard⟩ = (do pure (.value (if ← asBool (.bool b) then a.eval x else a.eval y))) := by
        intro b hb
        simp only [execOp, h1, hb]
      split at h
      · rename_i ht
        obtain ⟨z, hz, rfl⟩ := Option.map_eq_some_iff.1 h
        unfold Oper.wp
        rw [hrun true (BT.ev_spec hG ht)]
        simp [asBool]
        exact hset _ _ _ rfl (z13q hl hz) (Ext.refl w)
      · rename_i ht
        obtain ⟨z, hz, rfl⟩ := Option.map_eq_some_iff.1 h
        unfold Oper.wp
        rw [hrun false (BT.ev_spec hG ht)]
        simp [asBool]
        exact hset _ _ _ rfl (z13q hl hz) (Ext.refl w)
      · cases h
    · cases h
  | alloc t =>
    simp only [opE] at h
    obtain ⟨cs, hz, rfl⟩ := Option.map_eq_some_iff.1 h
    obtain ⟨z, h1, h2⟩ := hC.zero t cs hz w
    refine wp_value (s := Instr.alloc t true (.tuple #[])) rfl (v := .pointer (some ⟨w.heap.size, 0, none⟩)) (w' := w.alloc (.cells z.cells t)) ?_ ?_
    · simp [Instr.alloc, h1, newVar, newRow, newObj]; rfl
    · have := hnew t cs _ 0 rfl (by decide) h2
      simpa [pv, big] using this
  | box t x =>
    simp only [opE] at h
    split at h
    · rename_i bb cs hx
      injection h with h
      subst h
      have h2 := one_cells (z13q (E := E) (β := β) (w := w) hl hx)
      refine wp_value (s := Instr.box t (a.eval x)) rfl (v := .pointer (some ⟨w.heap.size, 0, none⟩)) (w' := w.alloc (.cells (a.eval x).cells t)) ?_ ?_
      · simp [Instr.box, newVar, newRow, newObj]; rfl
      · have := hnew t cs _ 0 rfl (by decide) h2
        simpa [pv, big] using this
    · cases h
  | buildSlice t len parts =>
    simp only [opE] at h
    split at h
    · rename_i e he
      split at h
      · rename_i zs bb size hz ha
        split at h
        · rename_i cs hp
          split at h
          · rename_i hsz
            injection h with h
            subst h
            simp only [Bool.and_eq_true, beq_iff_eq, decide_eq_true_iff, Bool.not_eq_true', beq_eq_false_iff_ne] at hsz
            obtain ⟨s1, s2, s3, s4⟩ := hsz
            obtain ⟨z, hz1, hz2⟩ := hC.zero e zs hz w
            obtain ⟨_, hso, _⟩ := hC.ag e bb size ha w
            obtain ⟨us, h1, h2⟩ := fill_seq (E := E) (β := β) (w := w) (a := a) (fun i => some (i * size, size)) hl parts.toList (places size len) 0 [] ((Array.range (len * size)).map (z.cells[· % z.cells.size]!)).toList cs hp (fun i p hi => by rw [places_get hi, Nat.zero_add]) (by simp [s1])
            refine wp_value (s := Instr.buildSlice t len (Array.map (fun (p : Nat × Operand) => (p.1, a.eval p.2)) parts)) rfl (v := .slice (some ⟨w.heap.size, 0, none⟩) len len) (w' := w.alloc (.cells us.toArray e)) ?_ ?_
            · unfold Instr.buildSlice
              have s2' : ¬ len * size > 2 ^ 24 := by omega
              simp only [Sem.run_bind, run_underlying (hC.row t e he), Result.andThen_ok, hso, if_neg s2', if_neg s3, hz1, Sem.run_pure]
              rw [Array.toList_map]
              simp only [List.nil_append, Array.toArray_toList] at h2
              rw [h2]
              simp [newRow, newObj]
              rfl
            · have hlen : len ≤ 1000 := by
                rcases Nat.eq_zero_or_pos size with e0 | e0
                · exact absurd (by rw [e0, Nat.mul_zero]) s3
                · exact Nat.le_trans (Nat.le_mul_of_pos_right _ e0) s2
              have := hnew e cs us (big + len) rfl (by unfold big big2; omega) h1
              rw [show pv w.heap.size (big + len) = .slice (some ⟨w.heap.size, 0, none⟩) len len from by unfold pv; rw [if_neg (by omega), Nat.add_sub_cancel_left]] at this
              exact this
          · cases h
        · cases h
      · cases h
    · cases h
  | build t parts =>
    simp only [opE] at h
    split at h
    · rename_i fs zs hf hz
      obtain ⟨z, hz1, hz2⟩ := hC.zero t zs hz w
      obtain ⟨fields, hu, hm⟩ := hC.flds t fs hf
      have hrun : ∀ us, Instr.fill (fs.toArray[·]?) z.cells ((parts.map fun (p : Nat × Operand) => (p.1, a.eval p.2)).toList) = some us → (Instr.build t (parts.map fun (i, x) => (i, a.eval x))).run P w = .ok (.agg us) w := by
        intro us hus
        unfold Instr.build
        simp only [Sem.run_bind, hz1, Result.andThen_ok, run_underlying hu, hm w]
        rw [hus]
        simp
      split at h
      · rename_i hemp
        injection h with h
        subst h
        have he : parts = #[] := by simpa using hemp
        subst he
        refine wp_value (s := Instr.build t (Array.map (fun (p : Nat × Operand) => (p.1, a.eval p.2)) #[])) rfl (hrun z.cells (by simp [Instr.fill])) ?_
        exact hset _ _ _ rfl ⟨z.cells.toList, by simp, hz2⟩ (Ext.refl w)
      · split at h
        · rename_i cs hp
          split at h
          · rename_i hsz
            injection h with h
            subst h
            rw [beq_iff_eq] at hsz
            obtain ⟨us, h1, h2⟩ : ∃ us, chunks E w cs us ∧ Instr.fill (fun i => fs.toArray[i]?) ([] ++ z.cells.toList).toArray (parts.toList.map fun p => (p.1, a.eval p.2)) = some ([] ++ us).toArray := by
              unfold partsB at hp
              split at hp
              · rename_i cs' hp'
                injection hp with hp
                subst hp
                exact fill_seq (E := E) (β := β) (w := w) (a := a) (fun i => fs.toArray[i]?) hl parts.toList fs 0 [] z.cells.toList _ hp' (fun i p hi => by rw [Nat.zero_add]; simpa using hi) (by rw [chunks_len hz2, hsz])
              · exact fill_seqZ (E := E) (β := β) (w := w) (a := a) (fun i => fs.toArray[i]?) hl fs parts.toList zs 0 [] z.cells.toList cs hp (fun i p hi => by rw [Nat.zero_add]; simpa using hi) hz2
            refine wp_value (s := Instr.build t (Array.map (fun (p : Nat × Operand) => (p.1, a.eval p.2)) parts)) rfl (hrun us.toArray ?_) ?_
            · rw [Array.toList_map]
              simpa using h2
            · exact hset _ _ _ rfl ⟨us, rfl, fuse_spec h1⟩ (Ext.refl w)
          · cases h
        · cases h
    · rename_i zs hf hz
      obtain ⟨z, hz1, hz2⟩ := hC.zero t zs hz w
      split at h
      · rename_i len e he
        split at h
        · rename_i bb size ha
          obtain ⟨_, hso, _⟩ := hC.ag e bb size ha w
          split at h
          · rename_i cs hp
            split at h
            · rename_i hsz
              injection h with h
              subst h
              rw [beq_iff_eq] at hsz
              obtain ⟨us, h1, h2⟩ : ∃ us, chunks E w cs us ∧ Instr.fill (fun i => some (i * size, size)) ([] ++ z.cells.toList).toArray (parts.toList.map fun p => (p.1, a.eval p.2)) = some ([] ++ us).toArray := by
                unfold partsB at hp
                split at hp
                · rename_i cs' hp'
                  injection hp with hp
                  subst hp
                  exact fill_seq (E := E) (β := β) (w := w) (a := a) (fun i => some (i * size, size)) hl parts.toList (places size len) 0 [] z.cells.toList _ hp' (fun i p hi => by rw [places_get hi, Nat.zero_add]) (by rw [chunks_len hz2, hsz])
                · exact fill_seqZ (E := E) (β := β) (w := w) (a := a) (fun i => some (i * size, size)) hl (places size len) parts.toList zs 0 [] z.cells.toList cs hp (fun i p hi => by rw [places_get hi, Nat.zero_add]) hz2
              refine wp_value (s := Instr.build t (Array.map (fun (p : Nat × Operand) => (p.1, a.eval p.2)) parts)) rfl (v := .agg us.toArray) (w' := w) ?_ ?_
              · unfold Instr.build
                simp only [Sem.run_bind, hz1, Result.andThen_ok, run_underlying (hC.arr t len e he), hso]
                rw [Array.toList_map]
                simp only [List.nil_append, Array.toArray_toList] at h2
                rw [h2]
                simp
              · exact hset _ _ _ rfl ⟨us, rfl, h1⟩ (Ext.refl w)
            · cases h
          · cases h
        · cases h
      · cases h
    · cases h
  | load t x =>
    simp only [opE] at h
    split at h
    · rename_i y off hx
      split at h
      · rename_i cs hy
        obtain ⟨z, hz, rfl⟩ := Option.map_eq_some_iff.1 h
        have he : a.eval x = .pointer (some ⟨β y, off, none⟩) := (opndP_spec (E := E) (β := β) (w := w) hl hx).1
        obtain ⟨v, k1, k2⟩ := loadE_sound (β := β) hC hz (hv y cs hy).2
        refine wp_value (s := Instr.loadAt t (a.eval x)) rfl (by rw [he]; exact k1) ?_
        exact hset _ _ _ rfl k2 (Ext.refl w)
      · cases h
    · cases h
  | store t x y =>
    simp only [opE] at h
    split at h
    · rename_i z off bb cs hx hy
      split at h
      · rename_i cx hz
        obtain ⟨c2, hc2, rfl⟩ := Option.map_eq_some_iff.1 h
        have he : a.eval x = .pointer (some ⟨β z, off, none⟩) := (opndP_spec (E := E) (β := β) (w := w) hl hx).1
        obtain ⟨hB, hva⟩ := hv z cx hz
        obtain ⟨w', k1, k2, k3, k4, k5, k6⟩ := storeE_sound hC hc2 hva (z13q (E := E) (β := β) (w := w) hl hy) (hB (hro _ _ rfl))
        refine wp_unit (s := Instr.storeAt t (a.eval x) (a.eval y)) rfl (by rw [he]; exact k1) ?_
        exact hput _ _ _ rfl k2 k3 k4 k5 k6
      · cases h
    · cases h
  | binOp op t x y ty2 =>
    simp only [opE] at h
    split at h
    · rename_i u v hx hy
      obtain ⟨z, hz, rfl⟩ := Option.map_eq_some_iff.1 h
      have hxv := z13q (E := E) (β := β) (w := w) hl hx
      have hyv := z13q (E := E) (β := β) (w := w) hl hy
      unfold binE at hz
      split at hz
      · rename_i s l r m
        obtain ⟨⟨l1, r1, h1, ⟨h2, h4⟩, h3⟩, _⟩ := hxv
        simp only [chunks] at h3
        subst h2 h3
        injection h1 with h1
        obtain ⟨⟨l2, r2, j1, ⟨j2, j4⟩, j3⟩, _⟩ := hyv
        simp only [chunks] at j3
        subst j2 j3
        injection j1 with j1
        have hg : ∀ (o : BinOp) (x' y' : ByteArray), o = .eql ∨ o = .neq ∨ o = .add → eqGuard o t x y (.string x') (.string y') = pure () := by
          rintro o x' y' (rfl | rfl | rfl) <;> rfl
        split at hz
        · injection hz with hz
          subst hz
          refine wp_value (s := (do eqGuard .eql t x y (a.eval x) (a.eval y); binOp .eql t (a.eval x) (a.eval y))) rfl (v := .bool (s.den E == r.den E)) (w' := w) ?_ (hset _ _ _ rfl ⟨⟨[_], [], rfl, ?_, rfl⟩, rfl⟩ (Ext.refl w))
          · rw [h1, j1, hg _ _ _ (.inl rfl), binOp_string_eql, ByteArray.toList_mk, ByteArray.toList_mk]
            rfl
          · show [Value.bool _] = [.bool _]
            rw [BT.norm_den hG]; rfl
        · injection hz with hz
          subst hz
          refine wp_value (s := (do eqGuard .neq t x y (a.eval x) (a.eval y); binOp .neq t (a.eval x) (a.eval y))) rfl (v := .bool (!(s.den E == r.den E))) (w' := w) ?_ (hset _ _ _ rfl ⟨⟨[_], [], rfl, ?_, rfl⟩, rfl⟩ (Ext.refl w))
          · rw [h1, j1, hg _ _ _ (.inr (.inl rfl)), binOp_string_neq, ByteArray.toList_mk, ByteArray.toList_mk]
            rfl
          · show [Value.bool _] = [.bool _]
            rw [BT.norm_den hG]; rfl
        · split at hz
          · rename_i hlm
            have hlm' := of_decide_eq_true hlm
            injection hz with hz
            subst hz
            refine wp_value (s := (do eqGuard .add t x y (a.eval x) (a.eval y); binOp .add t (a.eval x) (a.eval y))) rfl (v := .string ⟨(s.den E ++ r.den E).toArray⟩) (w' := w) ?_ (hset _ _ _ rfl ⟨⟨[_], [], rfl, ⟨rfl, ?_⟩, rfl⟩, rfl⟩ (Ext.refl w))
            · rw [h1, j1, hg _ _ _ (.inr (.inr rfl)), binOp_string_add]
              simp only [Sem.run_bind, Sem.run_pure, Result.andThen_ok]
              rw [run_string_add_sum _ _ _ (by show (s.den E).toArray.size + (r.den E).toArray.size ≤ _; rw [List.size_toArray, List.size_toArray]; omega)]
              congr 2
            · show (s.den E ++ r.den E).length ≤ _
              rw [List.length_append]; omega
          · cases hz
        · cases hz
      · rename_i s r
        split at hz
        · rename_i hbt
          split at hz
          · rename_i b1 b2 e1 e2
            injection hz with hz
            subst hz
            obtain ⟨⟨l1, r1, h1, h2, h3⟩, _⟩ := hxv
            simp only [Chunk.holds] at h2
            simp only [chunks] at h3
            subst h2 h3
            injection h1 with h1
            obtain ⟨⟨l2, r2, j1, j2, j3⟩, _⟩ := hyv
            simp only [Chunk.holds] at j2
            simp only [chunks] at j3
            subst j2 j3
            injection j1 with j1
            rw [BT.ev_spec hG e1] at h1
            rw [BT.ev_spec hG e2] at j1
            refine wp_value (s := (do eqGuard .neq t x y (a.eval x) (a.eval y); binOp .neq t (a.eval x) (a.eval y))) rfl (v := .bool (b1 != b2)) (w' := w) ?_ (hset _ _ _ rfl ⟨⟨_, [], rfl, rfl, rfl⟩, rfl⟩ (Ext.refl w))
            rw [h1, j1, eqGuard_at_bool]
            have := run_equalIn_bool w 9999 t b1 b2 (hC.bool t hbt)
            simp only [binOp, Op.equal, Op.maxDepth, Sem.run_bind, Sem.run_pure, Result.andThen_ok]
            rw [this]
            cases b1 <;> cases b2 <;> rfl
          · rename_i b1 b2 e1 e2
            injection hz with hz
            subst hz
            obtain ⟨⟨l1, r1, h1, h2, h3⟩, _⟩ := hxv
            simp only [Chunk.holds] at h2
            simp only [chunks] at h3
            subst h2 h3
            injection h1 with h1
            obtain ⟨⟨l2, r2, j1, j2, j3⟩, _⟩ := hyv
            simp only [Chunk.holds] at j2
            simp only [chunks] at j3
            subst j2 j3
            injection j1 with j1
            rw [BT.ev_spec hG e1] at h1
            rw [BT.ev_spec hG e2] at j1
            refine wp_value (s := (do eqGuard .eql t x y (a.eval x) (a.eval y); binOp .eql t (a.eval x) (a.eval y))) rfl (v := .bool (b1 == b2)) (w' := w) ?_ (hset _ _ _ rfl ⟨⟨_, [], rfl, rfl, rfl⟩, rfl⟩ (Ext.refl w))
            rw [h1, j1, eqGuard_at_bool]
            have := run_equalIn_bool w 9999 t b1 b2 (hC.bool t hbt)
            simp only [binOp, Op.equal, Op.maxDepth, Sem.run_bind, Sem.run_pure, Result.andThen_ok]
            rw [this]
            cases b1 <;> cases b2 <;> rfl
          · cases hz
        · cases hz
      · rename_i k s k' r
        obtain ⟨⟨l1, r1, h1, h2, h3⟩, _⟩ := hxv
        simp only [Chunk.holds] at h2
        simp only [chunks] at h3
        subst h2 h3
        injection h1 with h1
        obtain ⟨⟨l2, r2, j1, j2, j3⟩, _⟩ := hyv
        simp only [Chunk.holds] at j2
        simp only [chunks] at j3
        subst j2 j3
        injection j1 with j1
        split at hz
        · obtain ⟨v', r1, r2⟩ := shE_sound (P := P) (E := E) (β := β) (w := w) (k' := k') t hz
          refine wp_value (s := (do eqGuard op t x y (a.eval x) (a.eval y); binOp op t (a.eval x) (a.eval y))) rfl (v := v') (w' := w) ?_ (hset _ _ _ rfl r2 (Ext.refl w))
          rw [h1, j1, eqGuard_at_int]
          simpa using r1
        split at hz
        · rename_i hk
          subst hk
          have hex : ∀ z, (binOp op t (.int k (s.den E)) (.int k (r.den E))).run P w = .ok z w → K (a.put dst z) w → Oper.wp P ⟨dst, .binOp op t x y ty2, ty, pos, after, guard⟩ a w K Q := by
            intro z hr hk
            refine wp_value (s := (do eqGuard op t x y (a.eval x) (a.eval y); binOp op t (a.eval x) (a.eval y))) rfl (v := z) (w' := w) ?_ hk
            rw [h1, j1, eqGuard_at_int]
            simpa using hr
          split at hz
          · rename_i tt htt
            injection hz with hz
            subst hz
            have fin : ∀ bb, tt.den E = bb → (AV.val false [.b (tt.norm G)]).holds E β w (.bool bb) := by
              intro bb hbb
              refine ⟨⟨[.bool bb], [], rfl, ?_, rfl⟩, rfl⟩
              show [Value.bool bb] = [.bool ((tt.norm G).den E)]
              rw [BT.norm_den hG, hbb]
            cases op <;> simp only [cmpE] at htt <;> cases htt
            · exact hex (.bool (s.den E == r.den E)) (by simp [binOp_eql]) (hset _ _ _ rfl (fin _ rfl) (Ext.refl w))
            · exact hex (.bool (s.den E != r.den E)) (by simp [binOp_neq]) (hset _ _ _ rfl (fin _ rfl) (Ext.refl w))
            · exact hex (.bool (decide (s.den E < r.den E))) (by simp [binOp_lss]) (hset _ _ _ rfl (fin _ rfl) (Ext.refl w))
            · exact hex (.bool (decide (s.den E ≤ r.den E))) (by simp [binOp_leq]) (hset _ _ _ rfl (fin _ rfl) (Ext.refl w))
            · exact hex (.bool (decide (s.den E > r.den E))) (by simp [binOp_gtr]) (hset _ _ _ rfl (fin _ rfl) (Ext.refl w))
            · exact hex (.bool (decide (s.den E ≥ r.den E))) (by simp [binOp_geq]) (hset _ _ _ rfl (fin _ rfl) (Ext.refl w))
          · split at hz
            · split at hz
              · rename_i ht
                rw [Bool.and_eq_true] at ht
                injection hz with hz
                subst hz
                have b1 := tiny_spec (E := E) ht.1
                have b2 := tiny_spec (E := E) ht.2
                refine hex (.int .i64 (s.den E * r.den E)) ?_ (hset _ _ _ rfl ⟨⟨_, [], rfl, rfl, rfl⟩, rfl⟩ (Ext.refl w))
                have hb : -1000000 ≤ s.den E * r.den E ∧ s.den E * r.den E ≤ 1000000 := by
                  have := Int.natAbs_mul (s.den E) (r.den E)
                  have h3 : (s.den E).natAbs * (r.den E).natAbs ≤ 1000 * 1000 := Nat.mul_le_mul (by omega) (by omega)
                  omega
                have hw : IntKind.i64.wrap (s.den E * r.den E) = s.den E * r.den E := IntWalk.i64_in _ (by omega)
                simp [binOp, Op.intArith, hw]
              · obtain ⟨v', r1, r2⟩ := arE_sound (P := P) (E := E) (β := β) (w := w) t hz
                exact hex v' r1 (hset _ _ _ rfl r2 (Ext.refl w))
            · split at hz
              · rename_i p q hp hq
                split at hz
                · rename_i ht
                  rw [Bool.and_eq_true, decide_eq_true_iff, decide_eq_true_iff] at ht
                  injection hz with hz
                  subst hz
                  refine hex (.int .i64 (p + q)) ?_ (hset _ _ _ rfl ⟨⟨_, [], rfl, rfl, rfl⟩, rfl⟩ (Ext.refl w))
                  have hw : IntKind.i64.wrap (p + q) = p + q := IntWalk.i64_in _ (by omega)
                  rw [IT.cl_spec hp, IT.cl_spec hq]
                  simp [binOp, Op.intArith, hw]
                · obtain ⟨v', r1, r2⟩ := arE_sound (P := P) (E := E) (β := β) (w := w) t hz
                  exact hex v' r1 (hset _ _ _ rfl r2 (Ext.refl w))
              · rename_i q hp hq
                split at hz
                · rename_i ht
                  simp only [Bool.and_eq_true, beq_iff_eq] at ht
                  obtain ⟨rfl, g1, g2⟩ := ht
                  have f1 := of_decide_eq_true (Asm.find_spec hG g1)
                  have f2 := of_decide_eq_true (Asm.find_spec hG g2)
                  simp only [IT.den] at f1 f2
                  have hb := IT.cl_spec (E := E) hq
                  injection hz with hz
                  subst hz
                  refine hex (.int .i64 (s.den E + 1)) ?_ (hset _ _ _ rfl ⟨⟨_, [], rfl, (show [Value.int .i64 (s.den E + 1)] = [Value.int .i64 (s.den E + r.den E)] by rw [hb]), rfl⟩, rfl⟩ (Ext.refl w))
                  have hw : IntKind.i64.wrap (s.den E + 1) = s.den E + 1 := IntWalk.i64_in _ (by omega)
                  rw [hb]
                  simp [binOp, Op.intArith, hw]
                · obtain ⟨v', r1, r2⟩ := arE_sound (P := P) (E := E) (β := β) (w := w) t hz
                  exact hex v' r1 (hset _ _ _ rfl r2 (Ext.refl w))
              · obtain ⟨v', r1, r2⟩ := arE_sound (P := P) (E := E) (β := β) (w := w) t hz
                exact hex v' r1 (hset _ _ _ rfl r2 (Ext.refl w))
            · obtain ⟨v', r1, r2⟩ := arE_sound (P := P) (E := E) (β := β) (w := w) t hz
              exact hex v' r1 (hset _ _ _ rfl r2 (Ext.refl w))
        · cases hz
      · rename_i p1 p2 p3 p4
        split at hz
        · rename_i he2
          split at hz
          · injection hz with hz
            subst hz
            obtain ⟨vs, hx1, l1, r1, hv1, hc1, l2, r2, hv2, hc2, hn⟩ := hxv
            obtain ⟨us, hy1, m1, s1, hu1, hd1, m2, s2, hu2, hd2, hm⟩ := hyv
            simp only [Chunk.holds] at hc1 hc2 hd1 hd2
            simp only [chunks] at hn hm
            subst hc1 hc2 hd1 hd2 hn hm
            subst hv2 hu2
            subst hv1 hu1
            refine wp_value (s := (do eqGuard .eql t x y (a.eval x) (a.eval y); binOp .eql t (a.eval x) (a.eval y))) rfl (v := .bool (p1.den E == p3.den E && p2.den E == p4.den E)) (w' := w) ?_ (hset _ _ _ rfl ⟨⟨[_], [], rfl, ?_, rfl⟩, rfl⟩ (Ext.refl w))
            · rw [hx1, hy1]
              exact hC.eq2 t he2 w x y _ _ _ _
            · show [Value.bool _] = [.bool _]
              rw [BT.norm_den hG]; rfl
          · cases hz
        · cases hz
      · cases hz
    · cases h
  | unOp op t x =>
    simp only [opE] at h
    split at h
    · rename_i u hx
      obtain ⟨z, hz, rfl⟩ := Option.map_eq_some_iff.1 h
      have hxv := z13q (E := E) (β := β) (w := w) hl hx
      unfold unE at hz
      split at hz
      · rename_i tt
        injection hz with hz
        subst hz
        obtain ⟨⟨l1, r1, h1, h2, h3⟩, _⟩ := hxv
        simp only [Chunk.holds] at h2
        simp only [chunks] at h3
        subst h2 h3
        injection h1 with h1
        refine wp_value (s := Op.unary .not (a.eval x)) rfl (v := .bool (!(tt.den E))) (w' := w) (by rw [h1]; simp [Op.unary]) ?_
        refine hset _ _ _ rfl ⟨⟨[.bool (!(tt.den E))], [], rfl, ?_, rfl⟩, rfl⟩ (Ext.refl w)
        show [Value.bool _] = [.bool (((BT.not tt).norm G).den E)]
        rw [BT.norm_den hG]
        rfl
      · rename_i zz
        split at hz
        · rename_i hb
          rw [Bool.and_eq_true, decide_eq_true_iff, decide_eq_true_iff] at hb
          injection hz with hz
          subst hz
          obtain ⟨⟨l1, r1, h1, h2, h3⟩, _⟩ := hxv
          simp only [Chunk.holds] at h2
          simp only [chunks] at h3
          subst h2 h3
          injection h1 with h1
          have hw : IntKind.i64.wrap (-zz) = -zz := IntWalk.i64_in _ (by omega)
          refine wp_value (s := Op.unary .neg (a.eval x)) rfl (v := .int .i64 (-zz)) (w' := w) (by rw [h1]; simp [Op.unary, Op.intArith, IT.den, hw]) ?_
          exact hset _ _ _ rfl ⟨⟨_, [], rfl, rfl, rfl⟩, rfl⟩ (Ext.refl w)
        · obtain ⟨⟨l1, r1, h1, h2, h3⟩, _⟩ := hxv
          simp only [Chunk.holds] at h2
          simp only [chunks] at h3
          subst h2 h3
          injection h1 with h1
          refine wp_value (s := Op.unary .neg (a.eval x)) rfl (v := .int .i64 (IntKind.i64.wrap ((IT.a2 1 (.lit 0) (.lit zz)).den E))) (w' := w) (by rw [h1]; rfl) (hset _ _ _ rfl (wrE_spec hz) (Ext.refl w))
      · rename_i tt _
        split at hz
        · rename_i hb
          injection hz with hz
          subst hz
          obtain ⟨⟨l1, r1, h1, h2, h3⟩, _⟩ := hxv
          simp only [Chunk.holds] at h2
          simp only [chunks] at h3
          subst h2 h3
          injection h1 with h1
          have b1 := tiny_spec (E := E) hb
          have hw : IntKind.i64.wrap (-(tt.den E)) = -(tt.den E) := IntWalk.i64_in _ (by omega)
          refine wp_value (s := Op.unary .neg (a.eval x)) rfl (v := .int .i64 (-(tt.den E))) (w' := w) (by rw [h1]; simp [Op.unary, Op.intArith, hw]) ?_
          exact hset _ _ _ rfl ⟨⟨_, [], rfl, rfl, rfl⟩, rfl⟩ (Ext.refl w)
        · obtain ⟨⟨l1, r1, h1, h2, h3⟩, _⟩ := hxv
          simp only [Chunk.holds] at h2
          simp only [chunks] at h3
          subst h2 h3
          injection h1 with h1
          refine wp_value (s := Op.unary .neg (a.eval x)) rfl (v := .int .i64 (IntKind.i64.wrap ((IT.a2 1 (.lit 0) tt).den E))) (w' := w) (by rw [h1]; rfl) (hset _ _ _ rfl (wrE_spec hz) (Ext.refl w))
      · rename_i k tt _ _
        obtain ⟨⟨l1, r1, h1, h2, h3⟩, _⟩ := hxv
        simp only [Chunk.holds] at h2
        simp only [chunks] at h3
        subst h2 h3
        injection h1 with h1
        refine wp_value (s := Op.unary .neg (a.eval x)) rfl (v := .int k (k.wrap ((IT.a2 1 (.lit 0) tt).den E))) (w' := w) (by rw [h1]; rfl) (hset _ _ _ rfl (wrE_spec hz) (Ext.refl w))
      · cases hz
    · cases h
  | convert s d x =>
    simp only [opE] at h
    split at h
    · rename_i u hx
      obtain ⟨z, hz, rfl⟩ := Option.map_eq_some_iff.1 h
      have hxv := z13q (E := E) (β := β) (w := w) hl hx
      unfold cvtE at hz
      split at hz
      · rename_i k0 tt
        split at hz
        · rename_i k hk
          obtain ⟨⟨us, hu1⟩, hu2⟩ := hC.cnv s d k hk
          obtain ⟨⟨l1, r1, h1, h2, h3⟩, _⟩ := hxv
          simp only [Chunk.holds] at h2
          simp only [chunks] at h3
          subst h2 h3
          injection h1 with h1
          refine wp_value (s := convert s d (a.eval x)) rfl (v := .int k (k.wrap (tt.den E))) (w' := w) ?_ (hset _ _ _ rfl (wrE_spec hz) (Ext.refl w))
          rw [h1]
          unfold convert
          simp only [Sem.run_bind, run_underlying hu1, run_underlying hu2, Result.andThen_ok]
          rfl
        · cases hz
      · cases hz
    · cases h
  | fieldAddr t x k =>
    simp only [opE] at h
    split at h
    · rename_i y off d hx hd
      split at h
      rotate_left
      · cases h
      rename_i hlt
      injection h with h
      subst h
      have he : a.eval x = .pointer (some ⟨β y, off, none⟩) := (opndP_spec (E := E) (β := β) (w := w) hl hx).1
      refine wp_value (s := Instr.fieldAt t (a.eval x) k) rfl (by rw [he]; exact hC.fld t k d hd w _) ?_
      exact hset _ _ _ rfl (AV.of_pv (by rw [add_addr]; rw [pv_lt hlt]) (big_lt hlt)) (Ext.refl w)
    · cases h
  | indexAddr t x i =>
    simp only [opE] at h
    obtain ⟨⟨y, off⟩, hy, rfl⟩ := Option.map_eq_some_iff.1 h
    obtain ⟨k1, k2, _⟩ := idxE_sound (E := E) (β := β) (w := w) hC hl hy
    refine wp_value (s := Instr.indexAt t (a.eval x) (a.eval i)) rfl k2 ?_
    exact hset _ _ _ rfl (AV.of_pv (by rw [pv_lt k1]) (big_lt k1)) (Ext.refl w)
  | index t x i =>
    simp only [opE] at h
    split at h
    · rename_i cs k ti hx hi
      obtain ⟨vs, hxv, hcs⟩ := z13q (E := E) (β := β) (w := w) hl hx
      obtain ⟨⟨l1, r1, h1, h2, h3⟩, _⟩ := z13q (E := E) (β := β) (w := w) hl hi
      simp only [Chunk.holds] at h2
      simp only [chunks] at h3
      subst h2 h3
      injection h1 with h1
      split at h
      · rename_i z len e hz he
        rw [IT.cl_spec hz] at h1
        split at h
        · rename_i bb size ha
          obtain ⟨hag, hso, hn1⟩ := hC.ag e bb size ha w
          split at h
          · rename_i hb
            simp only [Bool.and_eq_true, decide_eq_true_iff] at hb
            obtain ⟨y, hy, rfl⟩ := Option.map_eq_some_iff.1 h
            unfold partV at hy
            split at hy
            · rename_i l0 r hsp
              obtain ⟨_, _, _, hr⟩ := splitC_spec _ _ _ _ _ hsp hcs
              split at hy
              · rename_i l r' hsp2
                obtain ⟨_, hsz, hlc, _⟩ := splitC_spec _ _ _ _ _ hsp2 hr
                injection hy with hy
                subst hy
                have hlen := chunks_len hlc
                rw [hsz] at hlen
                obtain ⟨us, hus⟩ : ∃ us, us = (vs.drop (z.toNat * size)).take size := ⟨_, rfl⟩
                rw [← hus] at hlc hlen
                have hidx : ∀ v, (part e vs.toArray (z.toNat * size)).run P w = .ok v w → (Instr.index t (a.eval x) (a.eval i)).run P w = .ok v w := by
                  intro v hv
                  rw [hxv, h1]
                  unfold Instr.index
                  have hlt : (0 : Int) ≤ z ∧ z < (len : Int) := hb
                  simp only [asIntOf, Sem.run_bind, Sem.run_pure, Result.andThen_ok, run_underlying (hC.arr t len e he), if_pos hlt, hso]
                  exact hv
                cases bb with
                | true =>
                  refine wp_value (s := Instr.index t (a.eval x) (a.eval i)) rfl (hidx (.agg us.toArray) ?_) (hset _ _ _ rfl ⟨us, rfl, hlc⟩ (Ext.refl w))
                  unfold part
                  simp only [Sem.run_bind, hag, Result.andThen_ok, if_true, hso, Sem.run_pure]
                  rw [hus]
                  simp
                | false =>
                  have hn := hn1 rfl
                  subst hn
                  obtain ⟨v, rfl⟩ : ∃ v, us = [v] := by
                    match us, hlen with
                    | [v], _ => exact ⟨v, rfl⟩
                  refine wp_value (s := Instr.index t (a.eval x) (a.eval i)) rfl (hidx v ?_) (hset _ _ _ rfl ⟨hlc, cells_of_cellish (chunks_cellish hlc v (by simp))⟩ (Ext.refl w))
                  have hv : vs.toArray[z.toNat * 1]? = some v := by
                    have := congrArg (fun l => l[0]?) hus
                    simp only [List.getElem?_take, List.getElem?_drop] at this
                    simpa using this.symm
                  unfold part
                  simp only [Sem.run_bind, hag, Result.andThen_ok, Bool.false_eq_true, if_false, hv, Sem.run_pure]
              · cases hy
            · cases hy
          · cases h
        · cases h
      · cases h
    · cases h
  | field t x k =>
    simp only [opE] at h
    obtain ⟨y, hy, rfl⟩ := Option.map_eq_some_iff.1 h
    unfold fieldE at hy
    split at hy
    · rename_i cs hx
      obtain ⟨vs, hxv, hcs⟩ := z13q (E := E) (β := β) (w := w) hl hx
      split at hy
      · rename_i e off hf
        obtain ⟨fields, f, hu, hfk, rfl, rfl⟩ := hC.fty t k e off hf
        split at hy
        · rename_i bb size ha
          obtain ⟨hag, hso, hn1⟩ := hC.ag f.type bb size ha w
          unfold partV at hy
          split at hy
          · rename_i l0 r hsp
            obtain ⟨_, _, _, hr⟩ := splitC_spec _ _ _ _ _ hsp hcs
            split at hy
            · rename_i l r' hsp2
              obtain ⟨_, hsz, hlc, _⟩ := splitC_spec _ _ _ _ _ hsp2 hr
              injection hy with hy
              subst hy
              have hlen := chunks_len hlc
              rw [hsz] at hlen
              obtain ⟨us, hus⟩ : ∃ us, us = (vs.drop f.offset).take size := ⟨_, rfl⟩
              rw [← hus] at hlc hlen
              have hidx : ∀ v, (part f.type vs.toArray f.offset).run P w = .ok v w → (Instr.field t (a.eval x) k).run P w = .ok v w := by
                intro v hv
                rw [hxv]
                unfold Instr.field
                simp only [asAgg, Sem.run_bind, Sem.run_pure, Result.andThen_ok, run_underlying hu, hfk]
                exact hv
              cases bb with
              | true =>
                refine wp_value (s := Instr.field t (a.eval x) k) rfl (hidx (.agg us.toArray) ?_) (hset _ _ _ rfl ⟨us, rfl, hlc⟩ (Ext.refl w))
                unfold part
                simp only [Sem.run_bind, hag, Result.andThen_ok, if_true, hso, Sem.run_pure]
                rw [hus]
                simp
              | false =>
                have hn := hn1 rfl
                subst hn
                obtain ⟨v, rfl⟩ : ∃ v, us = [v] := by
                  match us, hlen with
                  | [v], _ => exact ⟨v, rfl⟩
                refine wp_value (s := Instr.field t (a.eval x) k) rfl (hidx v ?_) (hset _ _ _ rfl ⟨hlc, cells_of_cellish (chunks_cellish hlc v (by simp))⟩ (Ext.refl w))
                have hv : vs.toArray[f.offset]? = some v := by
                  have := congrArg (fun l => l[0]?) hus
                  simp only [List.getElem?_take, List.getElem?_drop] at this
                  simpa using this.symm
                unfold part
                simp only [Sem.run_bind, hag, Result.andThen_ok, Bool.false_eq_true, if_false, hv, Sem.run_pure]
            · cases hy
          · cases hy
        · cases hy
      · cases hy
    · cases hy
  | extract x i =>
    simp only [opE] at h
    split at h
    · rename_i l hx
      split at h
      · rename_i p hp
        injection h with h
        subst h
        obtain ⟨vs, he, ht⟩ := z13q (E := E) (β := β) (w := w) hl hx
        have hti : ∀ (l : List (Bool × List Chunk)) (vs : List Value) (i : Nat) p, tupAll E w l vs → l[i]? = some p → ∃ v, vs[i]? = some v ∧ one E w p v := by
          intro l
          induction l with
          | nil => intro vs i p _ h; simp at h
          | cons q l ih =>
            intro vs i p ⟨v, r, hv, ho, hr⟩ hp
            subst hv
            match i, hp with
            | 0, hp => injection hp with hp; subst hp; exact ⟨v, rfl, ho⟩
            | i + 1, hp => exact ih r i p hr hp
        obtain ⟨v, hvi, ho⟩ := hti l vs i p ht hp
        refine wp_value (s := Instr.extract (a.eval x) i) rfl (v := v) (w' := w) (by rw [he]; simp [Instr.extract, hvi]) ?_
        exact hset _ _ _ rfl ho (Ext.refl w)
      · cases h
    · cases h
  | call c =>
    simp only [opE] at h
    obtain ⟨r, hr, rfl⟩ := Option.map_eq_some_iff.1 h
    unfold callE at hr
    split at hr
    · rename_i f hf
      split at hr
      · rename_i g hg
        split at hr
        · rename_i xs has
          obtain ⟨⟨l1, r1, h1, h2, h3⟩, _⟩ := z13q (E := E) (β := β) (w := w) hl hg
          simp only [Chunk.holds] at h2
          simp only [chunks] at h3
          subst h2 h3
          injection h1 with h1
          obtain ⟨k1, k2⟩ := opnds_spec (E := E) (β := β) (w := w) hl has
          obtain ⟨fn, hfn, hname, hbody⟩ := hC.body g xs _ G r hr
          have hb2 : fn.body ≠ none := by intro e; rw [e] at hbody; cases hbody
          have hcall := hC.calls g xs _ G r hr hG β w _ hwk k1 k2 (fun i x off cs hi hm => by
            rw [List.getElem?_map, hi] at hm
            simp only [Option.map_some, Option.some.injEq, memOf] at hm
            split at hm
            · cases hm
            · exact (hv x cs hm).2)
          unfold Oper.wp
          have harr : (c.args.toList.map a.eval).toArray = c.args.map a.eval := by
            apply Array.toList_inj.1
            simp
          have hres : (execOp a.eval ⟨dst, .call c, ty, pos, after, guard⟩).run P w = .ok (.enter g (c.args.toList.map a.eval).toArray) w := by
            simp only [execOp, resolve, hf, h1, Deferred.ofValue]
            rw [harr]
            simp [invoke, callFunc, hfn, hname, hb2]
          rw [hres, Oper.upon_enter]
          refine hcall.mono ?_
          rintro e w' ⟨v, rfl, hv, ex⟩
          exact hset _ _ _ rfl hv ex
        · cases hr
      · cases hr
    · rename_i hf
      split at hr
      · rename_i t ts x hat har
        have hargs : c.args = #[x] := by apply Array.toList_inj.1; simpa using har
        have hat0 : c.argTypes[0]? = some t := by rw [← Array.getElem?_toList, hat]; rfl
        have fin : (∃ el, P.underlying t = some (.slice el)) → (∃ (ao : Option Addr) (n cp : Nat) (m : IT), a.eval x = .slice ao n cp ∧ r = .val false [.n .i64 m] ∧ m.den E = (n : Int)) → Oper.wp P ⟨dst, .call c, ty, pos, after, guard⟩ a w K Q := by
          rintro ⟨el, hel⟩ ⟨ao, n, cp, m, hev, rfl, hm⟩
          have hres : (execOp a.eval ⟨dst, .call c, ty, pos, after, guard⟩).run P w = .ok (.value (.int .i64 (n : Int))) w := by
            simp [execOp, resolve, hf, invoke, hargs, builtin, Builtin.len_, hat0, hev, run_underlying hel, goInt]
          unfold Oper.wp
          rw [hres]
          simp only [Oper.upon_value]
          exact hset _ _ _ rfl ⟨⟨_, [], rfl, congrArg (fun z => [Value.int .i64 z]) hm.symm, rfl⟩, rfl⟩ (Ext.refl w)
        split at hr
        · rename_i ch hx
          split at hr
          · rename_i hsl
            refine fin (hC.slc t hsl) ?_
            obtain ⟨⟨l1, r1, h1, h2, h3⟩, _⟩ := z13q (E := E) (β := β) (w := w) hl hx
            simp only [chunks] at h3
            subst h3
            unfold lenE at hr
            split at hr
            · rename_i tt _
              injection hr with hr
              obtain ⟨u, rfl, ⟨ao, cp, rfl, _⟩, _⟩ := h2
              injection h1 with h1
              exact ⟨ao, _, cp, _, h1, hr.symm, rfl⟩
            · rename_i i
              injection hr with hr
              obtain ⟨u, rfl, ao, cp, rfl, _⟩ := h2
              injection h1 with h1
              exact ⟨ao, _, cp, _, h1, hr.symm, rfl⟩
            · injection hr with hr
              simp only [Chunk.holds] at h2
              subst h2
              injection h1 with h1
              exact ⟨none, 0, 0, _, h1, hr.symm, rfl⟩
            · cases hr
          · split at hr
            · rename_i hst
              obtain ⟨⟨l1, r1, h1, h2, h3⟩, _⟩ := z13q (E := E) (β := β) (w := w) hl hx
              simp only [chunks] at h3
              subst h3
              have fin2 : ∀ (u : List UInt8) (m : IT), a.eval x = .string ⟨u.toArray⟩ → r = .val false [.n .i64 m] → m.den E = (u.length : Int) → Oper.wp P ⟨dst, .call c, ty, pos, after, guard⟩ a w K Q := by
                intro u m hev hrr hm
                subst hrr
                have hres : (execOp a.eval ⟨dst, .call c, ty, pos, after, guard⟩).run P w = .ok (.value (.int .i64 (u.length : Int))) w := by
                  have hsz : (⟨u.toArray⟩ : ByteArray).size = u.length := by simp [ByteArray.size]
                  simp [execOp, resolve, hf, invoke, hargs, builtin, Builtin.len_, hat0, hev, run_underlying (hC.strT t hst), goInt, hsz]
                unfold Oper.wp
                rw [hres]
                simp only [Oper.upon_value]
                exact hset _ _ _ rfl ⟨⟨_, [], rfl, congrArg (fun z => [Value.int .i64 z]) hm.symm, rfl⟩, rfl⟩ (Ext.refl w)
              unfold slenE at hr
              split at hr
              · injection hr with hr
                obtain ⟨rfl, _⟩ := h2
                injection h1 with h1
                exact fin2 _ _ h1 hr.symm rfl
              · injection hr with hr
                obtain ⟨rfl, _⟩ := h2
                injection h1 with h1
                exact fin2 _ _ h1 hr.symm rfl
              · cases hr
            · cases hr
        · rename_i y off hx
          split at hr
          · rename_i hb
            simp only [Bool.and_eq_true, decide_eq_true_iff] at hb
            obtain ⟨hb1, hb2, hb3⟩ := hb
            obtain ⟨e, he⟩ := Option.isSome_iff_exists.1 hb3
            injection hr with hr
            have hv' : a.eval x = pv (β y) off := AV.pv_of (E := E) (β := β) (w := w) (z13q (E := E) (β := β) (w := w) hl hx) hb2
            refine fin ⟨e, hC.row t e he⟩ ⟨some ⟨β y, 0, none⟩, off - big, off - big, _, ?_, hr.symm, rfl⟩
            rw [hv']
            unfold pv
            rw [if_neg (by omega)]
          · cases hr
        · cases hr
      · cases hr
    · rename_i hf
      split at hr
      · rename_i t u x y hat har
        split at hr
        · rename_i ss l hx hy
          split at hr
          · rename_i hc
            simp only [Bool.and_eq_true, beq_iff_eq, decide_eq_true_iff] at hc
            obtain ⟨hsl, rfl, hl2⟩ := hc
            injection hr with hr
            subst hr
            have hargs : c.args = #[x, y] := by apply Array.toList_inj.1; simpa using har
            have hats : c.argTypes = #[t, t] := by apply Array.toList_inj.1; simpa using hat
            obtain ⟨⟨l1, r1, h1, h2, h3⟩, _⟩ := z13q (E := E) (β := β) (w := w) hl hx
            simp only [Chunk.holds] at h2
            simp only [chunks] at h3
            subst h2 h3
            injection h1 with h1
            obtain ⟨⟨l2, r2, j1, ⟨v, rfl, j2, j4⟩, j3⟩, _⟩ := z13q (E := E) (β := β) (w := w) hl hy
            simp only [chunks] at j3
            subst j3
            injection j1 with j1
            obtain ⟨z, w', k1, k2, k3⟩ := hC.apd t hsl ty w _ v (Nat.le_trans j4 hl2) j2
            have hres : (execOp a.eval ⟨dst, .call c, ty, pos, after, guard⟩).run P w = .ok (.value z) w' := by
              simp [execOp, resolve, hf, invoke, hargs, hats, builtin, h1, j1, k1]
            unfold Oper.wp
            rw [hres]
            simp only [Oper.upon_value]
            refine hset _ _ _ rfl ⟨⟨[z], [], rfl, ⟨z, rfl, k2, j4⟩, rfl⟩, ?_⟩ k3
            obtain ⟨ao, cap, rfl, _⟩ := k2
            rfl
          · cases hr
        · cases hr
      · cases hr
    · rename_i hf
      obtain ⟨x, y, k, s, r1, hargs, e1, e2, rfl⟩ := mmE_spec (E := E) (β := β) (w := w) hl hr
      have hres : (execOp a.eval ⟨dst, .call c, ty, pos, after, guard⟩).run P w = .ok (.value (.int k (if r1.den E < s.den E then r1.den E else s.den E))) w := by
        simp [execOp, resolve, hf, invoke, hargs, builtin, Builtin.min_, Builtin.min2, e1, e2]
      unfold Oper.wp
      rw [hres]
      simp only [Oper.upon_value]
      exact hset _ _ _ rfl (num_holds (by rw [IT.fold_den]; rfl)) (Ext.refl w)
    · rename_i hf
      obtain ⟨x, y, k, s, r1, hargs, e1, e2, rfl⟩ := mmE_spec (E := E) (β := β) (w := w) hl hr
      have hres : (execOp a.eval ⟨dst, .call c, ty, pos, after, guard⟩).run P w = .ok (.value (.int k (if r1.den E > s.den E then r1.den E else s.den E))) w := by
        simp [execOp, resolve, hf, invoke, hargs, builtin, Builtin.max_, Builtin.max2, e1, e2]
      unfold Oper.wp
      rw [hres]
      simp only [Oper.upon_value]
      exact hset _ _ _ rfl (num_holds (by rw [IT.fold_den]; rfl)) (Ext.refl w)
    · cases hr
  | _ => simp [opE] at h
end
end Go.Proofs.YtifeacfljfmnpaaGreat
end
