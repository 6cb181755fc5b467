/-
  FromInt64 and Int64, of the program and of the reference.
-/
import Derived.Test.YtfjaboolfjgleaaValid
namespace Go.Proofs.Ytfjaboolfjgleaa
open Go.RowKit

theorem isLimbs_of_owns {w : World} {base : Nat} {v : Value} {n : Nat} (h : w.ownsRow base 46 1 v (limbs n).length ((limbs n).map fun x => Value.int .u32 ((x : Nat) : Int))) : IsLimbs n v w := by
  have hh := h
  rcases hh.2 with ⟨rfl, h0⟩ | ⟨g, cap, cur, rfl, _, _, hnc, hcm, _, _⟩
  · have e : limbs n = [] := List.eq_nil_of_length_eq_zero h0
    exact ⟨none, 0, by rw [e]; rfl, by rw [e]; simp, by omega, by rw [e]; exact Cells.nil _ _⟩
  · exact ⟨_, cap, rfl, hnc, by unfold maxLen at hcm; omega, (Blk.of_owns h).cells⟩

set_option maxRecDepth 100000 in
set_option maxHeartbeats 800000 in
theorem rlimbs_calls (w : World) (n : Nat) (hn : n ≤ 18446744073709551615) :
    Calls Try.prog 47 #[.int .u64 (n : Int)] w (Ret (IsLimbs n) w) := by
  obtain ⟨i0, hi, hz0, hz1, hz2⟩ := info_parts info_u32
  have hlen : (limbs n).length ≤ 3 := limbs_len_le (by omega)
  have HLEN := Lib.hid hlen
  have hnI : (n : Int) ≤ 18446744073709551615 := by omega
  clear hn hlen
  go_enter Try.func47, Try.ntmps47
  go_wp2
  go_loopw [0, 3] (fun m v wr => ∃ (k : Nat) (xs : List Nat), m = .int .u64 k ∧ (k : Int) ≤ 18446744073709551615 ∧ Ext w wr ∧ wr.ownsRow w.heap.size 46 1 v xs.length (xs.map fun x => Value.int .u32 ((x : Nat) : Int)) ∧ Hid (limbs n = xs ++ limbs k)) (fun m _ _ => (intOf m).toNat)
  case atStart => exact ⟨n, [], rfl, hnI, Ext.refl w, World.ownsRow_nil _ _ _ _, rfl⟩
  case round =>
    obtain ⟨k, xs, rfl, hk, hE, hown, HX⟩ := hrel
    rcases Nat.eq_zero_or_pos k with h0 | h0
    · subst h0
      have hl : limbs n = xs := by rw [HX.out, limbs_zero, List.append_nil]
      rw [← hl] at hown
      have HI := Lib.hid (isLimbs_of_owns hown)
      clear hl hown
      go_wp2
      go_ret
      exact ⟨_, rfl, HI.out, hE⟩
    · have hkI : (0 : Int) < (k : Int) := by omega
      have HS : Hid (limbs n = (xs ++ [k % 1000000000]) ++ limbs (k / 1000000000)) := by
        unfold Hid; rw [HX.out, limbs_step h0, List.append_assoc]; rfl
      have hxl : xs.length ≤ 3 := by have := HLEN.out; rw [HX.out, List.length_append] at this; omega
      have HN := Lib.hid h0
      have hsz := hE.size
      clear h0
      go_wp2_with (at_builtin; refine wpList_append_own _ rfl _ _ 22 rfl w.heap.size 46 i0 (.int .u32 0) 1 4 Try.underlying22 hi hz0 hz1 hz2 rfl (by decide) _ xs.length _ rfl (hown.alloc _) ⟨wr.heap.size, 0, none⟩ 1 1 [.int .u32 ((k : Int) % 1000000000)] rfl rfl ?c1 ?c2 ?c3 ?c4 ?c5 ?_)
      case c1 =>
        intro j u hj
        match j, hj with
        | 0, hj => simp at hj; subst hj; simp [Addr.add]
      case c2 => intro u hu; simp at hu; subst hu; rfl
      case c3 => unfold maxLen; omega
      case c4 => omega
      case c5 => simp; omega
      intro v' w1 hown1 hgrow _
      have hr := hown.lt
      have hE1 : Ext w w1 := Below.grown (hE.alloc _) hgrow (by simp; omega) (fun g hg => (hr g hg).1)
      have hown2 : w1.ownsRow w.heap.size 46 1 v' (xs ++ [k % 1000000000]).length ((xs ++ [k % 1000000000]).map fun x => Value.int .u32 ((x : Nat) : Int)) := by
        rw [List.length_append, List.map_append]
        exact hown1
      clear hown1 hgrow hown hr
      go_wp2
      go_roundw
      case rel => exact ⟨k / 1000000000, xs ++ [k % 1000000000], vint (by omega), by omega, hE1, hown2, HS.out⟩
      case measure => have := HN.out; simp [intOf]; omega

theorem wrap_neg (n : Int) (h1 : -9223372036854775808 ≤ n) (h2 : n < 0) : IntKind.u64.wrap (-IntKind.u64.wrap n) = ((n.natAbs : Nat) : Int) := by
  simp only [IntKind.wrap_u64]; omega
theorem sgn_natAbs_neg {n : Int} (h : n < 0) : sgn true n.natAbs = n := by simp [sgn]; omega
theorem sgn_natAbs_pos {n : Int} (h : 0 ≤ n) : sgn false n.natAbs = n := by simp [sgn]; omega

set_option maxHeartbeats 400000 in
theorem fromInt64_calls (w : World) (n : Int) (h1 : -9223372036854775808 ≤ n) (h2 : n ≤ 9223372036854775807) :
    Calls Try.prog 17 #[.int .i64 n] w (Ret (fun v w' => IsInt w' v n) w) := by
  obtain ⟨W, hW, eW, hz, r0, r1, f0, f1⟩ := res_new w 24
  clear hz
  by_cases hn : n < 0
  · have HE := Lib.hid (sgn_natAbs_neg hn)
    have HW := Lib.hid (wrap_neg n h1 hn)
    go_enter Try.func17, Try.ntmps17
    go_wp2_with fail
    clear hW
    rw [HW.out]
    refine (limbsOf_calls _ n.natAbs (by omega)).mono ?_
    rintro e w1 ⟨v, rfl, ⟨ao, cap, rfl, k1, k2, k3⟩, e1⟩
    go_wp2_with fail
    refine (signedL_calls _ _ _ _ _ k1 k2 k3).mono ?_
    rintro e w2 ⟨v, rfl, hI, e2⟩
    rw [HE.out] at hI
    obtain ⟨ao2, cap2, s2, n2, rfl, _⟩ := hI.open_
    have eA := e1.trans e2
    have c02 := eA.cell r0
    have c12 := eA.cell r1
    have f02 := eA.frozen (lt_of_cell r0) f0
    have f12 := eA.frozen (lt_of_cell r1) f1
    clear r0 r1 f0 f1
    go_wp2
    exact bodyPost_ret (v := .agg #[.bool s2, .slice ao2 (limbs n2).length cap2]) (by simp [results, Try.results17, go_sem, c02, c12]) rfl (fin_int hI c02 c12 (Nat.le_refl _) (eW.trans eA))
  · have HE := Lib.hid (sgn_natAbs_pos (n := n) (by omega))
    have HW : Hid (n = ((n.natAbs : Nat) : Int)) := by unfold Hid; omega
    go_enter Try.func17, Try.ntmps17
    go_wp2_with fail
    clear hW
    rw [show Value.int .u64 n = Value.int .u64 ((n.natAbs : Nat) : Int) from vint HW.out]
    refine (limbsOf_calls _ n.natAbs (by omega)).mono ?_
    rintro e w1 ⟨v, rfl, ⟨ao, cap, rfl, k1, k2, k3⟩, e1⟩
    go_wp2_with fail
    refine (signedL_calls _ _ _ _ _ k1 k2 k3).mono ?_
    rintro e w2 ⟨v, rfl, hI, e2⟩
    rw [HE.out] at hI
    obtain ⟨ao2, cap2, s2, n2, rfl, _⟩ := hI.open_
    have eA := e1.trans e2
    have c02 := eA.cell r0
    have c12 := eA.cell r1
    have f02 := eA.frozen (lt_of_cell r0) f0
    have f12 := eA.frozen (lt_of_cell r1) f1
    clear r0 r1 f0 f1
    go_wp2
    exact bodyPost_ret (v := .agg #[.bool s2, .slice ao2 (limbs n2).length cap2]) (by simp [results, Try.results17, go_sem, c02, c12]) rfl (fin_int hI c02 c12 (Nat.le_refl _) (eW.trans eA))

set_option maxHeartbeats 400000 in
theorem rfromInt64_calls (w : World) (n : Int) (h1 : -9223372036854775808 ≤ n) (h2 : n ≤ 9223372036854775807) :
    Calls Try.prog 20 #[.int .i64 n] w (Ret (fun v w' => IsInt w' v n) w) := by
  obtain ⟨W, hW, eW, hz, r0, r1, f0, f1⟩ := res_new w 24
  clear hz
  by_cases hn : n < 0
  · have HE := Lib.hid (sgn_natAbs_neg hn)
    have HW := Lib.hid (wrap_neg n h1 hn)
    go_enter Try.func20, Try.ntmps20
    go_wp2_with fail
    clear hW
    rw [HW.out]
    refine (rlimbs_calls _ n.natAbs (by omega)).mono ?_
    rintro e w1 ⟨v, rfl, ⟨ao, cap, rfl, k1, k2, k3⟩, e1⟩
    go_wp2_with fail
    refine (rsignedL_calls _ _ _ _ _ k1 k2 k3).mono ?_
    rintro e w2 ⟨v, rfl, hI, e2⟩
    rw [HE.out] at hI
    obtain ⟨ao2, cap2, s2, n2, rfl, _⟩ := hI.open_
    have eA := e1.trans e2
    have c02 := eA.cell r0
    have c12 := eA.cell r1
    have f02 := eA.frozen (lt_of_cell r0) f0
    have f12 := eA.frozen (lt_of_cell r1) f1
    clear r0 r1 f0 f1
    go_wp2
    exact bodyPost_ret (v := .agg #[.bool s2, .slice ao2 (limbs n2).length cap2]) (by simp [results, Try.results20, go_sem, c02, c12]) rfl (fin_int hI c02 c12 (Nat.le_refl _) (eW.trans eA))
  · have HE := Lib.hid (sgn_natAbs_pos (n := n) (by omega))
    have HW : Hid (n = ((n.natAbs : Nat) : Int)) := by unfold Hid; omega
    go_enter Try.func20, Try.ntmps20
    go_wp2_with fail
    clear hW
    rw [show Value.int .u64 n = Value.int .u64 ((n.natAbs : Nat) : Int) from vint HW.out]
    refine (rlimbs_calls _ n.natAbs (by omega)).mono ?_
    rintro e w1 ⟨v, rfl, ⟨ao, cap, rfl, k1, k2, k3⟩, e1⟩
    go_wp2_with fail
    refine (rsignedL_calls _ _ _ _ _ k1 k2 k3).mono ?_
    rintro e w2 ⟨v, rfl, hI, e2⟩
    rw [HE.out] at hI
    obtain ⟨ao2, cap2, s2, n2, rfl, _⟩ := hI.open_
    have eA := e1.trans e2
    have c02 := eA.cell r0
    have c12 := eA.cell r1
    have f02 := eA.frozen (lt_of_cell r0) f0
    have f12 := eA.frozen (lt_of_cell r1) f1
    clear r0 r1 f0 f1
    go_wp2
    exact bodyPost_ret (v := .agg #[.bool s2, .slice ao2 (limbs n2).length cap2]) (by simp [results, Try.results20, go_sem, c02, c12]) rfl (fin_int hI c02 c12 (Nat.le_refl _) (eW.trans eA))


/-- What Int64 returns. -/
def i64v (z : Int) : Int := if -9223372036854775808 ≤ z ∧ z ≤ 9223372036854775807 then z else 0
def i64ok (z : Int) : Bool := decide (-9223372036854775808 ≤ z ∧ z ≤ 9223372036854775807)
theorem i64_in {z : Int} (h1 : -9223372036854775808 ≤ z) (h2 : z ≤ 9223372036854775807) : i64v z = z ∧ i64ok z = true := ⟨if_pos ⟨h1, h2⟩, decide_eq_true ⟨h1, h2⟩⟩
theorem i64_out {z : Int} (h : z < -9223372036854775808 ∨ 9223372036854775807 < z) : i64v z = 0 ∧ i64ok z = false := ⟨if_neg (by omega), decide_eq_false (by omega)⟩

end Go.Proofs.Ytfjaboolfjgleaa
