/-
  The square root of limbs, rounded down.
-/
import Derived.Test.YtfjaboolfjgleaaSqn
import Derived.Test.YtfjaboolfjgleaaSqs
import Derived.Test.YtfjaboolfjgleaaSqrts
import Derived.Test.YtfjaboolfjgleaaSmall
import Derived.Deep.LoopGhost
import Derived.Laws.AppendOwnNone
namespace Go.Proofs.Ytfjaboolfjgleaa
open Go.RowKit

theorem limbs_shift (d n : Nat) (hn : 0 < n) : limbs (1000000000 ^ d * n) = List.replicate d 0 ++ limbs n := by
  have hne : limbs n ≠ [] := by intro h; have := limbs_pos hn; rw [h] at this; simp at this
  have h1 : val (List.replicate d 0 ++ limbs n) = 1000000000 ^ d * n := by
    rw [val_append, val_limbs, List.length_replicate]
    have : val (List.replicate d 0) = 0 := by
      induction d with
      | zero => rfl
      | succ d ih => rw [List.replicate_succ]; simp [val, ih]
    omega
  rw [← h1]
  refine limbs_val ((Dig.replicate d).append (dig_limbs n)) (fun _ => ?_)
  have hp := limbs_pos hn
  have hl := limbs_last n hne
  rw [List.length_append, List.length_replicate, List.getD_eq_getElem?_getD, List.getElem?_append_right (by rw [List.length_replicate]; omega), List.length_replicate, show d + (limbs n).length - 1 - d = (limbs n).length - 1 by omega, ← List.getD_eq_getElem?_getD]
  exact hl
theorem limbs_div (m k : Nat) (hk : k ≤ (limbs m).length) : limbs (m / 1000000000 ^ k) = (limbs m).drop k := by
  have h1 := val_split (limbs m) k hk
  have h2 := val_lt ((dig_limbs m).take k)
  rw [List.length_take, Nat.min_eq_left hk] at h2
  rw [val_limbs] at h1
  have h3 : m / 1000000000 ^ k = val ((limbs m).drop k) := by
    generalize val ((limbs m).take k) = A at h1 h2
    generalize val ((limbs m).drop k) = D at h1 ⊢
    rw [h1, Nat.add_mul_div_left _ _ (Nat.pow_pos (by omega)), Nat.div_eq_of_lt h2, Nat.zero_add]
  rw [h3]
  refine limbs_val ((dig_limbs m).drop k) (fun hne => ?_)
  rw [List.length_drop]
  have hlt : k < (limbs m).length := by
    rcases Nat.lt_or_ge k (limbs m).length with h | h
    · exact h
    · exact absurd (List.drop_of_length_le h) hne
  rw [List.getD_eq_getElem?_getD, List.getElem?_drop, show k + ((limbs m).length - k - 1) = (limbs m).length - 1 by omega, ← List.getD_eq_getElem?_getD]
  exact limbs_last m (by intro h; rw [h] at hlt; simp at hlt)
theorem isSq_exists (n : Nat) : ∃ r, IsSq n r := by
  induction n with
  | zero => exact ⟨0, by decide, by decide⟩
  | succ n ih =>
    obtain ⟨r, h1, h2⟩ := ih
    rcases Nat.lt_or_ge (n + 1) ((r + 1) * (r + 1)) with h | h
    · exact ⟨r, by omega, h⟩
    · refine ⟨r + 1, h, ?_⟩
      have : (r + 1) * (r + 1) < (r + 1 + 1) * (r + 1 + 1) := Nat.mul_lt_mul'' (by omega) (by omega)
      omega
theorem isSq_le {n r : Nat} (h : IsSq n r) : r ≤ n := by
  have h1 := h.1
  rcases Nat.eq_zero_or_pos r with h0 | h0
  · omega
  · have := Nat.mul_le_mul_left r h0; omega

/-- What an append of limbs to a block of limbs that was just made leaves. -/
theorem run_append_onto (w : World) (ty : TypeId) (zs : List Nat) (lz : zs.length ≤ 1099511627776) (hz : 0 < zs.length) (ao : Option Addr) (xs : List Nat) (c : Nat) (lx : xs.length ≤ 1099511627776) (h : Cells w ao xs) :
    ∃ ao' cap w1, (Builtin.append_ #[22, 22] ty #[.slice (some ⟨w.heap.size, 0, none⟩) zs.length zs.length, .slice ao xs.length c]).run Try.prog (w.alloc (.cells (u32s zs) 46)) = .ok (.slice ao' (zs.length + xs.length) cap) w1 ∧
      zs.length + xs.length ≤ cap ∧ cap ≤ 9223372036854775807 ∧ Ext w w1 ∧ Cells w1 ao' (zs ++ xs) := by
  obtain ⟨i0, hi, hz0, hz1, hz2⟩ := info_parts info_u32
  have hown : (w.alloc (.cells (u32s zs) 46)).ownsRow w.heap.size 46 1 (.slice (some ⟨w.heap.size, 0, none⟩) zs.length zs.length) zs.length (zs.map fun x => Value.int .u32 ((x : Nat) : Int)) :=
    ⟨by simp, .inr ⟨w.heap.size, zs.length, u32s zs, rfl, Nat.le_refl _, heap_alloc_new w _, Nat.le_refl _, by unfold maxLen; omega, by simp [u32s], by rw [Nat.mul_one]; simp only [u32s]; exact List.take_of_length_le (by simp)⟩⟩
  have hfin : ∀ (w1 : World) (v' : Value), Ext w w1 → w1.ownsRow w.heap.size 46 1 v' (zs ++ xs).length ((zs ++ xs).map fun x => Value.int .u32 ((x : Nat) : Int)) →
      ∃ ao' cap, v' = .slice ao' (zs.length + xs.length) cap ∧ zs.length + xs.length ≤ cap ∧ cap ≤ 9223372036854775807 ∧ Ext w w1 ∧ Cells w1 ao' (zs ++ xs) := by
    intro w1 v' hE hown2
    rcases hown2.2 with ⟨rfl, h0⟩ | ⟨g, cap, cur, rfl, hg, _, hnc, hcm, _, _⟩
    · exfalso
      rw [List.length_append] at h0
      omega
    · rw [List.length_append] at hnc
      exact ⟨_, cap, by rw [List.length_append], hnc, by unfold maxLen at hcm; omega, hE, (Blk.of_owns hown2).cells⟩
  rcases ao with _ | a
  · obtain rfl : xs = [] := by
      rcases h with h | ⟨b, off, hh, _⟩
      · exact h
      · cases hh
    obtain ⟨ao', cap, hv, k1, k2, k3, k4⟩ := hfin _ _ ((Ext.refl w).alloc _) (by simpa using hown)
    injection hv with hv1 hv2 hv3
    subst hv1 hv3
    exact ⟨_, _, _, run_append_nil (P := Try.prog) w.heap.size 22 ty 46 i0 1 Try.underlying22 hi _ _ _ hown c, k1, k2, k3, k4⟩
  · have hnews : ∀ j u, (xs.map fun x => Value.int .u32 ((x : Nat) : Int))[j]? = some u → (w.alloc (.cells (u32s zs) 46)).cell? (a.add j) = some u := by
      intro j u hu
      refine ((Ext.refl w).alloc _).cell ?_
      rcases h with h | ⟨b, off, hh, hx⟩
      · subst h; simp at hu
      · injection hh with hh
        subst hh
        rw [List.getElem?_map] at hu
        obtain ⟨x, hx1, rfl⟩ := Option.map_eq_some_iff.1 hu
        have hj : j < xs.length := (List.getElem?_eq_some_iff.1 hx1).1
        have := hx j hj
        rw [List.getD_eq_getElem?_getD, hx1] at this
        by_cases h0 : j = 0
        · subst h0; simpa [Addr.add] using this
        · simpa [Addr.add, h0] using this
    obtain ⟨v', w1, hrun, hown1, hgrow, hnil⟩ := run_append_own (P := Try.prog) (w.alloc (.cells (u32s zs) 46)) w.heap.size 22 ty 46 i0 (.int .u32 0) 1 4 Try.underlying22 hi hz0 hz1 hz2 rfl (by decide) _ _ _ hown a xs.length c (xs.map fun x => Value.int .u32 ((x : Nat) : Int)) (by simp) hnews
      (by intro u hu; obtain ⟨x, _, rfl⟩ := List.mem_map.1 hu; rfl) (by unfold maxLen; omega) (by omega) (by simp)
    have hE : Ext w w1 := Below.grown ((Ext.refl w).alloc _) hgrow (by simp) (fun k hk => by simp [Value.ownBlock] at hk; omega)
    obtain ⟨ao', cap, rfl, k1, k2, k3, k4⟩ := hfin w1 v' hE (by rw [List.map_append, List.length_append]; exact hown1)
    exact ⟨_, _, _, hrun, k1, k2, k3, k4⟩

set_option maxHeartbeats 400000 in
theorem split_short (w : World) (ao : Option Addr) (xs : List Nat) (cap : Nat) (hc : xs.length ≤ cap) (hm : cap ≤ 9223372036854775807) (h : Cells w ao xs) (dx : Dig xs) (h2 : xs.length ≤ 2) :
    Calls Try.prog 76 #[.slice ao xs.length cap] w fun e w' =>
      e = .returned (.tuple #[.int .u64 ((val xs / 18446744073709551616 : Nat) : Int), .int .u64 ((val xs % 18446744073709551616 : Nat) : Int)]) ∧ w = w' := by
  have hb := val_lt dx
  have hb2 : val xs < 1000000000000000000 := Nat.lt_of_lt_of_le hb (Nat.pow_le_pow_right (by omega) h2)
  have hv := valueOf_calls w ao xs cap hc hm h (by omega)
  have HV := Lib.hid hv
  have hl : (xs.length : Int) ≤ 2 := by omega
  have e1 : val xs / 18446744073709551616 = 0 := by omega
  have e2 : val xs % 18446744073709551616 = val xs := by omega
  rw [e1, e2]
  clear hv hb hb2 e1 e2 hc hm h dx h2
  go_enter Try.func76, Try.ntmps76
  go_wp2_with fail
  refine HV.out.mono ?_
  rintro e w' ⟨rfl, rfl⟩
  go_wp2
  go_ret2
  exact ⟨rfl, rfl⟩
theorem split_any (w : World) (ao : Option Addr) (n : Nat) (cap : Nat) (hc : (limbs n).length ≤ cap) (hm : cap ≤ 9223372036854775807) (h : Cells w ao (limbs n)) (h4 : (limbs n).length ≤ 4) :
    Calls Try.prog 76 #[.slice ao (limbs n).length cap] w fun e w' =>
      e = .returned (.tuple #[.int .u64 ((n / 18446744073709551616 : Nat) : Int), .int .u64 ((n % 18446744073709551616 : Nat) : Int)]) ∧ w = w' := by
  by_cases h2 : (limbs n).length ≤ 2
  · have := split_short w ao (limbs n) cap hc hm h (dig_limbs n) h2
    rwa [val_limbs] at this
  · obtain ⟨b, off, rfl, _⟩ := h.at_ (by omega)
    have := split_calls w b off (limbs n) cap hc hm h (dig_limbs n) (by omega) h4
    rwa [val_limbs] at this

/-- What sqrtLimbs returns. -/
def SqL (m : Nat) (v : Value) (w : World) : Prop := ∃ r, IsSq m r ∧ IsLimbs r v w

set_option maxRecDepth 100000 in
set_option maxHeartbeats 800000 in
theorem sqrtLimbs_small (w : World) (ao : Option Addr) (m cap : Nat) (h1 : (limbs m).length ≤ cap) (h2 : cap ≤ 9223372036854775807) (h3 : Cells w ao (limbs m)) (h4 : (limbs m).length ≤ 4) :
    Calls Try.prog 63 #[.slice ao (limbs m).length cap] w (Ret (SqL m) w) := by
  obtain ⟨r, hr⟩ := isSq_exists m
  have hm : m < 2 ^ 120 := Nat.lt_of_lt_of_le (lt_of_limbs_len h4) (by decide)
  have HV := Lib.hid (split_any w ao m cap h1 h2 h3 h4)
  have HS := Lib.hid (fun w => sqrtSmall_calls w m _ _ r rfl rfl hm hr)
  have hrb : r ≤ 18446744073709551615 := by
    rcases Nat.lt_or_ge r 18446744073709551616 with h | h
    · omega
    · have := sq_mono h
      have e : (2 : Nat) ^ 120 = 1329227995784915872903807060280344576 := by decide
      have := hr.1
      omega
  have HB := Lib.hid (And.intro hr hrb)
  have hl : ((limbs m).length : Int) ≤ 4 := by omega
  generalize m / 18446744073709551616 = hi at *
  generalize m % 18446744073709551616 = lo at *
  clear h1 h3 h4 hr hm hrb
  go_enter Try.func63, Try.ntmps63
  go_wp2_with fail
  refine HV.out.mono ?_
  rintro e w' ⟨rfl, rfl⟩
  go_wp2_with fail
  refine (HS.out _).mono ?_
  rintro e w1 ⟨rfl, e1⟩
  go_wp2_with fail
  refine (limbsOf_calls _ r HB.out.2).mono ?_
  rintro e w2 ⟨v, rfl, ⟨ao2, cap2, rfl, k1, k2, k3⟩, e2⟩
  go_wp2
  go_ret
  exact ⟨_, rfl, ⟨r, HB.out.1, _, _, rfl, k1, k2, k3⟩, e1.trans e2⟩

end Go.Proofs.Ytfjaboolfjgleaa
