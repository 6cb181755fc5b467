/-
  combine, of Lehmer's algorithm.
-/
import Derived.Test.YtfjaboolfjgleaaDivok
import Derived.Test.YtfjaboolfjgleaaLeh
namespace Go.Proofs.Ytfjaboolfjgleaa
open Go.RowKit

/-- What the loop of combine keeps. -/
def CombRel (w : World) (g : Nat) (xs ys : List Nat) (p q : Int) (k : Nat) (c : Int) (zs : List Nat) (wr : World) : Prop :=
  zs.length = xs.length ∧ Dig zs ∧ Blk wr g zs ∧ Ext w wr ∧ ((val (zs.take k) : Nat) : Int) + ((1000000000 ^ k : Nat) : Int) * c = p * ((val (xs.take k) : Nat) : Int) + q * ((val (ys.take k) : Nat) : Int) ∧
    -3000000000 ≤ c ∧ c ≤ 3000000000
section
variable {w : World} {g : Nat} {xs ys : List Nat} {p q : Int} {k : Nat} {c : Int} {zs : List Nat} {wr : World}
theorem CombRel.step (h : CombRel w g xs ys p q k c zs wr) (hg : w.heap.size ≤ g) (hk : k < xs.length) (c' : Int) (d : Nat) (hd : d < 1000000000)
    (he : (d : Int) + 1000000000 * c' = c + p * ((xs.getD k 0 : Nat) : Int) + q * ((ys.getD k 0 : Nat) : Int)) (h1 : -3000000000 ≤ c') (h2 : c' ≤ 3000000000) {V : Int} (hV : V = d) :
    CombRel w g xs ys p q (k + 1) c' (zs.set k d) (wr.setCell ⟨g, k, none⟩ (.int .u32 V)) := by
  obtain ⟨e1, e2, e3, e4, e5, _, _⟩ := h
  refine ⟨by simpa using e1, e2.set k hd, e3.set' k d (by omega) hV, e4.setCell (p := ⟨g, k, none⟩) hg _, ?_, h1, h2⟩
  rw [val_take_set _ _ _ (by omega), val_take_succ' xs, val_take_succ' ys, Nat.pow_succ]
  generalize 1000000000 ^ k = P at *
  generalize xs.getD k 0 = x at *
  generalize ys.getD k 0 = y at *
  generalize val (zs.take k) = A at *
  generalize val (xs.take k) = X at *
  generalize val (ys.take k) = Y at *
  have e : (P : Int) * ((d : Int) + 1000000000 * c') = (P : Int) * (c + p * (x : Int) + q * (y : Int)) := by rw [he]
  simp only [Int.natCast_add, Int.natCast_mul, Int.mul_add] at e e5 ⊢
  rw [show ((1000000000 : Nat) : Int) = 1000000000 from rfl]
  have m1 : (P : Int) * (p * (x : Int)) = p * ((P : Int) * (x : Int)) := Int.mul_left_comm _ _ _
  have m2 : (P : Int) * (q * (y : Int)) = q * ((P : Int) * (y : Int)) := Int.mul_left_comm _ _ _
  have m3 : (P : Int) * (1000000000 * c') = (P : Int) * 1000000000 * c' := (Int.mul_assoc _ _ _).symm
  omega
theorem CombRel.done (h : CombRel w g xs ys p q xs.length c zs wr) (hy : ys.length ≤ xs.length) {Z : Nat} (hZ : (Z : Int) = p * ((val xs : Nat) : Int) + q * ((val ys : Nat) : Int)) (hlt : Z < 1000000000 ^ xs.length) : val zs = Z := by
  obtain ⟨e1, e2, e3, e4, e5, _, _⟩ := h
  rw [List.take_of_length_le (by omega), List.take_of_length_le (Nat.le_refl _), List.take_of_length_le hy, ← hZ] at e5
  have hb := val_lt e2
  rw [e1] at hb
  generalize 1000000000 ^ xs.length = P at *
  rcases Int.lt_trichotomy c 0 with h1 | h1 | h1
  · have := Int.mul_le_mul_of_nonneg_left (show c ≤ -1 by omega) (show (0 : Int) ≤ (P : Int) by omega)
    omega
  · subst h1; omega
  · have := Int.mul_le_mul_of_nonneg_left (show 1 ≤ c by omega) (show (0 : Int) ≤ (P : Int) by omega)
    omega
end
theorem prod_bounds {p : Int} (hp : -1000000000 < p ∧ p < 1000000000) {x : Nat} (hx : x < 1000000000) : -1000000000000000000 ≤ p * (x : Int) ∧ p * (x : Int) ≤ 1000000000000000000 := by
  rcases Int.lt_or_le p 0 with h | h
  · have h1 : (-p) * (x : Int) ≤ 1000000000 * 1000000000 := Int.mul_le_mul (by omega) (by omega) (by omega) (by omega)
    have h2 : 0 ≤ (-p) * (x : Int) := Int.mul_nonneg (by omega) (by omega)
    rw [Int.neg_mul] at h1 h2
    omega
  · have h1 : p * (x : Int) ≤ 1000000000 * 1000000000 := Int.mul_le_mul (by omega) (by omega) (by omega) (by omega)
    have h2 : 0 ≤ p * (x : Int) := Int.mul_nonneg h (by omega)
    omega

set_option maxRecDepth 100000 in
set_option maxHeartbeats 1600000 in
theorem combine_calls (w : World) (ax ay : Option Addr) (xs ys : List Nat) (cx cy : Nat) (p q : Int) (Z : Nat) (lx : xs.length ≤ 1099511627776) (hyx : ys.length ≤ xs.length) (hx : Cells w ax xs) (hy : Cells w ay ys) (dx : Dig xs) (dy : Dig ys)
    (hp : -1000000000 < p ∧ p < 1000000000) (hq : -1000000000 < q ∧ q < 1000000000) (hZ : (Z : Int) = p * ((val xs : Nat) : Int) + q * ((val ys : Nat) : Int)) (hlt : Z < 1000000000 ^ xs.length) :
    Calls Try.prog 73 #[.slice ax xs.length cx, .slice ay ys.length cy, .int .i64 p, .int .i64 q] w (Ret (IsLimbs Z) w) := by
  have hmk := run_mk xs.length (by omega) ↑xs.length (by omega)
  have HZ := Lib.hid (And.intro hZ hlt)
  have HP := Lib.hid (And.intro hp hq)
  clear hZ hlt hp hq
  go_enter Try.func73, Try.ntmps73
  go_wp2
  clear hmk
  have h0 : CombRel w w.heap.size xs ys p q 0 0 (List.replicate xs.length 0) (w.alloc (.cells (u32s (List.replicate xs.length 0)) 46)) :=
    ⟨by simp, Dig.replicate _, Blk.new _ _, (Ext.refl w).alloc _, by simp [val], by omega, by omega⟩
  go_loopw [10, 11, 12, 13, 19] (fun c _ _ _ n wr => ∃ (k : Nat) (cv : Int) (zs : List Nat), k ≤ xs.length ∧ n = .int .i64 k ∧ c = .int .i64 cv ∧ CombRel w w.heap.size xs ys p q k cv zs wr) (fun _ _ _ _ n _ => xs.length - (intOf n).toNat)
  case atStart => exact ⟨0, 0, _, Nat.zero_le _, rfl, rfl, h0⟩
  case round =>
    obtain ⟨k, cv, zs, hk, rfl, rfl, hR⟩ := hrel
    clear h0
    by_cases hk2 : k < xs.length
    · have hzc := hR.2.2.1.cell k (by have := hR.1; omega)
      have hzf := hR.2.2.1.frozen k
      obtain ⟨b1, o1, rfl, hx1⟩ := hx.at_ (by omega)
      have hcx := hR.2.2.2.1.cell (hx1 k hk2)
      have bx0 := dx k
      have by0 := dy k
      have c1 := hR.2.2.2.2.2.1
      have c2 := hR.2.2.2.2.2.2
      have hst := fun c' d hd he h1 h2 V hV => hR.step (Nat.le_refl _) hk2 c' d hd he h1 h2 (V := V) hV
      obtain ⟨M, hM⟩ : ∃ M : Int, M = p * ((xs.getD k 0 : Nat) : Int) := ⟨_, rfl⟩
      obtain ⟨N, hN⟩ : ∃ N : Int, N = q * ((ys.getD k 0 : Nat) : Int) := ⟨_, rfl⟩
      obtain ⟨m1, m2⟩ := prod_bounds HP.out.1 bx0
      obtain ⟨n1, n2⟩ := prod_bounds HP.out.2 by0
      rw [← hM] at m1 m2
      rw [← hN] at n1 n2
      obtain ⟨T, hT⟩ : ∃ T : Int, T = cv + M + N := ⟨_, rfl⟩
      rw [← hM, ← hN, ← hT] at hst
      obtain ⟨q1, hq1⟩ : ∃ q1 : Int, q1 = T.tdiv 1000000000 := ⟨_, rfl⟩
      obtain ⟨r1, hr1⟩ : ∃ r1 : Int, r1 = T.tmod 1000000000 := ⟨_, rfl⟩
      have hqr := Int.tmod_add_mul_tdiv T 1000000000
      have hrl := Int.tmod_lt_of_pos T (show (0 : Int) < 1000000000 by omega)
      have hrg : -1000000000 < r1 := by rw [hr1]; have := Int.lt_tmod_of_pos T (show (0 : Int) < 1000000000 by omega); omega
      rw [← hq1, ← hr1] at hqr
      rw [← hr1] at hrl
      have HST := Lib.hid hst
      have HT := Lib.hid (And.intro hT (And.intro hqr (And.intro m1 (And.intro m2 (And.intro n1 n2)))))
      have hN0 : ¬ k < ys.length → N = 0 := fun h => by rw [hN, List.getD_eq_getElem?_getD, List.getElem?_eq_none (by omega)]; simp
      have hMI := hM.symm
      have kn : (k : Int) < (xs.length : Int) := by omega
      have hrT := hr1.symm
      have hqT := hq1.symm
      have b1 : (-1000000000000000001 : Int) ≤ M := by omega
      have b2 : M ≤ (1000000000000000002 : Int) := by omega
      have b3 : (-1000000000000000003 : Int) ≤ N := by omega
      have b4 : N ≤ (1000000000000000004 : Int) := by omega
      clear hst hT hqr hM hr1 hq1 m1 m2 n1 n2
      by_cases hky : k < ys.length
      · obtain ⟨b2', o2, rfl, hy1⟩ := hy.at_ (by omega)
        have hcy := hR.2.2.2.1.cell (hy1 k hky)
        have hNI := hN.symm
        have kny : (k : Int) < (ys.length : Int) := by omega
        have HH := HT.out
        have t1 : cv + M + N = T := by omega
        have t2 : (-3000000000000000005 : Int) ≤ T := by omega
        have t3 : T ≤ (3000000000000000006 : Int) := by omega
        have HQ := Lib.hid (show -2999999990 ≤ q1 ∧ q1 ≤ 2999999990 by omega)
        have u1 : (-2999999991 : Int) ≤ q1 := by have := HQ.out.1; omega
        have u2 : q1 ≤ (2999999992 : Int) := by have := HQ.out.2; omega
        have bx : ((xs.getD k 0 : Nat) : Int) ≤ 999999999 := by omega
        have by_ : ((ys.getD k 0 : Nat) : Int) ≤ 1000000001 := by omega
        clear hN hN0 hx1 hy1 hR bx0 by0 HH
        generalize xs.getD k 0 = x at *
        generalize ys.getD k 0 = y at *
        by_cases hr : r1 < 0
        · obtain ⟨d, hd⟩ : ∃ d : Nat, r1 + 1000000000 = (d : Int) := ⟨(r1 + 1000000000).toNat, by omega⟩
          have hd2 : (d : Int) < 1000000000 := by omega
          have HS := Lib.hid (HST.out (q1 - 1) d (by omega) (by have := HT.out; omega) (by have := HQ.out; omega) (by have := HQ.out; omega) d rfl)
          go_wp2
          go_roundw
          case rel => exact ⟨k + 1, _, _, by omega, by go_num, rfl, HS.out⟩
          case measure => simp [intOf]; omega
        · obtain ⟨d, hd⟩ : ∃ d : Nat, r1 = (d : Int) := ⟨r1.toNat, by omega⟩
          have hd2 : (d : Int) < 1000000000 := by omega
          have HS := Lib.hid (HST.out q1 d (by omega) (by have := HT.out; omega) (by have := HQ.out; omega) (by have := HQ.out; omega) d rfl)
          rw [hd] at hrT hr
          clear hd hrl hrg
          go_wp2
          go_roundw
          case rel => exact ⟨k + 1, _, _, by omega, by go_num, rfl, HS.out⟩
          case measure => simp [intOf]; omega
      · have HN := Lib.hid (hN0 hky)
        have t1 : cv + M = T := by have := HT.out; have := HN.out; omega
        have t2 : (-3000000000000000005 : Int) ≤ T := by omega
        have t3 : T ≤ (3000000000000000006 : Int) := by omega
        have HQ := Lib.hid (show -2999999990 ≤ q1 ∧ q1 ≤ 2999999990 by have := HT.out; omega)
        have u1 : (-2999999991 : Int) ≤ q1 := by have := HQ.out.1; omega
        have u2 : q1 ≤ (2999999992 : Int) := by have := HQ.out.2; omega
        have kny : (ys.length : Int) ≤ (k : Int) := by omega
        have bx : ((xs.getD k 0 : Nat) : Int) ≤ 999999999 := by omega
        clear hN hN0 hx1 hR bx0 by0
        generalize xs.getD k 0 = x at *
        generalize ys.getD k 0 = y at *
        by_cases hr : r1 < 0
        · obtain ⟨d, hd⟩ : ∃ d : Nat, r1 + 1000000000 = (d : Int) := ⟨(r1 + 1000000000).toNat, by omega⟩
          have hd2 : (d : Int) < 1000000000 := by omega
          have HS := Lib.hid (HST.out (q1 - 1) d (by omega) (by have := HT.out; omega) (by have := HQ.out; omega) (by have := HQ.out; omega) d rfl)
          go_wp2
          go_roundw
          case rel => exact ⟨k + 1, _, _, by omega, by go_num, rfl, HS.out⟩
          case measure => simp [intOf]; omega
        · obtain ⟨d, hd⟩ : ∃ d : Nat, r1 = (d : Int) := ⟨r1.toNat, by omega⟩
          have hd2 : (d : Int) < 1000000000 := by omega
          have HS := Lib.hid (HST.out q1 d (by omega) (by have := HT.out; omega) (by have := HQ.out; omega) (by have := HQ.out; omega) d rfl)
          rw [hd] at hrT hr
          clear hd hrl hrg
          go_wp2
          go_roundw
          case rel => exact ⟨k + 1, _, _, by omega, by go_num, rfl, HS.out⟩
          case measure => simp [intOf]; omega
    · obtain rfl : k = xs.length := by omega
      have hD := hR.done hyx HZ.out.1 HZ.out.2
      have hE := hR.2.2.2.1
      have hT := trim_calls wr (some ⟨w.heap.size, 0, none⟩) zs zs.length (Nat.le_refl _) (by rw [hR.1]; omega) hR.2.2.1.cells hR.2.1
      have hF := hR.2.2.1.cells.trim hR.2.1
      have hl : (limbs (val zs)).length ≤ zs.length := by rw [← trimN_length hR.2.1]; exact trimN_le _ _
      rw [hD] at hT hF hl
      rw [hR.1] at hT hl
      have T := Lib.hid hT
      have HF := Lib.hid (And.intro hF hl)
      clear hR hT hF hl hD
      go_wp2_with fail
      refine T.out.mono ?_
      rintro e w' ⟨rfl, rfl⟩
      go_wp2
      go_ret
      exact ⟨_, rfl, ⟨_, _, rfl, HF.out.2, by omega, HF.out.1⟩, hE⟩

end Go.Proofs.Ytfjaboolfjgleaa
