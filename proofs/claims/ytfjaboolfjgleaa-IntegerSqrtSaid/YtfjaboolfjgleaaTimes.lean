/-
  The reference's product of lists of limbs.
-/
import Derived.Test.YtfjaboolfjgleaaSub
namespace Go.Proofs.Ytfjaboolfjgleaa
open Go.RowKit

theorem val_set : ∀ (zs : List Nat) (i d : Nat), i < zs.length → val (zs.set i d) + 1000000000 ^ i * zs.getD i 0 = val zs + 1000000000 ^ i * d := by
  intro zs
  induction zs with
  | nil => intro i d h; simp at h
  | cons z r ih =>
    intro i d h
    cases i with
    | zero => simp [val]; omega
    | succ i =>
      have := ih i d (by simpa using h)
      simp only [List.set_cons_succ, val, List.getD_cons_succ, Nat.pow_succ]
      generalize 1000000000 ^ i = p at *
      have e1 : p * 1000000000 * r.getD i 0 = 1000000000 * (p * r.getD i 0) := by rw [Nat.mul_comm p, Nat.mul_assoc]
      have e2 : p * 1000000000 * d = 1000000000 * (p * d) := by rw [Nat.mul_comm p, Nat.mul_assoc]
      rw [e1, e2]; omega
theorem getD_set_same (zs : List Nat) (i d : Nat) (h : i < zs.length) : (zs.set i d).getD i 0 = d := by
  simp [List.getD_eq_getElem?_getD, h]

/-- Products of limbs fit. -/
theorem mul_lt (x y : Nat) (hx : x < 1000000000) (hy : y < 1000000000) : x * y ≤ 999999998000000001 := by
  have : x * y ≤ 999999999 * 999999999 := Nat.mul_le_mul (by omega) (by omega)
  omega

/-- What holds after i rounds of the outer loop. -/
def TimesOut (w : World) (g : Nat) (xs ys : List Nat) (i : Nat) (wr : World) : Prop :=
  ∃ zs : List Nat, zs.length = xs.length + ys.length ∧ Dig zs ∧ Blk wr g zs ∧ Ext w wr ∧ val zs = val (xs.take i) * val ys ∧ ∀ j, i + ys.length ≤ j → zs.getD j 0 = 0
/-- What holds after k rounds of the inner loop. -/
def TimesIn (w : World) (g : Nat) (xs ys : List Nat) (i k cv : Nat) (wr : World) : Prop :=
  ∃ zs : List Nat, zs.length = xs.length + ys.length ∧ Dig zs ∧ Blk wr g zs ∧ Ext w wr ∧
    val zs + 1000000000 ^ (i + k) * cv = val (xs.take i) * val ys + 1000000000 ^ i * (xs.getD i 0 * val (ys.take k)) ∧ ∀ j, i + ys.length ≤ j → zs.getD j 0 = 0
theorem TimesOut.begin_ {w : World} {g : Nat} {xs ys : List Nat} {i : Nat} {wr : World} (h : TimesOut w g xs ys i wr) : TimesIn w g xs ys i 0 0 wr := by
  obtain ⟨zs, h1, h2, h3, h4, h5, h6⟩ := h
  exact ⟨zs, h1, h2, h3, h4, by simp [val, h5], h6⟩
theorem TimesIn.at_ {w : World} {g : Nat} {xs ys : List Nat} {i k cv : Nat} {wr : World} (h : TimesIn w g xs ys i k cv wr) (hg : w.heap.size ≤ g) (hi : i < xs.length) (hk : k < ys.length) :
    ∃ z : Nat, (z : Int) < 1000000000 ∧ wr.cell? ⟨g, i + k, none⟩ = some (.int .u32 (z : Int)) ∧ wr.frozen? ⟨g, i + k, none⟩ = false ∧ Ext w wr ∧
      Hid (∀ (nq t : Nat) (V : Int), t = cv + z + xs.getD i 0 * ys.getD k 0 → V = ((t % 1000000000 : Nat) : Int) → TimesIn w g xs ys i (k + 1) (t / 1000000000) ((wr.drewN nq).setCell ⟨g, i + k, none⟩ (.int .u32 V))) := by
  obtain ⟨zs, h1, h2, h3, h4, h5, h6⟩ := h
  refine ⟨zs.getD (i + k) 0, by have := h2 (i + k); omega, h3.cell _ (by omega), h3.frozen _, h4, fun nq t V ht hV => ?_⟩
  have h3' : Blk (wr.drewN nq) g zs := h3
  refine ⟨zs.set (i + k) (t % 1000000000), by simpa using h1, h2.set _ (by omega), h3'.set' _ _ (by omega) hV, (h4.drewN nq).setCell (p := ⟨g, i + k, none⟩) hg _, ?_, fun j hj => by rw [getD_set_other _ _ _ _ (by omega)]; exact h6 j hj⟩
  have e := val_set zs (i + k) (t % 1000000000) (by omega)
  rw [val_take_succ']
  have ep : 1000000000 ^ (i + (k + 1)) = 1000000000 ^ (i + k) * 1000000000 := by rw [← Nat.add_assoc, Nat.pow_succ]
  have eq : 1000000000 ^ (i + k) = 1000000000 ^ i * 1000000000 ^ k := Nat.pow_add _ _ _
  rw [ep]
  have et : t = t % 1000000000 + 1000000000 * (t / 1000000000) := by omega
  have e3 : 1000000000 ^ (i + k) * t = 1000000000 ^ (i + k) * (t % 1000000000) + 1000000000 ^ (i + k) * 1000000000 * (t / 1000000000) := by
    rw [Nat.mul_assoc, ← Nat.mul_add, ← et]
  have e4 : 1000000000 ^ (i + k) * t = 1000000000 ^ (i + k) * cv + 1000000000 ^ (i + k) * zs.getD (i + k) 0 + 1000000000 ^ (i + k) * (xs.getD i 0 * ys.getD k 0) := by
    rw [ht, Nat.mul_add, Nat.mul_add]
  have e5 : 1000000000 ^ i * (xs.getD i 0 * (val (ys.take k) + 1000000000 ^ k * ys.getD k 0)) = 1000000000 ^ i * (xs.getD i 0 * val (ys.take k)) + 1000000000 ^ (i + k) * (xs.getD i 0 * ys.getD k 0) := by
    rw [eq, Nat.mul_add, Nat.mul_add, Nat.mul_left_comm (xs.getD i 0) (1000000000 ^ k), Nat.mul_assoc]
  rw [e5]
  omega
theorem TimesIn.end_ {w : World} {g : Nat} {xs ys : List Nat} {i k cv : Nat} {wr : World} (h : TimesIn w g xs ys i k cv wr) (hg : w.heap.size ≤ g) (hi : i < xs.length) (hk : k = ys.length) (hc : cv < 1000000000) :
    wr.cell? ⟨g, i + ys.length, none⟩ = some (.int .u32 0) ∧ wr.frozen? ⟨g, i + ys.length, none⟩ = false ∧ Hid (∀ V : Int, V = (cv : Int) → TimesOut w g xs ys (i + 1) (wr.setCell ⟨g, i + ys.length, none⟩ (.int .u32 V))) := by
  subst hk
  obtain ⟨zs, h1, h2, h3, h4, h5, h6⟩ := h
  have hz := h6 (i + ys.length) (Nat.le_refl _)
  refine ⟨by rw [h3.cell _ (by omega), hz]; rfl, h3.frozen _, fun V hV => ?_⟩
  refine ⟨zs.set (i + ys.length) cv, by simpa using h1, h2.set _ hc, h3.set' _ _ (by omega) hV, h4.setCell (p := ⟨g, i + ys.length, none⟩) hg _, ?_, fun j hj => by rw [getD_set_other _ _ _ _ (by omega)]; exact h6 j (by omega)⟩
  have e := val_set zs (i + ys.length) cv (by omega)
  rw [hz, Nat.mul_zero, Nat.add_zero, h5, List.take_of_length_le (Nat.le_refl _)] at e
  rw [e, val_take_succ', Nat.add_mul, Nat.mul_assoc]

set_option maxRecDepth 100000 in
set_option maxHeartbeats 1600000 in
theorem times_calls (w : World) (ax ay : Option Addr) (xs ys : List Nat) (cx cy : Nat) (lx : xs.length ≤ 1099511627776) (ly : ys.length ≤ 1099511627776) (hx : Cells w ax xs) (hy : Cells w ay ys) (dx : Dig xs) (dy : Dig ys) :
    Calls Try.prog 56 #[.slice ax xs.length cx, .slice ay ys.length cy] w (Ret (IsLimbs (val xs * val ys)) w) := by
  have hmk := run_mk (xs.length + ys.length) (by omega) (↑xs.length + ↑ys.length) (by omega)
  go_enter Try.func56, Try.ntmps56
  go_wp2
  clear hmk
  have h0 : TimesOut w w.heap.size xs ys 0 (w.alloc (.cells (u32s (List.replicate (xs.length + ys.length) 0)) 46)) := by
    refine ⟨List.replicate (xs.length + ys.length) 0, by simp, Dig.replicate _, Blk.new _ _, (Ext.refl w).alloc _, ?_, ?_⟩
    · have : ∀ n, val (List.replicate n 0) = 0 := by
        intro n; induction n with
        | zero => rfl
        | succ n ih => rw [List.replicate_succ, val, ih]
      rw [this]; simp [val]
    · intro j _; simp only [List.getD_eq_getElem?_getD, List.getElem?_replicate]; split <;> rfl
  go_loopw [6, 7, 8] (fun i _ _ wr => ∃ k : Nat, k ≤ xs.length ∧ i = .int .i64 k ∧ TimesOut w w.heap.size xs ys k wr) (fun i _ _ _ => xs.length - (intOf i).toNat)
  case atStart => exact ⟨0, Nat.zero_le _, rfl, h0⟩
  case round =>
    obtain ⟨i, hi, rfl, hR⟩ := hrel
    clear h0
    by_cases hi2 : i < xs.length
    · have hR0 := hR.begin_
      clear hR
      obtain ⟨b1, o1, rfl, hx1⟩ := hx.at_ (by omega)
      have bx0 := dx i
      go_wp2
      obtain ⟨wo, rfl⟩ : ∃ wo : World, wo = wr := ⟨_, rfl⟩
      go_loopw [7, 8] (fun c n wr => ∃ k cv : Nat, k ≤ ys.length ∧ n = .int .i64 k ∧ c = .int .u64 cv ∧ (cv : Int) < 1000000000 ∧ TimesIn w w.heap.size xs ys i k cv wr) (fun _ n _ => ys.length - (intOf n).toNat)
      case atStart => exact ⟨0, 0, Nat.zero_le _, rfl, rfl, by omega, hR0⟩
      case round =>
        obtain ⟨k, cv, hk, rfl, rfl, hcv, hR⟩ := hrel
        clear hR0
        by_cases hk2 : k < ys.length
        · obtain ⟨b2, o2, rfl, hy1⟩ := hy.at_ (by omega)
          obtain ⟨z, bz, hzc, hzf, hE, HST⟩ := hR.at_ (Nat.le_refl _) hi2 hk2
          have hcx := hE.cell (hx1 i hi2)
          have hcy := hE.cell (hy1 k hk2)
          have by0 := dy k
          clear hR hx1 hy1 dx dy hx hy
          generalize xs.getD i 0 = x at *
          generalize ys.getD k 0 = y at *
          have hm := mul_lt x y bx0 by0
          have bm : (x : Int) * (y : Int) ≤ 999999998000000001 := by rw [← Int.natCast_mul]; omega
          have bm0 : 0 ≤ (x : Int) * (y : Int) := by rw [← Int.natCast_mul]; omega
          have bx : (x : Int) < 1000000000 := by omega
          have by_ : (y : Int) < 1000000000 := by omega
          clear bx0 by0 hm
          have hi3 : (i : Int) < (xs.length : Int) := by omega
          have hk3 : (k : Int) < (ys.length : Int) := by omega
          go_wp2
          go_quiet (fail)
          go_wp2
          go_roundw
          case rel => exact ⟨k + 1, (cv + z + x * y) / 1000000000, by omega, by go_num, by rw [Int.natCast_ediv]; simp, by rw [Int.natCast_ediv]; simp; omega, HST.out _ _ _ rfl (by rw [Int.natCast_emod]; simp)⟩
          case measure => simp [intOf]; omega
        · obtain ⟨hzc, hzf, HST⟩ := hR.end_ (Nat.le_refl _) hi2 (by omega) (by omega)
          clear hx1 hR dx dy hx hy bx0
          go_wp2
          go_roundw
          case rel => exact ⟨i + 1, by omega, by go_num, HST.out _ (by omega)⟩
          case measure => simp [intOf]; omega
    · obtain ⟨zs, h1, h2, h3, h4, h5, _⟩ := hR
      rw [List.take_of_length_le (by omega)] at h5
      have R1 := Lib.hid h1
      have R5 := Lib.hid h5
      clear h1 h5 dx dy
      go_wp2_with fail
      rw [← R1.out]
      refine (rtrim_calls _ _ _ _ (Nat.le_refl _) (by rw [R1.out]; omega) h3.cells h2).mono ?_
      rintro e w' ⟨rfl, rfl⟩
      go_wp2
      go_ret
      exact ⟨_, rfl, by rw [← R5.out]; exact ⟨_, _, rfl, by rw [← trimN_length h2]; exact trimN_le _ _, by rw [R1.out]; omega, h3.cells.trim h2⟩, h4⟩

end Go.Proofs.Ytfjaboolfjgleaa
