/-
  The program's product of lists of limbs.
-/
import Derived.Test.YtfjaboolfjgleaaTimes
namespace Go.Proofs.Ytfjaboolfjgleaa
open Go.RowKit

/-- The sum of the products of limbs i and k - i. -/
def conv : List Nat → List Nat → Nat → Nat
  | [], _, _ => 0
  | x :: _, ys, 0 => x * ys.getD 0 0
  | x :: r, ys, k + 1 => x * ys.getD (k + 1) 0 + conv r ys k
/-- The sum of all products of limbs below place k, as a number. -/
def mulLow : List Nat → List Nat → Nat → Nat
  | [], _, _ => 0
  | _ :: _, _, 0 => 0
  | x :: r, ys, k + 1 => x * val (ys.take (k + 1)) + 1000000000 * mulLow r ys k
theorem mulLow_zero (xs ys : List Nat) : mulLow xs ys 0 = 0 := by cases xs <;> rfl
theorem mulLow_succ : ∀ (xs ys : List Nat) (k : Nat), mulLow xs ys (k + 1) = mulLow xs ys k + 1000000000 ^ k * conv xs ys k := by
  intro xs
  induction xs with
  | nil => intros; simp [mulLow, conv]
  | cons x r ih =>
    intro ys k
    cases k with
    | zero => simp only [mulLow, conv, mulLow_zero, val_take_succ']; simp [val]
    | succ k =>
      rw [mulLow, val_take_succ', ih ys k]
      simp only [mulLow, conv, Nat.pow_succ]
      generalize 1000000000 ^ k = p
      generalize ys.getD (k + 1) 0 = y
      generalize conv r ys k = c
      have e1 : x * (val (List.take (k + 1) ys) + p * 1000000000 * y) = x * val (List.take (k + 1) ys) + p * 1000000000 * (x * y) := by
        rw [Nat.mul_add, Nat.mul_left_comm x]
      have e2 : p * 1000000000 * (x * y + c) = p * 1000000000 * (x * y) + 1000000000 * (p * c) := by
        rw [Nat.mul_add, Nat.mul_comm p, Nat.mul_assoc 1000000000 p c]
      rw [e1, e2, Nat.mul_add]; omega
theorem mulLow_all : ∀ (xs ys : List Nat) (n : Nat), xs.length + ys.length ≤ n → mulLow xs ys n = val xs * val ys := by
  intro xs
  induction xs with
  | nil => intros; simp [mulLow, val]
  | cons x r ih =>
    intro ys n h
    cases n with
    | zero => simp at h
    | succ n =>
      rw [mulLow, ih ys n (by simp at h; omega), List.take_of_length_le (by simp at h; omega), val, Nat.add_mul, Nat.mul_assoc]
theorem conv_zero : ∀ (xs ys : List Nat) (k : Nat), xs.length + ys.length ≤ k + 1 → conv xs ys k = 0 := by
  intro xs
  induction xs with
  | nil => intros; rfl
  | cons x r ih =>
    intro ys k h
    simp at h
    have hy : ys.getD k 0 = 0 := by rw [List.getD_eq_getElem?_getD, List.getElem?_eq_none (by omega)]; rfl
    cases k with
    | zero => rw [conv, hy]; rfl
    | succ k => rw [conv, hy, ih ys k (by omega)]; rfl
theorem conv_snoc : ∀ (xs ys : List Nat) (k : Nat) (x : Nat), xs.length ≤ k → conv (xs ++ [x]) ys k = conv xs ys k + x * ys.getD (k - xs.length) 0 := by
  intro xs
  induction xs with
  | nil => intro ys k x _; cases k <;> simp [conv]
  | cons a r ih =>
    intro ys k x h
    simp at h
    cases k with
    | zero => omega
    | succ k =>
      simp only [List.cons_append, conv, ih ys k x (by omega), List.length_cons, Nat.succ_sub_succ]
      omega
theorem conv_take : ∀ (xs ys : List Nat) (k n : Nat), k < n → conv (xs.take n) ys k = conv xs ys k := by
  intro xs
  induction xs with
  | nil => intros; simp
  | cons x r ih =>
    intro ys k n h
    cases n with
    | zero => omega
    | succ n =>
      cases k with
      | zero => rfl
      | succ k => simp only [List.take_succ_cons, conv, ih ys k n (by omega)]
theorem conv_le : ∀ (xs ys : List Nat) (k : Nat), Dig xs → Dig ys → conv xs ys k ≤ xs.length * 999999998000000001 := by
  intro xs
  induction xs with
  | nil => intros; simp [conv]
  | cons x r ih =>
    intro ys k hx hy
    have := mul_lt x (ys.getD k 0) hx.head (hy k)
    cases k with
    | zero => simp only [conv, List.length_cons, Nat.add_mul]; omega
    | succ k =>
      have := ih ys k hx.tail hy
      simp only [conv, List.length_cons, Nat.add_mul]; omega

/-- What holds after k rounds of the outer loop. -/
def MulOut (w : World) (g : Nat) (xs ys : List Nat) (k cv : Nat) (wr : World) : Prop :=
  ∃ zs : List Nat, zs.length = xs.length + ys.length ∧ Dig zs ∧ Blk wr g zs ∧ Ext w wr ∧ val (zs.take k) + 1000000000 ^ k * cv = mulLow xs ys k ∧ cv ≤ xs.length * 1000000000
theorem MulOut.at_ {w : World} {g : Nat} {xs ys : List Nat} {k cv : Nat} {wr : World} (h : MulOut w g xs ys k cv wr) (hg : w.heap.size ≤ g) (dx : Dig xs) (dy : Dig ys) (hk : k < xs.length + ys.length) :
    (∃ z : Nat, wr.cell? ⟨g, k, none⟩ = some (.int .u32 (z : Int))) ∧ wr.frozen? ⟨g, k, none⟩ = false ∧ Ext w wr ∧
      Hid (∀ (j t f : Nat) (V : Int), t + 1000000000 * f = cv + conv xs ys k → V = ((t % 1000000000 : Nat) : Int) → MulOut w g xs ys (k + 1) (t / 1000000000 + f) ((wr.drewN j).setCell ⟨g, k, none⟩ (.int .u32 V))) := by
  obtain ⟨zs, h1, h2, h3, h4, h5, h6⟩ := h
  refine ⟨⟨_, h3.cell k (by omega)⟩, h3.frozen _, h4, fun j t f V ht hV => ?_⟩
  have h3' : Blk (wr.drewN j) g zs := h3
  refine ⟨zs.set k (t % 1000000000), by simpa using h1, h2.set _ (by omega), h3'.set' _ _ (by omega) hV, (h4.drewN j).setCell (p := ⟨g, k, none⟩) hg _, ?_, ?_⟩
  · rw [val_take_set _ _ _ (by omega), mulLow_succ, ← h5, Nat.pow_succ]
    generalize 1000000000 ^ k = p
    have e : p * (t + 1000000000 * f) = p * cv + p * conv xs ys k := by rw [ht, Nat.mul_add]
    have e2 : p * t = p * (t % 1000000000) + p * 1000000000 * (t / 1000000000) := by
      rw [Nat.mul_assoc, ← Nat.mul_add]; congr 1; omega
    rw [Nat.mul_add, ← Nat.mul_assoc] at e
    rw [Nat.mul_add]
    omega
  · have := conv_le xs ys k dx dy
    have e : xs.length * 1000000000 + xs.length * 999999998000000001 ≤ xs.length * 1000000000000000000 := by omega
    omega
theorem MulOut.carry {w : World} {g : Nat} {xs ys : List Nat} {k cv : Nat} {wr : World} (h : MulOut w g xs ys k cv wr) (lx : xs.length ≤ 1048576) (dx : Dig xs) (dy : Dig ys) :
    (cv : Int) ≤ 1048576000000000 ∧ ∀ i, cv + conv (xs.take i) ys k ≤ 1048576000000000000000000 := by
  obtain ⟨zs, h1, h2, h3, h4, h5, h6⟩ := h
  refine ⟨by omega, fun i => ?_⟩
  have h7 := conv_le (xs.take i) ys k (dx.take i) dy
  rw [List.length_take] at h7
  have : min i xs.length * 999999998000000001 ≤ 1048576 * 999999998000000001 := Nat.mul_le_mul_right _ (by omega)
  omega
theorem vint {k : IntKind} {a b : Int} (h : a = b) : Value.int k a = .int k b := by rw [h]
/-- What the inner loop keeps: its sum in two parts, and how far it has come. -/
def MulIn (xs ys : List Nat) (k cv i t f : Nat) : Prop := t + 1000000000 * f = cv + conv (xs.take i) ys k
theorem MulIn.start {xs ys : List Nat} {k cv i : Nat} (hi : i + ys.length ≤ k + 1 ∨ i = 0) (hi' : i ≤ xs.length) : MulIn xs ys k cv i cv 0 := by
  unfold MulIn
  rcases hi with hi | rfl
  · rw [conv_zero _ _ _ (by rw [List.length_take]; omega)]
  · cases k <;> simp [conv]
theorem MulIn.step {xs ys : List Nat} {k cv i t f : Nat} (h : MulIn xs ys k cv i t f) (hi : i ≤ k) (hi' : i < xs.length) (t' f' : Nat) (he : t' + 1000000000 * f' = t + 1000000000 * f + xs.getD i 0 * ys.getD (k - i) 0) : MulIn xs ys k cv (i + 1) t' f' := by
  unfold MulIn at *
  have hc := conv_snoc (xs.take i) ys k (xs.getD i 0) (by rw [List.length_take]; omega)
  rw [List.length_take, Nat.min_eq_left (by omega)] at hc
  rw [take_succ_getD _ _ hi', hc]; omega
theorem MulIn.done {xs ys : List Nat} {k cv i t f : Nat} (h : MulIn xs ys k cv i t f) (hi : k + 1 ≤ i ∨ xs.length ≤ i) : t + 1000000000 * f = cv + conv xs ys k := by
  unfold MulIn at h
  rcases hi with hi | hi
  · rwa [conv_take _ _ _ _ (by omega)] at h
  · rwa [List.take_of_length_le hi] at h

set_option maxRecDepth 100000 in
set_option maxHeartbeats 1600000 in
theorem multiplyLimbs_calls (w : World) (ax ay : Option Addr) (xs ys : List Nat) (cx cy : Nat) (lx : xs.length ≤ 1048576) (ly : ys.length ≤ 1099511627776) (hx : Cells w ax xs) (hy : Cells w ay ys) (dx : Dig xs) (dy : Dig ys) :
    Calls Try.prog 55 #[.slice ax xs.length cx, .slice ay ys.length cy] w (Ret (IsLimbs (val xs * val ys)) w) := by
  have hmk := run_mk (xs.length + ys.length) (by omega) (↑xs.length + ↑ys.length) (by omega)
  go_enter Try.func55, Try.ntmps55
  go_wp2
  clear hmk
  have h0 : MulOut w w.heap.size xs ys 0 0 (w.alloc (.cells (u32s (List.replicate (xs.length + ys.length) 0)) 46)) :=
    ⟨List.replicate (xs.length + ys.length) 0, by simp, Dig.replicate _, Blk.new _ _, (Ext.refl w).alloc _, by simp [val, mulLow_zero], by omega⟩
  go_loopw [6, 7, 8, 9, 10, 11, 12, 21] (fun c _ _ _ _ _ _ n wr => ∃ k cv : Nat, k ≤ xs.length + ys.length ∧ n = .int .i64 k ∧ c = .int .u64 cv ∧ MulOut w w.heap.size xs ys k cv wr) (fun _ _ _ _ _ _ _ n _ => xs.length + ys.length - (intOf n).toNat)
  case atStart => exact ⟨0, 0, Nat.zero_le _, rfl, rfl, h0⟩
  case round =>
    obtain ⟨k, cv, hk, rfl, rfl, hR⟩ := hrel
    clear h0
    obtain ⟨hcv, hbd⟩ := hR.carry lx dx dy
    by_cases hk2 : k < xs.length + ys.length
    · obtain ⟨⟨z, hzc⟩, hzf, hE, HST⟩ := hR.at_ (Nat.le_refl _) dx dy hk2
      have HB := Lib.hid hbd
      clear hbd hR
      have lxI : (xs.length : Int) ≤ 1048576 := by omega
      have lyI : (ys.length : Int) ≤ 1099511627776 := by omega
      clear lx ly
      obtain ⟨wo, rfl⟩ : ∃ wo : World, wo = wr := ⟨_, rfl⟩
      by_cases h1 : k + 1 ≤ ys.length <;> by_cases h2 : k + 1 ≤ xs.length
      all_goals
        go_wp2
        go_loopw [8, 9, 12] (fun t f i wi => ∃ i' t' f' j : Nat, i = .int .i64 i' ∧ t = .int .u64 t' ∧ f = .int .u64 f' ∧ (t' : Int) < 8000000000000000000 ∧ k + 1 ≤ i' + ys.length ∧ i' ≤ xs.length ∧ i' ≤ k + 1 ∧ Hid (MulIn xs ys k cv i' t' f') ∧ Hid (wi = wo.drewN j)) (fun _ _ i _ => xs.length - (intOf i).toNat)
        case atStart => first | exact ⟨0, cv, 0, 0, rfl, rfl, rfl, by omega, by omega, by omega, by omega, MulIn.start (.inr rfl) (by omega), rfl⟩ | exact ⟨k + 1 - ys.length, cv, 0, 0, by go_num, rfl, rfl, by omega, by omega, by omega, by omega, MulIn.start (.inl (by omega)) (by omega), rfl⟩
        case round =>
          obtain ⟨i, t, f, j, rfl, rfl, rfl, ht, hi1, hi2, hi3, HI, HW⟩ := hrel
          have hf : (f : Int) ≤ 1048576000000000 := by have := HI.out; have := HB.out i; unfold MulIn at *; omega
          by_cases hi : i < k + 1 ∧ i < xs.length
          · obtain ⟨hi4, hi5⟩ := hi
            have hi6 : k - i < ys.length := by omega
            obtain ⟨b1, o1, rfl, hx1⟩ := hx.at_ (by omega)
            obtain ⟨b2, o2, rfl, hy1⟩ := hy.at_ (by omega)
            have hcx : wr.cell? ⟨b1, o1 + i, none⟩ = some (.int .u32 ((xs.getD i 0 : Nat) : Int)) := by rw [HW.out]; exact hE.cell (hx1 i hi5)
            have hcy : wr.cell? ⟨b2, o2 + (k - i), none⟩ = some (.int .u32 ((ys.getD (k - i) 0 : Nat) : Int)) := by rw [HW.out]; exact hE.cell (hy1 (k - i) hi6)
            have HS := Lib.hid (fun t' f' he => HI.out.step (by omega) hi5 t' f' he)
            have bx0 := dx i
            have by0 := dy (k - i)
            clear hx1 hy1 hx hy dx dy hzc hzf
            generalize xs.getD i 0 = x at *
            generalize ys.getD (k - i) 0 = y at *
            have hm := mul_lt x y bx0 by0
            have bm : (x : Int) * (y : Int) ≤ 999999998000000001 := by rw [← Int.natCast_mul]; omega
            have bm0 : 0 ≤ (x : Int) * (y : Int) := by rw [← Int.natCast_mul]; omega
            have bx : (x : Int) < 1000000000 := by omega
            have by_ : (y : Int) < 1000000000 := by omega
            clear bx0 by0 hm
            have hi4I : (i : Int) < (k : Int) + 1 := by omega
            have hi5I : (i : Int) < (xs.length : Int) := by omega
            have hi6I : (k : Int) - (i : Int) < (ys.length : Int) := by omega
            have ek : ((k : Int) - (i : Int)).toNat = k - i := by omega
            have HN := Lib.hid (show k + 1 ≤ i + 1 + ys.length ∧ i + 1 ≤ xs.length ∧ i + 1 ≤ k + 1 by omega)
            have HK := Lib.hid ek
            clear hi1 hi2 hi3 hi4 hi5 hi6 h1 h2 hk hk2 ek
            rcases Int.lt_or_le ((t : Int) + x * y) 8000000000000000000 with hb | hb
            rotate_left
            · go_wp2
              go_quiet (fail)
              go_wp2
              go_roundw
              case rel => exact ⟨i + 1, t + x * y - 8000000000000000000, f + 8000000000, _, by go_num, vint (by rw [← Int.natCast_mul] at hb ⊢; omega), by go_num, by rw [← Int.natCast_mul] at bm hb; omega, HN.out.1, HN.out.2.1, HN.out.2.2, HS.out _ _ (by rw [← Int.natCast_mul] at hb; omega), by unfold Hid; rw [HW.out, World.drewN_drewN]⟩
              case measure => simp [intOf]; omega
            · have HBB := Lib.hid hb
              have hbb : decide ((8000000000000000000 : Int) ≤ t + x * y) = false := decide_eq_false (by omega)
              have ht9 : (t : Int) ≤ 9000000000000000000 := by omega
              clear hb ht
              go_wp2
              go_quiet (fail)
              go_wp2
              go_roundw
              case rel => exact ⟨i + 1, t + x * y, f, _, by go_num, vint (by rw [← Int.natCast_mul]; omega), rfl, by have hb := HBB.out; rw [← Int.natCast_mul] at hb; omega, HN.out.1, HN.out.2.1, HN.out.2.2, HS.out _ _ (by omega), by unfold Hid; rw [HW.out, World.drewN_drewN]⟩
              case measure => simp [intOf]; omega
          · have HD := Lib.hid (HI.out.done (by omega))
            have hw := HW.out
            subst hw
            have HN := Lib.hid (show k + 1 ≤ xs.length + ys.length by omega)
            have HM := Lib.hid (show xs.length + ys.length - (k + 1) < xs.length + ys.length - k by omega)
            first | have hiI : (k : Int) + 1 ≤ i := by omega | have hiI : (xs.length : Int) ≤ i := by omega
            have ht9 : (t : Int) / 1000000000 ≤ 8000000000 := by omega
            clear hx hy dx dy hi hi1 hi2 hi3 h1 h2 hk hk2 ht
            go_wp2
            go_roundw
            case rel => exact ⟨k + 1, t / 1000000000 + f, HN.out, by go_num, vint (by omega), HST.out j t f _ HD.out (by omega)⟩
            case measure => have := HM.out; simp [intOf]; omega
    · obtain ⟨zs, h1, h2, h3, h4, h5, h6⟩ := hR
      have e2 : cv = 0 ∧ val zs = val xs * val ys := by
        rw [mulLow_all _ _ _ (by omega), List.take_of_length_le (by omega)] at h5
        have b1 := val_lt dx
        have b2 := val_lt dy
        have b3 : val xs * val ys < 1000000000 ^ (xs.length + ys.length) := by
          rw [Nat.pow_add]; exact Nat.mul_lt_mul'' b1 b2
        have ek : k = xs.length + ys.length := by omega
        rw [ek] at h5
        rcases Nat.eq_zero_or_pos cv with h0 | h0
        · exact ⟨h0, by rw [h0] at h5; omega⟩
        · exfalso
          have : 1000000000 ^ (xs.length + ys.length) * 1 ≤ 1000000000 ^ (xs.length + ys.length) * cv := Nat.mul_le_mul_left _ h0
          omega
      have R1 := Lib.hid h1
      have R5 := Lib.hid e2.2
      clear h1 h5 h6 e2 dx dy hbd
      go_wp2_with fail
      rw [← R1.out]
      refine (trim_calls _ _ _ _ (Nat.le_refl _) (by rw [R1.out]; omega) h3.cells h2).mono ?_
      rintro e w' ⟨rfl, rfl⟩
      go_wp2
      go_ret
      exact ⟨_, rfl, by rw [← R5.out]; exact ⟨_, _, rfl, by rw [← trimN_length h2]; exact trimN_le _ _, by rw [R1.out]; omega, h3.cells.trim h2⟩, h4⟩

end Go.Proofs.Ytfjaboolfjgleaa
