/-
  The long division: what its loop keeps.
-/
import Derived.Test.YtfjaboolfjgleaaEstim
import Derived.Laws.CopyOwn
namespace Go.Proofs.Ytfjaboolfjgleaa
open Go.RowKit

theorem Only.trans {g : Nat} {a b c : World} (h : Only g a b) (k : Only g b c) : Only g a c := fun x zs hx hb => k x zs hx (h x zs hx hb)
theorem Only.ext {g : Nat} {a b : World} (h : Ext a b) : Only g a b := fun _ _ _ hb => hb.ext h
theorem val_take_drop (zs : List Nat) (j n : Nat) (h : j ≤ zs.length) : val (zs.take (j + n)) = val (zs.take j) + 1000000000 ^ j * val ((zs.drop j).take n) := by
  have e : zs.take (j + n) = zs.take j ++ (zs.drop j).take n := by rw [List.take_add]
  rw [e, val_append, List.length_take, Nat.min_eq_left h]
theorem take_eq_of {zs ws : List Nat} {j : Nat} (hl : ws.length = zs.length) (h : ∀ i, i < j → ws.getD i 0 = zs.getD i 0) : ws.take j = zs.take j := by
  apply List.ext_getElem?
  intro i
  rw [List.getElem?_take, List.getElem?_take]
  by_cases hi : i < j
  · rw [if_pos hi, if_pos hi]
    have := h i hi
    by_cases h1 : i < zs.length
    · have h2 : i < ws.length := by omega
      rw [List.getD_eq_getElem?_getD, List.getD_eq_getElem?_getD, List.getElem?_eq_getElem h1, List.getElem?_eq_getElem h2] at this
      rw [List.getElem?_eq_getElem h1, List.getElem?_eq_getElem h2]
      simpa using this
    · rw [List.getElem?_eq_none (by omega), List.getElem?_eq_none (by omega)]
  · rw [if_neg hi, if_neg hi]

/-- What the loop of divideLong keeps: block g holds what is left, block g + 1 the digits so far. -/
def LongRel (w : World) (g : Nat) (xs ys : List Nat) (k : Nat) (zs qs : List Nat) (wr : World) : Prop :=
  zs.length = xs.length + 1 ∧ Dig zs ∧ Blk wr g zs ∧ qs.length + ys.length = xs.length + 1 ∧ Dig qs ∧ Blk wr (g + 1) qs ∧ Ext w wr ∧
    val xs = val (zs.take (k + ys.length)) + val ys * (1000000000 ^ k * val (qs.drop k)) ∧ val ((zs.drop k).take ys.length) < val ys
section
variable {w : World} {g : Nat} {xs ys : List Nat} {k : Nat} {zs qs : List Nat} {wr : World}
/-- The part of a round, and its quotient. -/
theorem LongRel.part (h : LongRel w g xs ys (k + 1) zs qs wr) (hk : k + 1 + ys.length ≤ xs.length + 1) :
    val ((zs.drop k).take (ys.length + 1)) < 1000000000 * val ys ∧ val ((zs.drop k).take (ys.length + 1)) = val ((zs.drop k).take ys.length) + 1000000000 ^ ys.length * zs.getD (k + ys.length) 0 := by
  obtain ⟨h1, h2, h3, h4, h5, h6, h7, h8, h9⟩ := h
  refine ⟨?_, ?_⟩
  · have e : (zs.drop k).take (ys.length + 1) = zs.getD k 0 :: (zs.drop (k + 1)).take ys.length := by
      rw [drop_getD zs k (by omega), List.take_succ_cons]
    rw [e, val]
    have := h2 k
    omega
  · rw [val_take_succ', getD_drop]
theorem LongRel.step (h : LongRel w g xs ys (k + 1) zs qs wr) (hg : w.heap.size ≤ g) (hk : k + 1 + ys.length ≤ xs.length + 1) {ws : List Nat} {w2 : World} (l : ws.length = zs.length) (d : Dig ws) (b : Blk w2 g ws) (e : Ext w w2) (o : Only g wr w2)
    (hlow : ∀ i, i < k → ws.getD i 0 = zs.getD i 0) (hr : val ((ws.drop k).take ys.length) = val ((zs.drop k).take (ys.length + 1)) % val ys) (q : Nat) (hq : q = val ((zs.drop k).take (ys.length + 1)) / val ys) {V : Int} (hV : V = q) :
    LongRel w g xs ys k ws (qs.set k q) (w2.setCell ⟨g + 1, k, none⟩ (.int .u32 V)) := by
  obtain ⟨hp1, hp2⟩ := h.part hk
  obtain ⟨h1, h2, h3, h4, h5, h6, h7, h8, h9⟩ := h
  have hy : 0 < val ys := by omega
  have hq1 : q < 1000000000 := by rw [hq]; exact Nat.div_lt_of_lt_mul (by rw [Nat.mul_comm]; exact hp1)
  have hb2 := o (g + 1) qs (by omega) h6
  refine ⟨by omega, d, b.far (p := ⟨g + 1, k, none⟩) (Nat.ne_of_lt (Nat.lt_succ_self g)) _, by simpa using h4, h5.set k hq1, hb2.set' k q (by omega) hV, e.setCell (p := ⟨g + 1, k, none⟩) (Nat.le_succ_of_le hg) _, ?_, ?_⟩
  · rw [h8]
    have e1 : k + 1 + ys.length = k + (ys.length + 1) := by omega
    rw [e1, val_take_drop zs k _ (by omega), val_take_drop ws k _ (by omega), take_eq_of l hlow, hr]
    have e2 := val_drop (qs.set k q) k (by rw [List.length_set]; omega)
    have e3 : (qs.set k q).getD k 0 = q := by simp [List.getD_eq_getElem?_getD, show k < qs.length by omega]
    have e4 : (qs.set k q).drop (k + 1) = qs.drop (k + 1) := by rw [List.drop_set_of_lt (by omega)]
    rw [e3, e4] at e2
    rw [e2]
    have e5 := Nat.div_add_mod (val ((zs.drop k).take (ys.length + 1))) (val ys)
    rw [← hq] at e5
    rw [Nat.pow_succ]
    generalize val ((zs.drop k).take (ys.length + 1)) % val ys = r at *
    generalize val ((zs.drop k).take (ys.length + 1)) = p at *
    generalize val (qs.drop (k + 1)) = Q at *
    generalize val ys = Y at *
    generalize 1000000000 ^ k = B at *
    generalize val (zs.take k) = L at *
    rw [← e5]
    simp only [Nat.mul_add]
    have m1 : B * (Y * q) = Y * (B * q) := Nat.mul_left_comm _ _ _
    have m2 : Y * (B * 1000000000 * Q) = Y * (B * (1000000000 * Q)) := by rw [Nat.mul_assoc B]
    omega
  · rw [hr]; exact Nat.mod_lt _ hy
theorem LongRel.done (h : LongRel w g xs ys 0 zs qs wr) : val xs / val ys = val qs ∧ val xs % val ys = val (zs.take ys.length) := by
  obtain ⟨h1, h2, h3, h4, h5, h6, h7, h8, h9⟩ := h
  rw [List.drop_zero] at h9
  rw [Nat.zero_add, Nat.pow_zero, Nat.one_mul, List.drop_zero] at h8
  exact (Nat.div_mod_unique (by omega)).2 ⟨by omega, h9⟩
end
/-- The numbers of a round of divideLong. -/
theorem long_est {ps ys : List Nat} {m : Nat} (hp : ps.length = m + 3) (hy : ys.length = m + 2) (dp : Dig ps) (dy : Dig ys) (hlt : val ps < 1000000000 * val ys) (htop : ys.getD (m + 1) 0 ≠ 0) :
    val (ps.drop m) < 1000000001 * val (ys.drop m) ∧ val ps / val ys ≤ val (ps.drop m) / val (ys.drop m) ∧ val (ps.drop m) / val (ys.drop m) ≤ val ps / val ys + 1 ∧ val (ps.drop m) / val (ys.drop m) ≤ 1000000000 := by
  have e1 := val_split ps m (by omega)
  have e2 := val_split ys m (by omega)
  have b1 := val_lt (dp.take m)
  have b2 := val_lt (dy.take m)
  rw [List.length_take, Nat.min_eq_left (by omega)] at b1 b2
  have b3 : 1000000000 ≤ val (ys.drop m) := by
    rw [val_drop ys m (by omega), val_drop ys (m + 1) (by omega)]
    omega
  have := est_bounds (D := 1000000000 ^ m) (p3 := val (ps.drop m)) (p0 := val (ps.take m)) (y2 := val (ys.drop m)) (y0 := val (ys.take m)) (B := 1000000000) (Nat.pow_pos (by omega)) b1 b2 b3 (by omega)
    (by rw [Nat.mul_comm _ (1000000000 ^ m), Nat.mul_comm _ (1000000000 ^ m)]; omega)
  rw [Nat.mul_comm _ (1000000000 ^ m), Nat.mul_comm _ (1000000000 ^ m), Nat.add_comm (1000000000 ^ m * _), Nat.add_comm (1000000000 ^ m * _), ← e1, ← e2] at this
  exact this
/-- Where the estimate was too great, one lacks. -/
theorem over_lacks {N low low' t c q Y r : Nat} (hN : 0 < N) (hY : Y ≤ N) (hr : r < Y) (hP : low + N * t = q * Y + r) (hl : low' < N) (h : low' + (q + 1) * Y = low + N * c) : t < c :=
  (round_over hY hr hP hl h (low2 := (low' + Y) % N) (c2 := (low' + Y) / N) (Nat.mod_lt _ hN) (by have := Nat.div_add_mod (low' + Y) N; omega)).1

end Go.Proofs.Ytfjaboolfjgleaa
