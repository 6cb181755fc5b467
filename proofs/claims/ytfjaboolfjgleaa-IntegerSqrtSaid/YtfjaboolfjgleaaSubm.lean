/-
  The subtraction of a multiple in place, of the long division.
-/
import Derived.Test.YtfjaboolfjgleaaShort
import Derived.Deep.DeepCutAuto
namespace Go.Proofs.Ytfjaboolfjgleaa
open Go.RowKit

/-- The block g has changed, and nothing else that is a list of limbs. -/
def Only (g : Nat) (w w' : World) : Prop := ∀ h zs, h ≠ g → Blk w h zs → Blk w' h zs
theorem Only.refl (g : Nat) (w : World) : Only g w w := fun _ _ _ h => h
theorem Only.set {g : Nat} {w w' : World} (h : Only g w w') (i : Nat) (u : Value) : Only g w (w'.setCell ⟨g, i, none⟩ u) := fun k zs hk hb => (h k zs hk hb).far (p := ⟨g, i, none⟩) hk u
theorem drop_set_add (zs : List Nat) (j k d : Nat) : (zs.set (j + k) d).drop j = (zs.drop j).set k d := by
  rw [List.drop_set]
  rw [if_neg (by omega), Nat.add_sub_cancel_left]
theorem getD_drop (zs : List Nat) (j k : Nat) : (zs.drop j).getD k 0 = zs.getD (j + k) 0 := by
  simp [List.getD_eq_getElem?_getD]
/-- What the loop of subtractMultiple keeps. -/
def MS (w0 w : World) (g : Nat) (rs : List Nat) (j : Nat) (ys : List Nat) (q k c : Nat) (zs : List Nat) (wr : World) : Prop :=
  zs.length = rs.length ∧ Dig zs ∧ Blk wr g zs ∧ Ext w0 wr ∧ Only g w wr ∧ (∀ i, i < j ∨ j + k ≤ i → zs.getD i 0 = rs.getD i 0) ∧
    val ((zs.drop j).take k) + q * val (ys.take k) = val ((rs.drop j).take k) + 1000000000 ^ k * c ∧ c ≤ q
section
variable {w0 w : World} {g : Nat} {rs : List Nat} {j : Nat} {ys : List Nat} {q k c : Nat} {zs : List Nat} {wr : World}
theorem MS.step (h : MS w0 w g rs j ys q k c zs wr) (hg : w0.heap.size ≤ g) (hk : j + k < rs.length) (d c' : Nat) (hd : d < 1000000000)
    (he : d + (q * ys.getD k 0 + c) = rs.getD (j + k) 0 + 1000000000 * c') (hc : c' ≤ q) {V : Int} (hV : V = d) :
    MS w0 w g rs j ys q (k + 1) c' (zs.set (j + k) d) (wr.setCell ⟨g, j + k, none⟩ (.int .u32 V)) := by
  obtain ⟨h1, h2, h3, h4, h5, h6, h7, h8⟩ := h
  refine ⟨by simpa using h1, h2.set _ hd, h3.set' _ d (by omega) hV, h4.setCell (p := ⟨g, j + k, none⟩) hg _, h5.set _ _, ?_, ?_, hc⟩
  · intro i hi
    rw [getD_set_other _ _ _ _ (by omega)]
    exact h6 i (by omega)
  · rw [drop_set_add, val_take_set _ _ _ (by rw [List.length_drop]; omega), val_take_succ', val_take_succ' (rs.drop j), getD_drop, Nat.pow_succ]
    generalize 1000000000 ^ k = p at *
    generalize ys.getD k 0 = y at *
    generalize rs.getD (j + k) 0 = r at *
    generalize val (List.take k (List.drop j zs)) = A at *
    generalize val (List.take k (List.drop j rs)) = R at *
    generalize val (List.take k ys) = Y at *
    have e : p * (d + (q * y + c)) = p * (r + 1000000000 * c') := by rw [he]
    rw [Nat.mul_add, Nat.mul_add, Nat.mul_add, ← Nat.mul_assoc p 1000000000] at e
    have e2 : q * (Y + p * y) = q * Y + p * (q * y) := by rw [Nat.mul_add, Nat.mul_left_comm]
    rw [e2]
    omega
theorem MS.step2 (h : MS w0 w g rs j ys q k c zs wr) (hg : w0.heap.size ≤ g) (hk : j + k < rs.length) (d c' u : Nat) (hd : d < 1000000000)
    (he : d + (q * ys.getD k 0 + c) = rs.getD (j + k) 0 + 1000000000 * c') (hc : c' ≤ q) {U V : Int} (hU : U = u) (hV : V = d) :
    MS w0 w g rs j ys q (k + 1) c' (zs.set (j + k) d) ((wr.setCell ⟨g, j + k, none⟩ (.int .u32 U)).setCell ⟨g, j + k, none⟩ (.int .u32 V)) := by
  have hs := h.step hg hk d c' hd he hc hV
  obtain ⟨h1, h2, h3, h4, h5, h6, h7, h8⟩ := h
  have hb := (h3.set' (j + k) u (by omega) hU).set' (j + k) d (by simp; omega) hV
  rw [List.set_set] at hb
  exact ⟨hs.1, hs.2.1, hb, (h4.setCell (p := ⟨g, j + k, none⟩) hg _).setCell (p := ⟨g, j + k, none⟩) hg _, (h5.set _ _).set _ _, hs.2.2.2.2.2⟩
theorem ms_carry (x : Nat) (hq : q ≤ 1000000000) (hx : x < 1000000000) (hc : c ≤ q) (P : Nat) (hP : P = q * x + c) :
    P ≤ 1000000000 * q ∧ P ≤ 1000000000000000000 ∧ P / 1000000000 ≤ q ∧ (0 < P % 1000000000 → P / 1000000000 + 1 ≤ q) := by
  have h1 : q * x ≤ q * 999999999 := Nat.mul_le_mul_left _ (by omega)
  omega
end

/-- What subtractMultiple leaves: the low limbs of the part, and whether the top limb lacks. -/
def SubmPost (w0 w : World) (g : Nat) (rs : List Nat) (j : Nat) (ys : List Nat) (q : Nat) (e : Ending) (w' : World) : Prop :=
  ∃ (c : Nat) (zs : List Nat), e = .returned (.bool (decide (rs.getD (j + ys.length) 0 < c))) ∧ MS w0 w g rs j ys q ys.length c zs w'

set_option maxRecDepth 100000 in
set_option maxHeartbeats 1600000 in
theorem subtractMultiple_calls (w0 w : World) (g : Nat) (rs : List Nat) (j : Nat) (ay : Option Addr) (ys : List Nat) (cp cy q : Nat) (hg : w0.heap.size ≤ g) (hb : Blk w g rs) (dr : Dig rs) (hE : Ext w0 w)
    (hy : Cells w0 ay ys) (dy : Dig ys) (hj : j + ys.length + 1 ≤ rs.length) (lr : rs.length ≤ 1099511627776) (hq : q ≤ 1000000000) :
    Calls Try.prog 81 #[.slice (some ⟨g, j, none⟩) (ys.length + 1) cp, .slice ay ys.length cy, .int .u64 (q : Int)] w (SubmPost w0 w g rs j ys q) := by
  have h0 : MS w0 w g rs j ys q 0 0 rs w := ⟨rfl, dr, hb, hE, Only.refl _ _, fun _ _ => rfl, by simp [val], Nat.zero_le _⟩
  go_enter Try.func81, Try.ntmps81
  go_wp2
  go_loopw [7, 8, 9, 10, 11, 14] (fun c _ _ _ _ n wr => ∃ (k cv : Nat) (zs : List Nat), k ≤ ys.length ∧ n = .int .i64 k ∧ c = .int .u64 cv ∧ MS w0 w g rs j ys q k cv zs wr) (fun _ _ _ _ _ n _ => ys.length - (intOf n).toNat)
  case atStart => exact ⟨0, 0, _, Nat.zero_le _, rfl, rfl, h0⟩
  case round =>
    obtain ⟨k, cv, zs, hk, rfl, rfl, hR⟩ := hrel
    clear h0
    by_cases hk2 : k < ys.length
    · have hzc := hR.2.2.1.cell (j + k) (by have := hR.1; omega)
      rw [hR.2.2.2.2.2.1 (j + k) (by omega)] at hzc
      have hzf := hR.2.2.1.frozen (j + k)
      obtain ⟨b1, o1, rfl, hx1⟩ := hy.at_ (by omega)
      have hcx := hR.2.2.2.1.cell (hx1 k hk2)
      have bx0 := dy k
      have bp0 := dr (j + k)
      have hst := fun d c' hd he hc V hV => hR.step hg (by omega) d c' hd he hc (V := V) hV
      have hst2 := fun d c' u hd he hc U V hU hV => hR.step2 hg (by omega) d c' u hd he hc (U := U) (V := V) hU hV
      obtain ⟨P, hP⟩ : ∃ P, P = q * ys.getD k 0 + cv := ⟨_, rfl⟩
      obtain ⟨m1, m2, m3, m4⟩ := ms_carry (ys.getD k 0) hq bx0 hR.2.2.2.2.2.2.2 P hP
      rw [← hP] at hst hst2
      generalize rs.getD (j + k) 0 = p at *
      generalize ys.getD k 0 = x at *
      obtain ⟨M, hM⟩ : ∃ M, M = q * x := ⟨_, rfl⟩
      have hMI : (q : Int) * (x : Int) = (M : Int) := by rw [hM]; simp
      rw [← hM] at hP
      have hPI : (M : Int) + (cv : Int) = (P : Int) := by omega
      have hMw : (M : Int) ≤ 1000000000000000000 := by omega
      have hPw : (P : Int) ≤ 2000000000000000000 := by omega
      obtain ⟨l, hl⟩ : ∃ l, l = P % 1000000000 := ⟨_, rfl⟩
      obtain ⟨c1, hc1⟩ : ∃ c1, c1 = P / 1000000000 := ⟨_, rfl⟩
      have hlI : (P : Int) % 1000000000 = (l : Int) := by omega
      have hlT : (P : Int).tmod 1000000000 = (l : Int) := by rw [Int.tmod_eq_emod_of_nonneg (by omega)]; omega
      have hcI : (P : Int) / 1000000000 = (c1 : Int) := by omega
      have hcT : (P : Int).tdiv 1000000000 = (c1 : Int) := by rw [Int.tdiv_eq_ediv_of_nonneg (by omega)]; omega
      have hlw : (l : Int) < 1000000000 := by omega
      have hcw : (c1 : Int) ≤ 2000000000 := by omega
      have HP := Lib.hid (show P = c1 * 1000000000 + l by omega)
      rw [← hl, ← hc1] at m4
      rw [← hc1] at m3
      have HM := Lib.hid (And.intro m3 m4)
      have HQ := Lib.hid hq
      have bp : (p : Int) < 1000000000 := by omega
      have bx : (x : Int) < 1000000000 := by omega
      have HST := Lib.hid hst
      have HST2 := Lib.hid hst2
      clear hst hst2 hx1 bx0 hP m1 m2 m3 m4 hM hq bp0 hl hc1
      go_upto_region 8 with fail
      have kn : (k : Int) < (ys.length : Int) + 1 := by omega
      have kn2 : (k : Int) ≤ (ys.length : Int) := by omega
      clear hPI hMI hMw hPw hlI hlT hcI
      by_cases hlt : p < l
      · have hltI : (p : Int) < (l : Int) := by omega
        clear hlt
        go_wp2
        go_roundw
        case rel => exact ⟨k + 1, c1 + 1, _, by omega, by go_num, by go_num, HST2.out (p + 1000000000 - l) (c1 + 1) (p + 1000000000) (by omega) (by have := HP.out; omega) (HM.out.2 (by omega)) _ _ (by omega) (by omega)⟩
        case measure => simp [intOf]; omega
      · obtain ⟨d, hd⟩ : ∃ d, d = p - l := ⟨_, rfl⟩
        have hdI : (p : Int) - (l : Int) = (d : Int) := by omega
        have hltI : (l : Int) ≤ (p : Int) := by omega
        have hdw : (d : Int) < 1000000000 := by omega
        have HD := Lib.hid (show p = d + l by omega)
        clear hlt hd hlw bp
        generalize hpi : (p : Int) = pi at hzc hdI hltI ⊢
        generalize hli : (l : Int) = li at hdI hltI ⊢
        have HPI := Lib.hid hpi
        have HLI := Lib.hid hli
        have hlb : ¬ pi < li := by omega
        have HDI := Lib.hid hdI
        clear hpi hli hltI hdI
        go_upto_region 11 with fail
        have hdI := HDI.out
        clear hlb
        go_wp2
        go_roundw
        case rel => exact ⟨k + 1, c1, _, by omega, by go_num, by go_num, HST.out d c1 (by omega) (by have := HP.out; have := HD.out; omega) HM.out.1 _ (by omega)⟩
        case measure => simp [intOf]; omega
    · obtain rfl : k = ys.length := by omega
      have hzc := hR.2.2.1.cell (j + ys.length) (by have := hR.1; omega)
      rw [hR.2.2.2.2.2.1 (j + ys.length) (by omega)] at hzc
      obtain ⟨t, ht⟩ : ∃ t, t = rs.getD (j + ys.length) 0 := ⟨_, rfl⟩
      have bt := dr (j + ys.length)
      rw [← ht] at hzc bt
      have btI : (t : Int) < 1000000000 := by omega
      have HT := Lib.hid ht
      clear ht bt
      go_wp2
      go_ret
      exact ⟨cv, zs, by rw [← HT.out]; simp, hR⟩

end Go.Proofs.Ytfjaboolfjgleaa
