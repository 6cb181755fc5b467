/-
  The addition in place, of the long division.
-/
import Derived.Test.YtfjaboolfjgleaaSubm
namespace Go.Proofs.Ytfjaboolfjgleaa
open Go.RowKit

/-- What the loop of addBack keeps. -/
def AB (w0 w : World) (g : Nat) (rs : List Nat) (j : Nat) (ys : List Nat) (k c : Nat) (zs : List Nat) (wr : World) : Prop :=
  zs.length = rs.length ∧ Dig zs ∧ Blk wr g zs ∧ Ext w0 wr ∧ Only g w wr ∧ (∀ i, i < j ∨ j + k ≤ i → zs.getD i 0 = rs.getD i 0) ∧
    val ((zs.drop j).take k) + 1000000000 ^ k * c = val ((rs.drop j).take k) + val (ys.take k) ∧ c ≤ 1
section
variable {w0 w : World} {g : Nat} {rs : List Nat} {j : Nat} {ys : List Nat} {k c : Nat} {zs : List Nat} {wr : World}
theorem AB.step (h : AB w0 w g rs j ys k c zs wr) (hg : w0.heap.size ≤ g) (hk : j + k < rs.length) (d c' : Nat) (hd : d < 1000000000)
    (he : d + 1000000000 * c' = rs.getD (j + k) 0 + (ys.getD k 0 + c)) (hc : c' ≤ 1) {V : Int} (hV : V = d) :
    AB w0 w g rs j ys (k + 1) c' (zs.set (j + k) d) (wr.setCell ⟨g, j + k, none⟩ (.int .u32 V)) := by
  obtain ⟨h1, h2, h3, h4, h5, h6, h7, h8⟩ := h
  refine ⟨by simpa using h1, h2.set _ hd, h3.set' _ d (by omega) hV, h4.setCell (p := ⟨g, j + k, none⟩) hg _, h5.set _ _, ?_, ?_, hc⟩
  · intro i hi
    rw [getD_set_other _ _ _ _ (by omega)]
    exact h6 i (by omega)
  · rw [drop_set_add, val_take_set _ _ _ (by rw [List.length_drop]; omega), val_take_succ' (rs.drop j), val_take_succ' ys, getD_drop, Nat.pow_succ]
    generalize 1000000000 ^ k = p at *
    generalize ys.getD k 0 = y at *
    generalize rs.getD (j + k) 0 = r at *
    generalize val (List.take k (List.drop j zs)) = A at *
    generalize val (List.take k (List.drop j rs)) = R at *
    generalize val (List.take k ys) = Y at *
    have e : p * (d + 1000000000 * c') = p * (r + (y + c)) := by rw [he]
    rw [Nat.mul_add, Nat.mul_add, Nat.mul_add, ← Nat.mul_assoc p 1000000000] at e
    omega
theorem AB.step2 (h : AB w0 w g rs j ys k c zs wr) (hg : w0.heap.size ≤ g) (hk : j + k < rs.length) (d c' u : Nat) (hd : d < 1000000000)
    (he : d + 1000000000 * c' = rs.getD (j + k) 0 + (ys.getD k 0 + c)) (hc : c' ≤ 1) {U V : Int} (hU : U = u) (hV : V = d) :
    AB w0 w g rs j ys (k + 1) c' (zs.set (j + k) d) ((wr.setCell ⟨g, j + k, none⟩ (.int .u32 U)).setCell ⟨g, j + k, none⟩ (.int .u32 V)) := by
  have hs := h.step hg hk d c' hd he hc hV
  obtain ⟨h1, h2, h3, h4, h5, h6, h7, h8⟩ := h
  have hb := (h3.set' (j + k) u (by omega) hU).set' (j + k) d (by simp; omega) hV
  rw [List.set_set] at hb
  exact ⟨hs.1, hs.2.1, hb, (h4.setCell (p := ⟨g, j + k, none⟩) hg _).setCell (p := ⟨g, j + k, none⟩) hg _, (h5.set _ _).set _ _, hs.2.2.2.2.2⟩
end

/-- What addBack leaves. -/
def AddbPost (w0 w : World) (g : Nat) (rs : List Nat) (j : Nat) (ys : List Nat) (e : Ending) (w' : World) : Prop :=
  ∃ (c : Nat) (zs : List Nat), e = .returned (.tuple #[]) ∧ AB w0 w g rs j ys ys.length c zs w'

set_option maxRecDepth 100000 in
set_option maxHeartbeats 1600000 in
theorem addBack_calls (w0 w : World) (g : Nat) (rs : List Nat) (j : Nat) (ay : Option Addr) (ys : List Nat) (cp cy : Nat) (hg : w0.heap.size ≤ g) (hb : Blk w g rs) (dr : Dig rs) (hE : Ext w0 w)
    (hy : Cells w0 ay ys) (dy : Dig ys) (hj : j + ys.length + 1 ≤ rs.length) (lr : rs.length ≤ 1099511627776) :
    Calls Try.prog 82 #[.slice (some ⟨g, j, none⟩) (ys.length + 1) cp, .slice ay ys.length cy] w (AddbPost w0 w g rs j ys) := by
  have h0 : AB w0 w g rs j ys 0 0 rs w := ⟨rfl, dr, hb, hE, Only.refl _ _, fun _ _ => rfl, by simp [val], Nat.zero_le _⟩
  go_enter Try.func82, Try.ntmps82
  go_wp2
  go_loopw [4, 5, 6, 9] (fun c _ _ n wr => ∃ (k cv : Nat) (zs : List Nat), k ≤ ys.length ∧ n = .int .i64 k ∧ c = .int .u32 cv ∧ AB w0 w g rs j ys k cv zs wr) (fun _ _ _ n _ => ys.length - (intOf n).toNat)
  case atStart => exact ⟨0, 0, _, Nat.zero_le _, rfl, rfl, h0⟩
  case round =>
    obtain ⟨k, cv, zs, hk, rfl, rfl, hR⟩ := hrel
    clear h0
    by_cases hk2 : k < ys.length
    · have hzc := hR.2.2.1.cell (j + k) (by have := hR.1; omega)
      rw [hR.2.2.2.2.2.1 (j + k) (by omega)] at hzc
      have hzf := hR.2.2.1.frozen (j + k)
      obtain ⟨b1, o1, rfl, hx1⟩ := hy.at_ (by omega)
      have hcx := hR.2.2.2.1.cell (hx1 k hk2)
      have bx0 := dy k
      have bp0 := dr (j + k)
      have bc0 := hR.2.2.2.2.2.2.2
      have hst := fun d c' hd he hc V hV => hR.step hg (by omega) d c' hd he hc (V := V) hV
      have hst2 := fun d c' u hd he hc U V hU hV => hR.step2 hg (by omega) d c' u hd he hc (U := U) (V := V) hU hV
      generalize rs.getD (j + k) 0 = p at *
      generalize ys.getD k 0 = x at *
      obtain ⟨M, hM⟩ : ∃ M, M = x + cv := ⟨_, rfl⟩
      obtain ⟨S, hS⟩ : ∃ S, S = p + M := ⟨_, rfl⟩
      have hMI : (x : Int) + (cv : Int) = (M : Int) := by omega
      have hSI : (p : Int) + (M : Int) = (S : Int) := by omega
      have hMw : (M : Int) ≤ 1000000000 := by omega
      have hSw : (S : Int) ≤ 2000000000 := by omega
      have HP := Lib.hid (show S = p + (x + cv) by omega)
      have HB := Lib.hid (show S ≤ 1999999999 by omega)
      have HST := Lib.hid hst
      have HST2 := Lib.hid hst2
      have kn : (k : Int) < (ys.length : Int) + 1 := by omega
      have kn2 : (k : Int) ≤ (ys.length : Int) := by omega
      clear hst hst2 hx1 bx0 bp0 bc0 hM hS
      by_cases hlt : 1000000000 ≤ S
      · have HL := Lib.hid hlt
        have hge : (1000000000 : Int) ≤ (S : Int) := by omega
        clear hlt
        go_wp2
        go_roundw
        case rel => exact ⟨k + 1, 1, _, by omega, by go_num, by go_num, HST2.out (S - 1000000000) 1 S (by have := HB.out; omega) (by have := HP.out; have := HL.out; omega) (by omega) _ _ (by omega) (by have := HL.out; omega)⟩
        case measure => simp [intOf]; omega
      · have HL := Lib.hid hlt
        have hge : ¬ (1000000000 : Int) ≤ (S : Int) := by omega
        clear hlt
        go_wp2
        go_roundw
        case rel => exact ⟨k + 1, 0, _, by omega, by go_num, by go_num, HST.out S 0 (by have := HL.out; omega) (by have := HP.out; omega) (by omega) _ (by omega)⟩
        case measure => simp [intOf]; omega
    · obtain rfl : k = ys.length := by omega
      go_wp2
      go_end0
      exact ⟨cv, zs, rfl, hR⟩

end Go.Proofs.Ytfjaboolfjgleaa
